import Derived.RangeFuncNested
import Derived.RangeFuncFrom
import Derived.IntWalk
import Derived.Test.YtnjlkhhcfiedbaaGreatDoorSl
import Derived.Test.YtnjlkhhcfiedbaaGreatDoorMake
import Derived.Test.YtnjlkhhcfiedbaaGreatDoorExQ
import Derived.Test.YtnjlkhhcfiedbaaGreatDoorMapK
import Derived.Test.YtnjlkhhcfiedbaaGreatDoorCcmp
import Derived.Test.YtnjlkhhcfiedbaaGreatDoorRegP
namespace Go.Proofs.YtnjlkhhcfiedbaaGreatDoor
open Go.RowKit Go.Shelf
theorem runs_len {m:Nat}:∀ (l H:List Cel),(runsP m H l).flatten.length≤H.length+l.length
 | [],H=>by
  unfold runsP
  split <;> simp
 | c :: l,H=>by
  have h2:=putC_lt c H
  unfold runsP
  split
  ·have:=runs_len (m:=m) l (putC H c)
   rw[List.length_cons]
   omega
  ·split
   ·have:=runs_len (m:=m) l [c]
    rw[List.flatten_cons,List.length_append,List.length_cons]
    rw[List.length_singleton] at this
    omega
   ·have:=runs_len (m:=m) l (putC H c)
    rw[List.length_cons]
    omega
def RunsC (w:World) (P:Option Addr) (n:Nat) (Js:List (List Cel)):Prop:=0<n→∃ ad,P=some ad∧∀ i J,Js[i]? = some J→∃ Pi ci,w.cell? (ad.add i)=some (.slice Pi J.length ci)∧RowC w Pi J.length J∧J.length≤ci∧ci≤maxLen∧(Pi=none→ci=0)
theorem RunsC.keep {w w':World} {P:Option Addr} {n:Nat} {Js:List (List Cel)} (h:RunsC w P n Js) (hk:Keeps w w'):RunsC w' P n Js:=fun hn=>by
 obtain⟨ad,e,hc⟩:=h hn
 refine⟨ad,e,fun i J hJ=>?_⟩
 obtain⟨Pi,ci,h1,h2,h3⟩:=hc i J hJ
 exact⟨Pi,ci,hk _ _ h1,h2.keep hk,h3⟩
end Go.Proofs.YtnjlkhhcfiedbaaGreatDoor
namespace Go.Proofs.YtnjlkhhcfiedbaaGreatDoor
open Go.RowKit Go.Shelf
attribute [local go_sem] Oper.semAt_some
def prs {α:Type} (l:List α):List (α × α):=l.zip (l.drop 1)
theorem prs_at {α:Type} {l:List α} {k:Nat} {a b:α} (ha:l[k]? = some a) (hb:l[k+1]? = some b):prs (l.drop k)=(a,b) :: prs (l.drop (k+1)):=by
 have h1:l.drop k=a :: l.drop (k+1):=by rw[List.drop_eq_getElem_cons (List.getElem?_eq_some_iff.1 ha).1,(List.getElem?_eq_some_iff.1 ha).2]
 have h2:l.drop (k+1)=b :: l.drop (k+2):=by rw[List.drop_eq_getElem_cons (List.getElem?_eq_some_iff.1 hb).1,(List.getElem?_eq_some_iff.1 hb).2]
 unfold prs
 rw[h1,h2]
 rfl
theorem prs_end {α:Type} {l:List α} {k:Nat} (h:l.length≤k+1):prs (l.drop k)=[]:=by
 unfold prs
 have:(l.drop k).drop 1=[]:=by rw[List.drop_drop,List.drop_eq_nil_iff];omega
 rw[this,List.zip_nil_right]
theorem prs_mem {α:Type} {l:List α} {p:α × α} (h:p ∈ prs l):p.1 ∈ l∧p.2 ∈ l:=by
 unfold prs at h
 have:=List.of_mem_zip h
 exact⟨this.1,List.mem_of_mem_drop this.2⟩
abbrev Nb (D:List (V5 × Cel)):={ p:(V5 × Cel) × (V5 × Cel) // p ∈ prs D }
def encN (x:(V5 × Cel) × (V5 × Cel)):Array Value:=#[.agg #[x.1.1.a,x.1.1.b,x.1.1.c,x.1.1.d,x.1.1.e],.agg #[x.2.1.a,x.2.1.b,x.2.1.c,x.2.1.d,x.2.1.e]]
set_option maxHeartbeats 1000000 in
theorem neigh_any (P:Option Addr) (m c:Nat) (w:World) :
  Calls Tryz.prog 115 #[.slice P m c] w fun e w'=>e=.returned (.func (.func 149) #[] #[.pointer (some ⟨w.heap.size,0,none⟩)])∧w'=w.alloc (.cells #[.slice P m c] 31):=by
 go_enter Tryz.func115,Tryz.ntmps115
 go_wp2
 go_ret
 exact⟨rfl,rfl⟩
set_option maxRecDepth 100000 in
set_option maxHeartbeats 4000000 in
theorem neigh_in (n l bk:Nat) (_hn:1≤n) (A:Option Addr) (c N:Nat) (D:List (V5 × Cel)) (w0 W:World) (hN:N=D.length) (hN1:N≤1000)
  (hD:∀ x ∈ D,Reads w0 x.1 x.2)
  (hcv:0<N→∃ ad,A=some ad∧∀ j u,(flatV (D.map (·.1)))[j]? = some u→w0.cell? (ad.add j)=some u)
  (J Jx:List (Nb D)→World→Prop) (hA:AbidesFrom W.heap.size J) (hbW:Below w0.heap.size w0 W)
  (hY:∀ pre x W1,J pre W1→pre.length<(prs D).length→YieldAt Fence.wide (n - 1) Tryz.prog l (encN x.1) W1 fun e W' =>
   (e=.returned (.bool true)∧J (pre ++ [x]) W'∧Below w0.heap.size W1 W')∨(e=.returned (.bool false)∧Jx (pre ++ [x]) W'))
  (hbk:w0.cell? ⟨bk,0,none⟩=some (.slice A N c)) (h0:J [] W) :
  CallsIn Fence.wide n Tryz.prog 149 #[.func (.yield l) #[] #[],.pointer (some ⟨bk,0,none⟩)] W fun e W'=>(∃ v,e=.returned v) ∧
   ((∃ ys:List (Nb D),ys.map (·.1)=prs D∧J ys W')∨(∃ pre:List (Nb D),True∧Jx pre W')):=by
 have HD:=Lib.hid hD
 have HCV:=Lib.hid hcv
 have HY:=Lib.hid hY
 have HN:=Lib.hid hN
 have HA:=Lib.hid hA
 clear hD hcv hY hN hA
 refine callsIn_of_wp Tryz.func149 rfl trivial ?_ rfl
 simp only[Tryz.ntmps149,List.size_toArray,List.length_cons,List.length_nil,Nat.reduceAdd,Nat.reduceSub,Array.replicate_succ,Array.replicate_zero,List.push_toArray,List.append_toArray,List.nil_append,List.cons_append]
 gi_wp2
 gi_loopw [3] (fun p wr=>∃ (k:Nat) (pre:List (Nb D)),p=.int .i64 ((k+1:Nat):Int)∧(k=0∨k+1≤N)∧prs D=pre.map (·.1) ++ prs (D.drop k)∧J pre wr∧Below w0.heap.size w0 wr) (fun p _=>N+1 - (intOf p).toNat)
 case atStart=>exact⟨0,[],rfl,.inl rfl,by rw[List.drop_zero];rfl,h0,hbW⟩
 case round =>
  obtain⟨k,pre,rfl,hk,hx,hJ,hB⟩:=hrel
  rename World=>wr
  clear h0 hbW
  obtain⟨i,hi⟩:∃ i,i=k+1:=⟨_,rfl⟩
  rw[← hi]
  have hk0:Keeps w0 wr:=Keeps.of_below hB
  have cbk:=hk0 _ _ hbk
  have hJd:J pre wr.drew:=HA.out _ _ _ _ hJ (grown_drew wr) (fun r e=>by cases e)
  have hBd:Below w0.heap.size w0 wr.drew:=hB.drew
  have HJ:=Lib.hid hJd
  have HB:=Lib.hid hBd
  by_cases hlt:i<N
  ·have d1:decide ((i:Int)<(N:Int))=true:=decide_eq_true (by omega)
   obtain⟨x,hx1⟩:∃ x,D[k]? = some x:=⟨_,List.getElem?_eq_getElem (by rw[← HN.out];omega)⟩
   obtain⟨y,hy1⟩:∃ y,D[k+1]? = some y:=⟨_,List.getElem?_eq_getElem (by rw[← HN.out];omega)⟩
   have hcons:=prs_at hx1 hy1
   rw[hcons] at hx
   have hmem:(x,y) ∈ prs D:=by rw[hx];simp
   obtain⟨hb1,hcr,-⟩:=HD.out x (List.mem_of_getElem? hx1)
   obtain⟨hb2,hcs,-⟩:=HD.out y (List.mem_of_getElem? hy1)
   obtain⟨ad,rfl,hcv⟩:=HCV.out (by omega)
   have g1:(D.map (·.1))[k]? = some x.1:=by rw[List.getElem?_map,hx1];rfl
   have g2:(D.map (·.1))[i]? = some y.1:=by rw[hi,List.getElem?_map,hy1];rfl
   obtain⟨r0,r1,r2,r3,r4⟩:=at5 g1 hcv
   obtain⟨s0,s1,s2,s3,s4⟩:=at5 g2 hcv
   have kd:Keeps w0 wr.drew:=Keeps.of_below hBd
   have t0:=kd _ _ r0
   have t1:=kd _ _ r1
   have t2:=kd _ _ r2
   have t3:=kd _ _ r3
   have t4:=kd _ _ r4
   have v0:=kd _ _ s0
   have v1:=kd _ _ s1
   have v2:=kd _ _ s2
   have v3:=kd _ _ s3
   have v4:=kd _ _ s4
   have tb:=kd _ _ hbk
   have hYx:=HY.out pre ⟨(x,y),hmem⟩
   have hX:=(show prs D=(pre ++ [(⟨(x,y),hmem⟩:Nb D)]).map (·.1) ++ prs (D.drop (k+1)) from hx.trans (by simp))
   have hpl:pre.length<(prs D).length:=by rw[hx];simp
   obtain⟨fn,tmps,assign,body,hy,hR⟩:=hYx wr.drew hJd hpl
   obtain⟨z,hz⟩:∃ z:Nb D,z=⟨(x,y),hmem⟩:=⟨_,rfl⟩
   rw[← hz] at hX hR
   have HX:=Lib.hid hX
   have HR:=Lib.hid hR
   obtain⟨⟨xa,xb,xc,xd,xe⟩,xx⟩:=x
   obtain⟨⟨ya,yb,yc,yd,ye⟩,yy⟩:=y
   dsimp only at t0 t1 t2 t3 t4 v0 v1 v2 v3 v4 hb1 hb2 hcr hcs
   unfold encN at hy
   dsimp only at hy
   obtain⟨P1,q1,e1,-⟩:=hcr.key
   obtain⟨P2,q2,e2,-⟩:=hcr.sum
   obtain⟨P3,q3,e3,-⟩:=hcr.mn
   obtain⟨P4,q4,e4,-⟩:=hcr.mx
   subst hb1 e1 e2 e3 e4
   obtain⟨Q1,o1,f1,-⟩:=hcs.key
   obtain⟨Q2,o2,f2,-⟩:=hcs.sum
   obtain⟨Q3,o3,f3,-⟩:=hcs.mn
   obtain⟨Q4,o4,f4,-⟩:=hcs.mx
   subst hb2 f1 f2 f3 f4
   have hsub:(i:Int) - 1=(k:Int):=by rw[hi];push_cast;omega
   have hwk:IntKind.i64.wrap (k:Int)=(k:Int):=IntWalk.i64_in _ (by omega)
   have i0:(0:Int)≤(k:Int):=by omega
   have i1:(k:Int)<(N:Int):=by omega
   have i2:(0:Int)≤(i:Int):=by omega
   have i3:(i:Int)<(N:Int):=by omega
   have hik:i+1=k+1+1:=by omega
   have hkN:k+1+1≤N:=by omega
   have HIK:=Lib.hid (And.intro hik hkN)
   clear hx hJ hJd hB hBd hX hR hYx hpl hcons hmem hx1 hy1 g1 g2 r0 r1 r2 r3 r4 s0 s1 s2 s3 s4 hcv hcr hcs kd hk0 hz hik hkN hi
   gi_wp2_with fail
   refine region_NJ (S:=fun W'=>W'.cell? ⟨bk,0,none⟩=some (.slice (some ad) N c)∧(W'.cell? (ad.add (k*5))=some (.slice P1 xx.key.length q1)∧W'.cell? ⟨(ad.add (k*5)).block,(ad.add (k*5)).off+1,none⟩=some (.int .i64 xx.cnt)∧W'.cell? ⟨(ad.add (k*5)).block,(ad.add (k*5)).off+2,none⟩=some (.slice P2 xx.sum.length q2)∧W'.cell? ⟨(ad.add (k*5)).block,(ad.add (k*5)).off+3,none⟩=some (.slice P3 xx.mn.length q3)∧W'.cell? ⟨(ad.add (k*5)).block,(ad.add (k*5)).off+4,none⟩=some (.slice P4 xx.mx.length q4))∧W'.cell? (ad.add (i*5))=some (.slice Q1 yy.key.length o1)∧W'.cell? ⟨(ad.add (i*5)).block,(ad.add (i*5)).off+1,none⟩=some (.int .i64 yy.cnt)∧W'.cell? ⟨(ad.add (i*5)).block,(ad.add (i*5)).off+2,none⟩=some (.slice Q2 yy.sum.length o2)∧W'.cell? ⟨(ad.add (i*5)).block,(ad.add (i*5)).off+3,none⟩=some (.slice Q3 yy.mn.length o3)∧W'.cell? ⟨(ad.add (i*5)).block,(ad.add (i*5)).off+4,none⟩=some (.slice Q4 yy.mx.length o4)) (kill:=[10,11]) (by kernel_rfl) ⟨tb,⟨t0,t1,t2,t3,t4⟩,v0,v1,v2,v3,v4⟩ (fun hHeld=>?_)
   clear tb t0 t1 t2 t3 t4 v0 v1 v2 v3 v4
   refine WTN (i:=0) (v:=?vna0) ?yna0 hHeld ?rna0
   case yna0=>(intro W hW;obtain⟨g0,⟨g1,g2,g3,g4,g5⟩,g6,g7,g8,g9,g10⟩:=hW;go_simp;first | done | with_reducible rfl)
   try simp only[SL,Act.put]
   refine WTN (i:=1) (v:=?vna1) ?yna1 hHeld ?rna1
   case yna1=>(intro W hW;obtain⟨g0,⟨g1,g2,g3,g4,g5⟩,g6,g7,g8,g9,g10⟩:=hW;go_simp;first | done | with_reducible rfl)
   try simp only[SL,Act.put]
   refine WTN (i:=2) (v:=?vna2) ?yna2 hHeld ?rna2
   case yna2=>(intro W hW;obtain⟨g0,⟨g1,g2,g3,g4,g5⟩,g6,g7,g8,g9,g10⟩:=hW;go_simp;first | done | with_reducible rfl)
   try simp only[SL,Act.put]
   refine WTN (i:=3) (v:=?vna3) ?yna3 hHeld ?rna3
   case yna3=>(intro W hW;obtain⟨g0,⟨g1,g2,g3,g4,g5⟩,g6,g7,g8,g9,g10⟩:=hW;go_simp;first | done | with_reducible rfl)
   try simp only[SL,Act.put]
   refine WTN (i:=4) (v:=?vna4) ?yna4 hHeld ?rna4
   case yna4=>(intro W hW;obtain⟨g0,⟨g1,g2,g3,g4,g5⟩,g6,g7,g8,g9,g10⟩:=hW;go_simp;first | done | with_reducible rfl)
   try simp only[SL,Act.put]
   refine WTN (i:=5) (v:=?vna5) ?yna5 hHeld ?rna5
   case yna5=>(intro W hW;obtain⟨g0,⟨g1,g2,g3,g4,g5⟩,g6,g7,g8,g9,g10⟩:=hW;go_simp;first | done | with_reducible rfl)
   try simp only[SL,Act.put]
   refine WTN (i:=6) (v:=?vna6) ?yna6 hHeld ?rna6
   case yna6=>(intro W hW;obtain⟨g0,⟨g1,g2,g3,g4,g5⟩,g6,g7,g8,g9,g10⟩:=hW;go_simp;first | done | with_reducible rfl)
   try simp only[SL,Act.put]
   refine WTN (i:=7) (v:=?vna7) ?yna7 hHeld ?rna7
   case yna7=>(intro W hW;obtain⟨g0,⟨g1,g2,g3,g4,g5⟩,g6,g7,g8,g9,g10⟩:=hW;go_simp;first | done | with_reducible rfl)
   try simp only[SL,Act.put]
   refine WTN (i:=8) (v:=?vna8) ?yna8 hHeld ?rna8
   case yna8=>(intro W hW;obtain⟨g0,⟨g1,g2,g3,g4,g5⟩,g6,g7,g8,g9,g10⟩:=hW;go_simp;first | done | with_reducible rfl)
   try simp only[SL,Act.put]
   refine WTN (i:=9) (v:=?vna9) ?yna9 hHeld ?rna9
   case yna9=>(intro W hW;obtain⟨g0,⟨g1,g2,g3,g4,g5⟩,g6,g7,g8,g9,g10⟩:=hW;go_simp;first | done | with_reducible rfl)
   try simp only[SL,Act.put]
   refine anyN_ready (rs:=[10]) (by kernel_rfl) (by simp) ?_
   refine AllN.cons (by kernel_rfl) rfl (by rfl) (fun K hK=>?_) (AllN.nil)
   refine⟨fun _ _=>trivial,?_⟩
   go_simp
   refine HR.out.mono ?_
   intro e8 w8 h8
   obtain⟨b,rfl,H8⟩:∃ b:Bool,e8=.returned (.bool b)∧((b=true∧J (pre ++ [z]) w8∧Below w0.heap.size wr.drew w8)∨(b=false∧Jx (pre ++ [z]) w8)):=by { rcases h8 with ⟨he,h1,h2⟩ | ⟨he,h1⟩;exact⟨true,he,.inl ⟨rfl,h1,h2⟩⟩;exact⟨false,he,.inr ⟨rfl,h1⟩⟩ }
   refine hK.out _ _ (fun h=>absurd (by decide) h) ?_
   clear hK K
   try simp only[SL,Act.put]
   refine anyN_late (i:=11) (v:=?vna11) (by kernel_rfl) rfl (by kernel_rfl) (by kernel_rfl) (by kernel_rfl) (by kernel_rfl) (by decide) (fun _ _ _ h=>h) (fun _=>rfl) (Or.inl ⟨by rfl,?yna11⟩) ?rna11
   case yna11=>(intro W hW;go_simp;first | done | with_reducible rfl)
   try simp only[SL,Act.put]
   refine anyN_done (by kernel_rfl) (noP_normal ?_) _
   rcases H8 with ⟨rfl,h1,h2⟩ | ⟨rfl,h1⟩
   ·have H1:=Lib.hid (And.intro h1 h2)
    clear h1 h2
    gi_wp2
    go_roundw
    case rel=>exact⟨k+1,pre ++ [z],by rw[← HIK.out.1];go_num,.inr HIK.out.2,HX.out,H1.out.1,HB.out.trans H1.out.2⟩
    case measure=>simp[intOf];omega
   ·gi_wp2
    refine bodyPost_ret (results_none rfl _ _ _) rfl ?_
    exact⟨⟨_,rfl⟩,.inr ⟨_,by first | exact h1 | exact⟨trivial,h1⟩⟩⟩
  ·have d1:decide ((i:Int)<(N:Int))=false:=by simp;omega
   have he:prs (D.drop k)=[]:=prs_end (by rw[← HN.out];omega)
   rw[he,List.append_nil] at hx
   have HX:=Lib.hid hx
   have HJ0:=Lib.hid hJ
   clear hx he hJ
   gi_wp2
   go_end0
   exact⟨⟨_,rfl⟩,.inl ⟨pre,HX.out.symm,HJ0.out⟩⟩
theorem neigh_stops (n bk:Nat) (hn:1≤n) (A:Option Addr) (c N:Nat) (D:List (V5 × Cel)) (w:World) (hN:N=D.length) (hN1:N≤1000) (hD:∀ x ∈ D,Reads w x.1 x.2)
  (hcv:0<N→∃ ad,A=some ad∧∀ j u,(flatV (D.map (·.1)))[j]? = some u→w.cell? (ad.add j)=some u) (hbk:w.cell? ⟨bk,0,none⟩=some (.slice A N c)) :
  SeqStopsK Fence.wide n Tryz.prog 149 #[.pointer (some ⟨bk,0,none⟩)] (fun x:Nb D=>encN x.1) (Below w.heap.size) (fun ys=>ys.map (·.1)=prs D) (fun _=>True) (prs D).length w:=fun l J Jx W hW hA _ hY h0 =>
 neigh_in n l bk hn A c N D w W hN hN1 hD hcv J Jx hA hW hY hbk h0
end Go.Proofs.YtnjlkhhcfiedbaaGreatDoor
namespace Go.Proofs.YtnjlkhhcfiedbaaGreatDoor
open Go.RowKit Go.Shelf Go.Sort
attribute [local go_sem] Oper.semAt_some
def riseB (L:List Cel):Bool:=(prs L).all fun p=>decide (cmpL p.1.key p.2.key<0)
theorem prs_map {α β:Type} (f:α→β) (l:List α):prs (l.map f)=(prs l).map fun p=>(f p.1,f p.2):=by
 unfold prs
 rw[← List.map_drop,List.zip_map]
 rfl
theorem riseB_map (D:List (V5 × Cel)):riseB (D.map (·.2))=(prs D).all fun p=>decide (cmpL p.1.2.key p.2.2.key<0):=by
 unfold riseB
 rw[prs_map,List.all_map]
 rfl
theorem own_fromS {B:Nat} {T:TypeId} {b:Nat} {vs:List Value} {W W':World} {row:Option Nat} (h:Own T W b vs) (hg:W.grownBy W' row) (hr:∀ r,row=some r→B≤r∧∃ o:Obj,W.heap[r]? = some o∧o.isCells=false):Own T W' b vs :=
 (hg.block b h.lt fun e=>by
  obtain⟨-,o,ho,hc⟩:=hr b e.symm
  have h':W.heap[b]? = some _:=h
  rw[ho] at h'
  injection h' with h'
  subst h'
  cases hc).trans h
def UpN {D:List (V5 × Cel)} (pre:List (Nb D)):Prop:=∀ x ∈ pre,cmpL x.1.1.2.key x.1.2.2.key<0
def DnN (D:List (V5 × Cel)):Prop:=∃ p ∈ prs D,¬ cmpL p.1.2.key p.2.2.key<0
theorem UpN.snoc {D:List (V5 × Cel)} {pre:List (Nb D)} {x:Nb D} (h:UpN pre) (hx:cmpL x.1.1.2.key x.1.2.2.key<0):UpN (pre ++ [x]):=fun y hy=>by
 rcases List.mem_append.1 hy with hy | hy
 ·exact h y hy
 ·rw[List.mem_singleton] at hy
  subst hy
  exact hx
theorem Tch.of_putS {W:World} {l:Nat} {o o':Obj} (_:W.heap[l]? = some o):Tch (fun k=>k=l) W (W.putObj l o'):=tch_put o' rfl
theorem grownBy_grow (w:World) (os:Array Obj):w.grownBy (grow w os) none :=
 ⟨rfl,rfl,rfl,by simp[grow],fun k hk _=>by simp[grow,Array.getElem?_append_left hk]⟩
set_option maxRecDepth 100000 in
set_option maxHeartbeats 4000000 in
theorem sorted_any (P:Option Addr) (c N:Nat) (L:List Cel) (w:World) (hr:RowC w P N L) (hN:N=L.length) (hN1:N≤1000) (hk:∀ x ∈ L,x.key.length≤1000000) :
  Calls Tryz.prog 94 #[.slice P N c] w fun e w'=>e=.returned (.bool (riseB L))∧Below w.heap.size w w':=by
 obtain⟨D,hD1,hD2,hD3⟩:∃ D:List (V5 × Cel),D.map (·.2)=L∧(∀ x ∈ D,Reads w x.1 x.2∧x.2.key.length≤1000000)∧(0<N→∃ ad,P=some ad∧∀ j u,(flatV (D.map (·.1)))[j]? = some u→w.cell? (ad.add j)=some u):=by
  rcases Nat.eq_zero_or_pos N with h0 | h0
  ·have:L=[]:=List.length_eq_zero_iff.1 (by omega)
   exact⟨[],by rw[this];rfl,⟨fun x hx=>absurd hx (List.not_mem_nil),fun h=>by omega⟩⟩
  ·obtain⟨ad,rfl,hc⟩:=hr h0
   obtain⟨vs,hv,hf⟩:=hc.vals
   refine⟨vs.zip L,List.map_snd_zip (by rw[hv.1];exact Nat.le_refl _),fun x hx=>?_,fun _=>⟨ad,rfl,?_⟩⟩
   ·obtain⟨i,hi⟩:=List.getElem?_of_mem hx
    rw[List.getElem?_zip_eq_some] at hi
    exact⟨hv.2 i _ _ hi.1 hi.2,hk _ (List.mem_of_getElem? hi.2)⟩
   ·rw[List.map_fst_zip (by rw[hv.1];exact Nat.le_refl _)];exact hf
 have hDl:N=D.length:=by rw[hN,← hD1,List.length_map]
 have hRB:riseB L=(prs D).all fun p=>decide (cmpL p.1.2.key p.2.2.key<0):=by rw[← hD1];exact riseB_map D
 rw[hRB]
 have HD:=Lib.hid hD2
 have HC:=Lib.hid hD3
 have HN:=Lib.hid hDl
 clear hD1 hD2 hD3 hDl hr hN hk hRB
 obtain⟨R,hR⟩:∃ R,R=(prs D).all fun p=>decide (cmpL p.1.2.key p.2.2.key<0):=⟨_,rfl⟩
 rw[← hR]
 have HR:=Lib.hid hR
 clear hR
 rw[← callsIn_wide (n:=12)]
 refine callsIn_of_wp_marks Tryz.func94 rfl trivial ?_ rfl
 simp only[Tryz.ntmps94,List.size_toArray,List.length_cons,List.length_nil,Nat.reduceAdd,Nat.reduceSub,Array.replicate_succ,Array.replicate_zero,List.push_toArray,List.append_toArray,List.nil_append,List.cons_append]
 gi_wp2_with fail
 refine⟨trivial,?_⟩
 refine (callsIn_wide.2 (neigh_any P N c _)).mono ?_
 rintro e w2 ⟨rfl,rfl⟩
 gi_wp2_with fail
 obtain⟨W4,hW4⟩:∃ W4,W4=(w.alloc (.cells #[.bool false] 4)).alloc (.cells #[.slice P N c] 31):=⟨_,rfl⟩
 try simp only[World.size_alloc] at hW4 ⊢
 rw[← hW4]
 have hb4:Below w.heap.size w W4:=by rw[hW4];exact ((Below.refl _ w).alloc (Nat.le_refl _) _).alloc (by simp) _
 have hz4:W4.heap.size=w.heap.size+2:=by rw[hW4];simp
 have o0:Own 4 W4 w.heap.size [.bool false]:=by rw[hW4];exact (Below.heap_alloc _ _ _ (by simp)).trans (heap_alloc_new w _)
 have o1:Own 31 W4 (w.heap.size+1) [.slice P N c]:=by
  have:=heap_alloc_new (w.alloc (.cells #[.bool false] 4)) (.cells #[.slice P N c] 31)
  rw[show (w.alloc (.cells #[.bool false] 4)).heap.size=w.heap.size+1 from by simp] at this
  rw[hW4]
  exact this
 have cb:=o1.cell (i:=0) rfl
 try dsimp only at cb
 obtain⟨rb,hrb⟩:∃ rb,rb=w.heap.size:=⟨_,rfl⟩
 obtain⟨bk,hbk⟩:∃ bk,bk=w.heap.size+1:=⟨_,rfl⟩
 rw[← hrb] at o0
 rw[← hbk] at o1 cb
 try rw[← hbk]
 try rw[← hrb]
 have hlt:rb<W4.heap.size∧w.heap.size≤rb:=by omega
 have O0:=Lib.hid o0
 have HB4:=Lib.hid hb4
 have HLT:=Lib.hid hlt
 have k4:Keeps w W4:=Keeps.of_below hb4
 have HST:=Lib.hid (neigh_stops (12 - 1) bk (by omega) P c N D W4 HN.out hN1 (fun x hx=>(HD.out x hx).1.keep k4) (fun h=>by
  obtain⟨ad,e,hc⟩:=HC.out h
  exact⟨ad,e,fun j u hu=>k4 _ _ (hc j u hu)⟩) cb)
 have HD4:=Lib.hid (fun x hx=>(show Reads W4 x.1 x.2∧x.2.key.length≤1000000 from ⟨(HD.out x hx).1.keep k4,(HD.out x hx).2⟩))
 clear o0 o1 cb hb4 hW4 hlt k4 hz4 hrb hbk
 refine wpIn_rangeFunc_ownH rfl (by omega) (gf:=149) (lb:=#[.pointer (some ⟨bk,0,none⟩)]) rfl trivial (enters_of Tryz.func149 (by kernel_rfl) rfl)
  HST.out (fun h k=>h.trans k) (belowK_b (Nat.le_refl _)) (Below.refl _ _) (fun _=>rfl)
  (fun pre W=>Below W4.heap.size W4 W∧UpN pre)
  (fun cd pre W=>cd=.ret∧Below w.heap.size w W∧Own 4 W rb [.bool false]∧DnN D)
  (fun s W W' row h hg hr=>⟨ownFrom_below (β:=Unit) (Nat.le_refl _) (Nat.le_refl _) () W W' row h.1 hg hr,h.2⟩)
  (fun cd s W W' row h hg hr=>⟨h.1,ownFrom_below (β:=Unit) (B:=W4.heap.size) (Nat.le_refl _) HB4.out.size () W W' row h.2.1 hg hr,own_fromS h.2.2.1 hg hr,h.2.2.2⟩)
  ⟨Below.refl _ _,fun x hx=>absurd hx (List.not_mem_nil)⟩
  (fun x a' W=>∃ b3 b4,a'={ tmps:=#[.slice P N c,undef,.pointer (some ⟨rb,0,none⟩),.pointer (some ⟨b3,0,none⟩),.pointer (some ⟨b4,0,none⟩),.slice P N c,.func (.func 149) #[] #[.pointer (some ⟨bk,0,none⟩)],.agg #[x.1.1.1.a,x.1.1.1.b,x.1.1.1.c,x.1.1.1.d,x.1.1.1.e],.agg #[x.1.2.1.a,x.1.2.1.b,x.1.2.1.c,x.1.2.1.d,x.1.2.1.e],undef,undef,undef,undef],defers:=[] }∧Own 46 W b3 [x.1.1.1.a,x.1.1.1.b,x.1.1.1.c,x.1.1.1.d,x.1.1.1.e]∧Own 46 W b4 [x.1.2.1.a,x.1.2.1.b,x.1.2.1.c,x.1.2.1.d,x.1.2.1.e])
  (fun x a' s W W' row h hg hr=>by
   obtain⟨b3,b4,e,h3,h4⟩:=h
   exact⟨b3,b4,e,own_fromS h3 hg hr,own_fromS h4 hg hr⟩)
  ?hassign ?hbody ?hdone ?hstop
 case hassign =>
  intro l pre x W K hI hK
  obtain⟨⟨⟨⟨xa,xb,xc,xd,xe⟩,xx⟩,⟨⟨ya,yb,yc,yd,ye⟩,yy⟩⟩,hmem⟩:=x
  obtain⟨h1,h2⟩:=prs_mem hmem
  obtain⟨⟨hb1,hcr,-⟩,-⟩:=HD4.out _ h1
  obtain⟨⟨hb2,hcs,-⟩,-⟩:=HD4.out _ h2
  dsimp only at hb1 hcr hb2 hcs hK
  obtain⟨P1,q1,e1,-⟩:=hcr.key
  obtain⟨P2,q2,e2,-⟩:=hcr.sum
  obtain⟨P3,q3,e3,-⟩:=hcr.mn
  obtain⟨P4,q4,e4,-⟩:=hcr.mx
  subst hb1 e1 e2 e3 e4
  obtain⟨Q1,o1,f1,-⟩:=hcs.key
  obtain⟨Q2,o2,f2,-⟩:=hcs.sum
  obtain⟨Q3,o3,f3,-⟩:=hcs.mn
  obtain⟨Q4,o4,f4,-⟩:=hcs.mx
  subst hb2 f1 f2 f3 f4
  unfold encN
  have HK:=Lib.hid hK
  have HI:=Lib.hid hI
  clear hK hI hcr hcs h1 h2
  gi_wp2
  obtain⟨Wa,ha⟩:∃ X,X=W.alloc (.cells #[.slice P1 xx.key.length q1,.int .i64 xx.cnt,.slice P2 xx.sum.length q2,.slice P3 xx.mn.length q3,.slice P4 xx.mx.length q4] 46):=⟨_,rfl⟩
  have sa:Wa.heap.size=W.heap.size+1:=by rw[ha];simp
  have n1:Own 46 Wa W.heap.size [.slice P1 xx.key.length q1,.int .i64 xx.cnt,.slice P2 xx.sum.length q2,.slice P3 xx.mn.length q3,.slice P4 xx.mx.length q4]:=by rw[ha];exact heap_alloc_new W _
  have hWz:W4.heap.size≤W.heap.size:=HI.out.1.size
  have qa:Below W4.heap.size W Wa:=by rw[ha];exact (Below.refl _ _).alloc hWz _
  have ga:KeepsFrom W4.heap.size W Wa:=by rw[ha];exact KeepsFrom.of_grownBy (row:=none) (World.grownBy_alloc W _ none) (fun _ e=>by cases e)
  rw[← ha]
  obtain⟨Wb,hb⟩:∃ X,X=Wa.alloc (.cells #[.slice Q1 yy.key.length o1,.int .i64 yy.cnt,.slice Q2 yy.sum.length o2,.slice Q3 yy.mn.length o3,.slice Q4 yy.mx.length o4] 46):=⟨_,rfl⟩
  have n2:Own 46 Wb (W.heap.size+1) [.slice Q1 yy.key.length o1,.int .i64 yy.cnt,.slice Q2 yy.sum.length o2,.slice Q3 yy.mn.length o3,.slice Q4 yy.mx.length o4]:=by rw[← sa,hb];exact heap_alloc_new Wa _
  have qq:Below Wa.heap.size Wa Wb:=by rw[hb];exact (Below.refl _ _).alloc (Nat.le_refl _) _
  have gb:KeepsFrom W4.heap.size Wa Wb:=by rw[hb];exact KeepsFrom.of_grownBy (row:=none) (World.grownBy_alloc Wa _ none) (fun _ e=>by cases e)
  have qb:Below W4.heap.size W Wb:=qa.trans (qq.mono (by omega))
  rw[← hb]
  exact HK.out _ _ (ga.trans gb) qb ⟨HI.out.1.trans qb,HI.out.2⟩ ⟨W.heap.size,W.heap.size+1,rfl,(qq.block _ (by omega)).trans n1,n2⟩
 case hbody =>
  rintro l pre x a' W hl ⟨r,hr⟩ ⟨hI1,hI2⟩ ⟨b3,b4,rfl,h3,h4⟩ -
  obtain⟨⟨⟨⟨xa,xb,xc,xd,xe⟩,xx⟩,⟨⟨ya,yb,yc,yd,ye⟩,yy⟩⟩,hmem⟩:=x
  obtain⟨h1,h2⟩:=prs_mem hmem
  obtain⟨⟨hb1,hcr,-⟩,hx1⟩:=HD4.out _ h1
  obtain⟨⟨hb2,hcs,-⟩,hy1⟩:=HD4.out _ h2
  dsimp only at hb1 hcr hb2 hcs hx1 hy1 h3 h4
  have k4:Keeps W4 W:=Keeps.of_below hI1
  have HC:=Lib.hid (ccmp_grow xa xc xd xe ya yc yd ye xx yy W (hcr.keep k4) (hcs.keep k4) hx1 hy1)
  obtain⟨P1,q1,e1,-⟩:=hcr.key
  obtain⟨P2,q2,e2,-⟩:=hcr.sum
  obtain⟨P3,q3,e3,-⟩:=hcr.mn
  obtain⟨P4,q4,e4,-⟩:=hcr.mx
  subst hb1 e1 e2 e3 e4
  obtain⟨Q1,o1,f1,-⟩:=hcs.key
  obtain⟨Q2,o2,f2,-⟩:=hcs.sum
  obtain⟨Q3,o3,f3,-⟩:=hcs.mn
  obtain⟨Q4,o4,f4,-⟩:=hcs.mx
  subst hb2 f1 f2 f3 f4
  obtain⟨g0,g1,g2,g3,g4⟩:=Own.bx h3
  obtain⟨i0,i1,i2,i3,i4⟩:=Own.bx h4
  have orb:Own 4 W rb [.bool false]:=(hI1.block rb HLT.out.1).trans O0.out
  have HI1:=Lib.hid hI1
  have HI2:=Lib.hid hI2
  have HM:=Lib.hid hmem
  have ORB:=Lib.hid orb
  obtain⟨z,hz⟩:∃ z,z=cmpL xx.key yy.key:=⟨_,rfl⟩
  rw[← hz] at HC
  have HZ:=Lib.hid hz
  clear hcr hcs h1 h2 h3 h4 k4 hI1 hI2 orb hx1 hy1 hr hz
  gi_wp2_with fail
  refine⟨trivial,?_⟩
  refine (CallsIn.inRound l (callsIn_wide.2 HC.out)).mono ?_
  rintro e W2 ⟨rfl,os,rfl⟩
  have gw:W.grownBy (grow W os) none:=grownBy_grow W os
  have GK:=Lib.hid (KeepsFrom.of_grownBy (B:=W4.heap.size) gw (fun _ e=>by cases e))
  have GB:=Lib.hid ((Below.refl W.heap.size W).grown gw (Nat.le_refl _) (fun _ e=>by cases e))
  have orb2:Own 4 (grow W os) rb [.bool false]:=(GB.out.block rb ORB.out.lt).trans ORB.out
  have c2:=orb2.cell (i:=0) rfl
  have fz2:=orb2.frozen 0
  try dsimp only at c2 fz2
  have OR2:=Lib.hid orb2
  clear gw orb2
  generalize grow W os=W2 at GK GB OR2 c2 fz2 ⊢
  have hWz:=HI1.out.size
  by_cases hc:z<0
  ·have d2:decide (0≤z)=false:=decide_eq_false (by omega)
   have HUN:=Lib.hid (HI2.out.snoc (x:=⟨_,HM.out⟩) (HZ.out ▸ hc))
   clear hc
   gi_wp2
   exact⟨GK.out,GB.out.mono hWz,HI1.out.trans (GB.out.mono hWz),HUN.out⟩
  ·have d2:decide (0≤z)=true:=decide_eq_true (by omega)
   have HCC:=Lib.hid (show DnN D from ⟨_,HM.out,fun h=>hc (HZ.out ▸ h)⟩)
   clear hc
   gi_wp2
   have hsc:Below w.heap.size W2 (W2.setCell ⟨rb,0,none⟩ (.bool false)):=(Below.refl _ _).setCell (p:=⟨rb,0,none⟩) HLT.out.2 _
   exact⟨GK.out.trans ((KeepsOthers.setCell _ _ _).from _),rfl,(HB4.out.trans ((HI1.out.trans (GB.out.mono hWz)).mono HB4.out.size)).trans hsc,OR2.out.set_ 0 _,HCC.out⟩
 case hdone =>
  rintro Dn xs W hD hS ⟨hI1,hI2⟩ hDn
  have orb:Own 4 W rb [.bool false]:=(hI1.block rb HLT.out.1).trans O0.out
  have c2:=orb.cell (i:=0) rfl
  have fz2:=orb.frozen 0
  try dsimp only at c2 fz2
  have hT:R=true:=by
   rw[HR.out,List.all_eq_true]
   intro p hp
   rw[← hS] at hp
   obtain⟨x,hx,rfl⟩:=List.mem_map.1 hp
   exact decide_eq_true (hI2 x hx)
  have HT:=Lib.hid hT
  have ORB:=Lib.hid orb
  have HI1:=Lib.hid hI1
  have HDN:=Lib.hid hDn
  have HDD:=Lib.hid hD
  clear hT orb hI1 hI2 hDn hS hD
  gi_wp2
  have hD2:(W.setCell ⟨rb,0,none⟩ (.bool true)).heap[Dn]? = some (.deferred (some [])):=(Below.heap_setCell _ _ _ _ (by show Dn ≠ rb;have:=HLT.out;have:=HDD.out;omega)).trans HDN.out
  refine⟨by simp,.inl ⟨_,_,rfl,run_takeDeferred hD2,?_⟩⟩
  have hc2:((W.setCell ⟨rb,0,none⟩ (.bool true)).putObj Dn (.deferred none)).cell? ⟨rb,0,none⟩=some (.bool true) :=
   Own.cell (i:=0) (vs:=[.bool true]) (T:=4) ((World.putObj_heap_other (by have:=HLT.out;have:=HDD.out;omega)).trans (ORB.out.set_ 0 _)) rfl
  refine⟨.bool true,?_,?_,?_⟩
  ·simp[results,go_sem,hc2]
  ·rw[HT.out]
  ·have e1:Below w.heap.size w (W.setCell ⟨rb,0,none⟩ (.bool true)):=(HB4.out.trans (HI1.out.mono HB4.out.size)).setCell (p:=⟨rb,0,none⟩) HLT.out.2 _
   exact e1.trans ((Tch.of_putS hD2).below (fun k hk=>by have:=HDD.out;have:=HB4.out.size;omega) e1.size)
 case hstop =>
  rintro Dn cd pre W hD - ⟨rfl,hI1,hI2,⟨p,hp,hI3⟩⟩ hDn
  have hT:R=false:=by
   rw[HR.out,List.all_eq_false]
   exact⟨p,hp,by simpa using hI3⟩
  have HT:=Lib.hid hT
  have ORB:=Lib.hid hI2
  have HI1:=Lib.hid hI1
  have HDN:=Lib.hid hDn
  have HDD:=Lib.hid hD
  clear hT hI1 hI2 hI3 hp hDn hD
  gi_wp2
  refine⟨by simp,.inl ⟨_,_,rfl,run_takeDeferred HDN.out,?_⟩⟩
  have hc2:(W.putObj Dn (.deferred none)).cell? ⟨rb,0,none⟩=some (.bool false) :=
   Own.cell (i:=0) (vs:=[.bool false]) (T:=4) ((World.putObj_heap_other (by have:=HLT.out;have:=HDD.out;omega)).trans ORB.out) rfl
  refine⟨.bool false,?_,?_,?_⟩
  ·simp[results,go_sem,hc2]
  ·rw[HT.out]
  ·exact HI1.out.trans ((Tch.of_putS HDN.out).below (fun k hk=>by have:=HDD.out;have:=HB4.out.size;omega) HI1.out.size)
end Go.Proofs.YtnjlkhhcfiedbaaGreatDoor
namespace Go.Proofs.YtnjlkhhcfiedbaaGreatDoor
open Go.RowKit
theorem flat_ge {α:Type}:∀ (Js:List (List α)),(∀ J ∈ Js,1≤J.length)→Js.length≤Js.flatten.length
 | [],_=>Nat.le_refl _
 | J :: Js,h=>by
  have h1:=h J (by simp)
  have h2:=flat_ge Js (fun K hK=>h K (by simp[hK]))
  rw[List.flatten_cons,List.length_append,List.length_cons]
  omega
theorem runs_num {m:Nat} (hm:1≤m) (L:List Cel):(runsP m [] L).length≤L.length:=by
 have h1:=flat_ge (runsP m [] L) (fun J hJ=>(runs_each hm L [] (by simp[RiseC]) (by simp) J hJ).2.1)
 have h2:=runs_len (m:=m) L []
 rw[List.length_nil,Nat.zero_add] at h2
 omega
theorem rise_prs:∀ {l:List Cel},RiseC l→riseB l=true
 | [],_=>rfl
 | [_],_=>rfl
 | x :: y :: l,h=>by
  have h1:cmpL x.key y.key<0:=(List.pairwise_cons.1 h).1 y (by simp)
  have h2:=rise_prs (List.pairwise_cons.1 h).2
  unfold riseB at h2 ⊢
  have e:prs (x :: y :: l)=(x,y) :: prs (y :: l):=rfl
  rw[e,List.all_cons,h2,Bool.and_true]
  exact decide_eq_true h1
end Go.Proofs.YtnjlkhhcfiedbaaGreatDoor
namespace Go.Proofs.YtnjlkhhcfiedbaaGreatDoor
open Go.RowKit Go.Shelf
attribute [local go_sem] Oper.semAt_some
abbrev Tri:=Option Addr × Nat × Nat
def trV (x:Tri):Value:=.slice x.1 x.2.1 x.2.2
def trL (xs:List Tri):Nat:=mxN (xs.map (·.2.1))
theorem trL_snoc (xs:List Tri) (x:Tri):trL (xs ++ [x])=max (trL xs) x.2.1:=by unfold trL;rw[List.map_append];exact mxN_snoc _ _
theorem YieldAt.any {n m:Nat} {P:Program} {l:Nat} {args:Array Value} {W:World} {R R':Ending→World→Prop} (h:YieldAt Fence.wide n P l args W R) (hr:∀ e w,R e w→R' e w):YieldAt Fence.wide m P l args W R':=by
 obtain⟨fn,tmps,assign,body,hy,hR⟩:=h
 have h2:RoundIn Fence.wide m P l fn tmps assign body W R:=⟨hR.1,fun c cs _=>hR.2 c cs (room_wide _)⟩
 exact⟨fn,tmps,assign,body,hy,h2.mono hr⟩
def ItX (g:Nat) (cb:Array Value) (w:World) (r:Nat):Prop :=
 ∀ (l bm B0:Nat) (J:List Tri→World→Prop) (W:World),bm<B0→B0≤W.heap.size→w.heap.size≤B0 →
  (∀ pre X,J pre X→Below w.heap.size w X)→(∀ pre A B M,J pre A→Tch M A B→(∀ k,M k→B0≤k)→J pre B) →
  (∀ pre x W1,J pre W1→YieldAt Fence.wide 0 Tryz.prog l #[trV x] W1 fun e W'=>e=.returned (.bool true)∧J (pre ++ [x]) W'∧Tch (fun k=>k=bm) W1 W') →
  J [] W→Calls Tryz.prog g (#[.func (.yield l) #[] #[]] ++ cb) W fun e W'=>(∃ v,e=.returned v)∧∃ xs,trL xs=r∧J xs W'
set_option maxRecDepth 100000 in
set_option maxHeartbeats 4000000 in
theorem xvals_it (pb m c:Nat) (A:Option Addr) (Js:List (List Cel)) (w:World) (hpb:w.cell? ⟨pb,0,none⟩=some (.slice A m c)) (hR:RunsC w A m Js) (hm:m=Js.length) (hm2:m≤1000) :
  ItX 68 #[.pointer (some ⟨pb,0,none⟩)] w (mxN (lensJ Js)):=by
 intro l bm B0 J W hbm hB0 hwB hJr hst hY h0
 refine callsIn_wide (n:=9).1 ?_
 have HR:=Lib.hid hR
 have HPB:=Lib.hid hpb
 have HM:=Lib.hid hm
 have HJR:=Lib.hid hJr
 have HY:=Lib.hid hY
 have cb:=Keeps.of_below (hJr _ _ h0) _ _ hpb
 clear hR hpb hm hJr hst hY
 refine callsIn_of_wp Tryz.func68 rfl trivial ?_ rfl
 simp only[Tryz.ntmps68,List.size_toArray,List.length_cons,List.length_nil,Nat.reduceAdd,Nat.reduceSub,Array.replicate_succ,Array.replicate_zero,List.push_toArray,List.append_toArray,List.nil_append,List.cons_append]
 gi_wp2
 gi_loopw [7] (fun p wr=>∃ (k:Nat) (pre:List Tri),p=.int .i64 k∧k≤m∧pre.map (·.2.1)=(lensJ Js).take k∧J pre wr) (fun p _=>m - (intOf p).toNat)
 case atStart=>exact⟨0,[],rfl,Nat.zero_le _,rfl,h0⟩
 case round =>
  obtain⟨k,pre,rfl,hk,hpre,hJs⟩:=hrel
  rename World=>wr
  have HB:=Lib.hid (HJR.out _ _ hJs)
  have HJs:=Lib.hid hJs
  have HP:=Lib.hid hpre
  clear hJs cb hpre
  by_cases hlt:k<m
  ·have kr:=Keeps.of_below HB.out
   obtain⟨ad,e,hc⟩:=HR.out (by omega)
   obtain⟨K,hK⟩:∃ K,Js[k]? = some K:=⟨_,List.getElem?_eq_getElem (by rw[← HM.out];exact hlt)⟩
   obtain⟨Pi,ci,a0,-⟩:=hc k K hK
   have hcx:=kr _ _ a0
   subst e
   obtain⟨j,hj⟩:∃ j,j=K.length:=⟨_,rfl⟩
   rw[← hj] at hcx
   have k0:(0:Int)≤(k:Int):=by omega
   have k1:(k:Int)<(m:Int):=by omega
   have hlj:(lensJ Js).take (k+1)=(lensJ Js).take k ++ [j]:=by
    rw[List.take_add_one]
    unfold lensJ
    rw[List.getElem?_map,hK,hj];rfl
   obtain⟨fn,tmps,assign,body,hy,hR2⟩:=YieldAt.any (m:=8) (HY.out pre (Pi,j,ci) wr HJs.out) (fun _ _ h=>h)
   unfold trV at hy
   dsimp only at hy
   have HLJ:=Lib.hid hlj
   clear hc hK a0 hj hlj kr
   gi_wp2
   refine hR2.mono ?_
   rintro e W3 ⟨rfl,hJ3,-⟩
   have HJ3:=Lib.hid hJ3
   clear hJ3
   gi_wp2
   go_roundw
   case rel=>exact⟨k+1,_,by go_num,by omega,by rw[HLJ.out,List.map_append,HP.out];rfl,HJ3.out⟩
   case measure=>simp[intOf];omega
  ·obtain rfl:k=m:=by omega
   have ht:(lensJ Js).take k=lensJ Js:=List.take_of_length_le (by unfold lensJ;rw[List.length_map,HM.out];exact Nat.le_refl _)
   have HE:=Lib.hid (show trL pre=mxN (lensJ Js) by unfold trL;rw[HP.out,ht])
   clear ht
   gi_wp2
   go_end0
   exact⟨⟨_,rfl⟩,_,HE.out,HJs.out⟩
set_option maxHeartbeats 1000000 in
theorem xvalues_any (A:Option Addr) (m c:Nat) (w:World) :
  Calls Tryz.prog 44 #[.slice A m c] w fun e w'=>e=.returned (.func (.func 68) #[] #[.pointer (some ⟨w.heap.size,0,none⟩)])∧w'=w.alloc (.cells #[.slice A m c] 64):=by
 go_enter Tryz.func44,Tryz.ntmps44
 go_wp2
 go_ret
 exact⟨rfl,rfl⟩
structure LonI (w:World) (z:Nat) (pre:List Tri) (X:World):Prop where
 o:Own 3 X w.heap.size [.int .i64 (trL pre:Nat)]
 b:Below w.heap.size w X
 z:z≤X.heap.size
theorem LonI.stay {w X Y:World} {z:Nat} {pre:List Tri} {M:Nat→Prop} (h:LonI w z pre X) (hz:z=w.heap.size+1) (ht:Tch M X Y) (hM:∀ k,M k→z≤k):LonI w z pre Y :=
 ⟨(ht.block _ h.o.lt fun hk=>by have:=hM _ hk;omega).trans h.o,h.b.trans (ht.below (fun k hk=>by have:=hM k hk;omega) h.b.size),Nat.le_trans h.z ht.size⟩
set_option maxRecDepth 100000 in
set_option maxHeartbeats 4000000 in
theorem xlongest_any (g:Nat) (cb:Array Value) (r:Nat) (w:World) (eg:∀ args w,(callFunc g args).run Tryz.prog w=.ok (.enter g args) w) (h:ItX g cb w r) :
  Calls Tryz.prog 43 #[.func (.func g) #[] cb] w fun e w'=>e=.returned (.int .i64 (r:Nat))∧Below w.heap.size w w':=by
 refine callsIn_wide (n:=12).1 ?_
 have H:=Lib.hid h
 clear h
 refine callsIn_of_wp_marks Tryz.func43 rfl trivial ?_ rfl
 simp only[Tryz.ntmps43,List.size_toArray,List.length_cons,List.length_nil,Nat.reduceAdd,Nat.reduceSub,Array.replicate_succ,Array.replicate_zero,List.push_toArray,List.append_toArray,List.nil_append,List.cons_append]
 gi_wp2_with fail
 have o3:Own 3 (w.alloc (.cells #[.int .i64 0] 3)) w.heap.size [.int .i64 0]:=heap_alloc_new w _
 have hb:Below w.heap.size w (w.alloc (.cells #[.int .i64 0] 3)):=(Below.refl _ w).alloc (Nat.le_refl _) _
 have hz:(w.alloc (.cells #[.int .i64 0] 3)).heap.size=w.heap.size+1:=by simp
 generalize w.alloc (.cells #[.int .i64 0] 3)=w1 at o3 hb hz ⊢
 obtain⟨b3,hb3⟩:∃ b,b=w.heap.size:=⟨_,rfl⟩
 have HI0:=Lib.hid (show LonI w w1.heap.size [] w1 from ⟨o3,hb,Nat.le_refl _⟩)
 have HB3:=Lib.hid hb3
 have HZ:=Lib.hid hz
 clear o3 hb hz
 rw[← hb3]
 clear hb3
 refine range_st rfl (by omega) (gf:=g) (lb:=cb) rfl trivial eg (encs:=fun x:Tri=>#[trV x]) (S:=fun xs (_:Unit)=>trL xs=r) (fun _=>rfl)
  (fun pre _ X=>LonI w w1.heap.size pre X) (fun _ _ _ _=>True) (fun _ _ k=>k=b3) (fun _ k=>w1.heap.size+2≤k) ()
  (fun x _=>{ tmps:=#[.func (.func g) #[] cb,undef,.int .i64 0,.pointer (some ⟨b3,0,none⟩),trV x,.func (.func g) #[] cb,trV x,undef,undef,undef,undef,undef],defers:=[] }) (fun _ W=>W)
  ?hit ?hI ?hok ?htc ?h0 ?hwa ?hassign ?hbody ?hdone
 case hit =>
  intro J' W2 hbW hsz hJI' hst' hYl h0'
  refine (callsIn_wide.2 (H.out (w1.heap.size+1) b3 (w1.heap.size+2) (fun pre X=>J' pre () X) W2 (by have:=HB3.out;have:=HZ.out;omega) (by omega) (by have:=HZ.out;omega) (fun pre X hX=>(hJI' _ _ _ hX).1.b) (fun pre A B M hA ht hM=>hst' _ _ _ _ _ hA ht hM) (fun pre x W1 hW=>YieldAt.any (hYl pre () x W1 hW trivial) fun e W' ⟨he,s',hJ,hT,_⟩=>⟨he,hJ,hT⟩) h0')).mono ?_
  rintro e W' ⟨hv,xs,hx,hJ⟩
  exact⟨hv,xs,(),hx,hJ⟩
 case hI =>
  intro pre s A B M h1 ht hM
  exact h1.stay HZ.out ht fun k hk=>by
   rcases hM k hk with q | ⟨q,-⟩ <;> omega
 case hok=>exact fun _ _ h=>h
 case htc=>exact fun _ _ _ _ _ _ _ _ _ _ k hk=>by have:=HB3.out;have:=HZ.out;omega
 case h0=>exact HI0.out
 case hwa=>exact fun _ W=>Below.refl _ _
 case hassign =>
  intro pre s x W K hI hx hK
  have HKK:=Lib.hid hK
  clear hI hx hK
  gi_wp2
  exact HKK.out
 case hbody =>
  rintro pre s ⟨P,n,c⟩ X Xb hI - hsz ⟨r0,hr⟩ hT
  have hIb:=hI.stay HZ.out hT (fun k hk=>by rw[show k=w1.heap.size+1 from hk];omega)
  have c3:=hIb.o.cell (i:=0) rfl
  have f3:=hIb.o.frozen 0
  rw[← HB3.out] at c3 f3
  try dsimp only at c3 f3
  have HSN:=Lib.hid (trL_snoc pre (P,n,c))
  obtain⟨a,ha⟩:∃ a,a=trL pre:=⟨_,rfl⟩
  rw[← ha] at c3
  have HIB:=Lib.hid hIb
  have HA:=Lib.hid ha
  clear hI hIb hT hr hsz ha
  have hv:max (a:Int) (n:Int)=((trL (pre ++ [(P,n,c)]):Nat):Int):=by
   have h:=HSN.out
   dsimp only at h
   rw[h,← HA.out]
   omega
  have HV:=Lib.hid hv
  clear hv
  unfold trV
  dsimp only
  gi_wp2
  rw[HV.out]
  have hT:Tch (fun k=>k=b3) Xb (Xb.setCell ⟨b3,0,none⟩ (.int .i64 ((trL (pre ++ [(P,n,c)]):Nat):Int))):=Tch.of_only (only_setCell b3 Xb 0 _) rfl
  refine⟨(),⟨?_,HIB.out.b.setCell (p:=⟨b3,0,none⟩) (Nat.le_of_eq HB3.out.symm) _,Nat.le_trans HIB.out.z hT.size⟩,hT,fun k _ h2 _=>h2⟩
  have h:=HIB.out.o.set_ 0 (.int .i64 ((trL (pre ++ [(P,n,c)]):Nat):Int))
  rw[← HB3.out] at h ⊢
  exact h
 case hdone =>
  intro xs s W hS hI hD0
  have c3:=hI.o.cell (i:=0) rfl
  rw[hS,← HB3.out] at c3
  try dsimp only at c3
  have HDN:=Lib.hid hD0
  have HBW:=Lib.hid hI.b
  have OR:=Lib.hid hI.o
  clear hS hI hD0
  gi_wp2
  refine⟨by simp,.inl ⟨_,_,rfl,run_takeDeferred HDN.out,?_⟩⟩
  exact⟨_,results_tmp rfl _ _ _,rfl,HBW.out.trans ((tch_put (M:=fun k=>k=w1.heap.size) (.deferred none) rfl).below (fun k hk=>by have:=HZ.out;omega) HBW.out.size)⟩
end Go.Proofs.YtnjlkhhcfiedbaaGreatDoor
