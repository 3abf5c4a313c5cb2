import Derived.IntWalk
import Derived.Test.YtnjlkhhcfiedbaaGreatDoorSl
import Derived.Test.YtnjlkhhcfiedbaaGreatDoorHpW
import Derived.Test.YtnjlkhhcfiedbaaGreatDoorGood5
import Derived.Test.YtnjlkhhcfiedbaaGreatDoorAliP
import Derived.Test.YtnjlkhhcfiedbaaGreatDoorRfacts
import Derived.Test.YtnjlkhhcfiedbaaGreatDoorMake
import Derived.Test.YtnjlkhhcfiedbaaGreatDoorRegP
import Derived.Test.YtnjlkhhcfiedbaaGreatDoorExC
namespace Go.Proofs.YtnjlkhhcfiedbaaGreatDoor
open Go.RowKit Go.Shelf
attribute [local go_sem] Oper.semAt_some
set_option maxHeartbeats 1000000 in
theorem mchunk_fn (N c f:Nat) (P:Option Addr) (w:World) (hf:1≤f) :
  Calls Tryz.prog 121 #[.slice P N c,.int .i64 (f:Int)] w fun e w'=>e=.returned (.func (.func 153) #[] #[.pointer (some ⟨w.heap.size,0,none⟩),.pointer (some ⟨w.heap.size+1,0,none⟩)])∧w'=(w.alloc (.cells #[.slice P N c] 64)).alloc (.cells #[.int .i64 (f:Int)] 3):=by
 have hd:decide ((f:Int)<1)=false:=by simp;omega
 go_enter Tryz.func121,Tryz.ntmps121
 go_wp2
 go_ret
 exact⟨rfl,rfl⟩
def stF (f k:Nat):List Nat:=(List.range k).map (·*f)
theorem stF_succ (f k:Nat):stF f (k+1)=stF f k ++ [k*f]:=by unfold stF;rw[List.range_succ,List.map_append];rfl
def pcG (f:Nat) (Js:List (List Cel)) (i:Nat):List Cel:=grpR ((Js.drop i).take f).flatten
theorem pass_stF {f:Nat} (hf:1≤f) (Js:List (List Cel)):∀ (k:Nat),(k=0∨(k - 1)*f<Js.length)→passP f Js=(stF f k).map (pcG f Js) ++ passP f (Js.drop (k*f))
 | 0,_=>by simp[stF]
 | k+1,h=>by
  have h1:k*f<Js.length:=by
   rcases h with h | h
   ·omega
   ·simpa using h
  rw[pass_stF hf Js k (by
   rcases Nat.eq_zero_or_pos k with q | q
   ·exact .inl q
   ·exact .inr (Nat.lt_of_le_of_lt (Nat.mul_le_mul_right f (by omega)) h1)),stF_succ,List.map_append,pass_step hf h1,List.append_assoc,Nat.succ_mul]
  rfl
theorem pass_end {f:Nat} (hf:1≤f) (Js:List (List Cel)) {k:Nat} (h:k=0∨(k - 1)*f<Js.length) (he:Js.length≤k*f):passP f Js=(stF f k).map (pcG f Js):=by
 rw[pass_stF hf Js k h,List.drop_eq_nil_iff.2 he,pass_nil,List.append_nil]
set_option maxRecDepth 100000 in
set_option maxHeartbeats 4000000 in
theorem mchunk_in {σ:Type} (n:Nat) (hn:1≤n) (l ps pn N c f:Nat) (P:Option Addr) (ad:Addr) (W:World) (hN:N≤1000) (hc:N≤c) (hf1:1≤f) (hf2:f≤9223372036854775807) (hP:0<N→P=some ad)
  (J:List Nat→σ→World→Prop) (hst:∀ pre s A B,J pre s A→Below A.heap.size A B→J pre s B) (hcap:∀ pre s X,J pre s X→X.cell? ⟨ps,0,none⟩=some (.slice P N c)∧X.cell? ⟨pn,0,none⟩=some (.int .i64 (f:Int)))
  (hY:∀ k i s W1,J (stF f k) s W1→i=k*f→i<N→YieldAt Fence.wide (n - 1) Tryz.prog l #[.slice (some (ad.add i)) (min f (N - i)) (min f (N - i))] W1 fun e W'=>e=.returned (.bool true)∧∃ s',J (stF f k ++ [i]) s' W')
  (s0:σ) (h0:J [] s0 W) :
  CallsIn Fence.wide n Tryz.prog 153 #[.func (.yield l) #[] #[],.pointer (some ⟨ps,0,none⟩),.pointer (some ⟨pn,0,none⟩)] W fun e W'=>(∃ v,e=.returned v)∧∃ k s,((k=0∨(k - 1)*f<N)∧N≤k*f)∧J (stF f k) s W':=by
 have HCAP:=Lib.hid hcap
 have HST:=Lib.hid hst
 have HY:=Lib.hid hY
 have HP:=Lib.hid hP
 have H0:=Lib.hid h0
 clear hcap hst hY hP h0
 refine callsIn_of_wp Tryz.func153 rfl trivial ?_ rfl
 simp only[Tryz.ntmps153,List.size_toArray,List.length_cons,List.length_nil,Nat.reduceAdd,Nat.reduceSub,Array.replicate_succ,Array.replicate_zero,List.push_toArray,List.append_toArray,List.nil_append,List.cons_append]
 gi_wp2
 gi_loopw [4] (fun p wr=>∃ (k i:Nat) (s:σ),p=.int .i64 (i:Int)∧i=k*f∧(k=0∨(k - 1)*f<N)∧J (stF f k) s wr) (fun p _=>N - (intOf p).toNat)
 case atStart=>exact⟨0,0,s0,rfl,by omega,.inl rfl,H0.out⟩
 case round =>
  obtain⟨k,i,s,rfl,hi,hk,hJ⟩:=hrel
  rename World=>wr
  have HJ:=Lib.hid hJ
  have HI:=Lib.hid (And.intro hi hk)
  obtain⟨c0,c1⟩:=HCAP.out _ _ _ hJ
  clear hJ hi hk
  by_cases hlt:i<N
  ·obtain rfl:=HP.out (by omega)
   have hd:decide ((i:Int)<(N:Int))=true:=decide_eq_true (by omega)
   have i0:(0:Int)≤(i:Int):=by omega
   have i1:(i:Int)≤(N:Int):=by omega
   have i2:i≤N:=by omega
   have e4:¬ c=i:=by omega
   gi_wp2_with fail
   refine region_NJ (S:=fun W=>W.cell? ⟨ps,0,none⟩=some (.slice (some ad) N c)∧W.cell? ⟨pn,0,none⟩=some (.int .i64 (f:Int))) (kill:=[]) (by kernel_rfl) ⟨c0,c1⟩ (fun hHeld=>?_)
   refine WTN (i:=0) (v:=?vka0) ?yka0 hHeld ?rka0
   case yka0=>(intro W hW;obtain⟨g0,g1⟩:=hW;go_simp;first | done | with_reducible rfl)
   try simp only[SL,Act.put]
   refine WTN (i:=1) (v:=?vka1) ?yka1 hHeld ?rka1
   case yka1=>(intro W hW;obtain⟨g0,g1⟩:=hW;go_simp;first | done | with_reducible rfl)
   try simp only[SL,Act.put]
   refine WTN (i:=2) (v:=?vka2) ?yka2 hHeld ?rka2
   case yka2=>(intro W hW;obtain⟨g0,g1⟩:=hW;go_simp;first | done | with_reducible rfl)
   try simp only[SL,Act.put]
   refine WTN (i:=3) (v:=?vka3) ?yka3 hHeld ?rka3
   case yka3=>(intro W hW;obtain⟨g0,g1⟩:=hW;go_simp;first | done | with_reducible rfl)
   try simp only[SL,Act.put]
   refine WTN (i:=4) (v:=?vka4) ?yka4 hHeld ?rka4
   case yka4=>(intro W hW;obtain⟨g0,g1⟩:=hW;go_simp;first | done | with_reducible rfl)
   try simp only[SL,Act.put]
   refine WTN (i:=5) (v:=?vka5) ?yka5 hHeld ?rka5
   case yka5=>(intro W hW;obtain⟨g0,g1⟩:=hW;go_simp;first | done | with_reducible rfl)
   try simp only[SL,Act.put]
   refine WTN (i:=6) (v:=?vka6) ?yka6 hHeld ?rka6
   case yka6=>(intro W hW;obtain⟨g0,g1⟩:=hW;go_simp;first | done | with_reducible rfl)
   try simp only[SL,Act.put]
   refine anyN_done (by kernel_rfl) (noP_normal ?_) _
   obtain⟨fn,tmps,assign,body,hy,hR⟩:=HY.out k i s wr.drew (HST.out _ _ _ _ HJ.out (Below.refl wr.heap.size wr).drew) HI.out.1 hlt
   have hmn:((i:Int)+min (f:Int) ((N - i:Nat):Int)).toNat - i=min f (N - i):=by omega
   rw[← hmn] at hy
   have HRR:=Lib.hid hR
   have HLT:=Lib.hid hlt
   clear hR hmn c1 hHeld
   gi_wp2_with fail
   refine HRR.out.mono ?_
   rintro e W3 ⟨rfl,s',hJ3⟩
   have HJ3:=Lib.hid hJ3
   obtain⟨-,c9⟩:=HCAP.out (stF f (k+1)) s' W3 (by rw[stF_succ,← HI.out.1];exact hJ3)
   have hwr:IntKind.i64.wrap ((i:Int)+(f:Int))=((i+f:Nat):Int):=by
    have h1:=HI.out.1
    rcases Nat.eq_zero_or_pos k with q | q
    ·rw[IntWalk.i64_in _ (by rw[h1,q];omega)];push_cast;rfl
    ·have h2:1*f≤k*f:=Nat.mul_le_mul_right f q
     rw[IntWalk.i64_in _ (by have:=HLT.out;omega)];push_cast;rfl
   obtain⟨i3,hi3⟩:∃ z,z=i+f:=⟨_,rfl⟩
   rw[← hi3] at hwr
   have HI3:=Lib.hid (show i3=(k+1)*f∧(k+1=0∨(k+1 - 1)*f<N)∧i<i3 from ⟨by rw[hi3,HI.out.1,Nat.succ_mul],.inr (by rw[Nat.add_sub_cancel,← HI.out.1];exact HLT.out),by omega⟩)
   clear hJ3 hy hi3
   gi_wp2_with fail
   exact⟨⟨k+1,i3,s',rfl,HI3.out.1,HI3.out.2.1,by rw[stF_succ,← HI.out.1];exact HJ3.out⟩,by simp[intOf];have:=HI3.out.2.2;have:=HLT.out;omega⟩
  ·have hd:decide ((i:Int)<(N:Int))=false:=decide_eq_false (by omega)
   have HF:=Lib.hid (show ∃ k s,((k=0∨(k - 1)*f<N)∧N≤k*f)∧J (stF f k) s wr from ⟨k,s,⟨HI.out.2,by rw[← HI.out.1];omega⟩,HJ.out⟩)
   gi_wp2
   go_end0
   exact⟨⟨_,rfl⟩,HF.out⟩
end Go.Proofs.YtnjlkhhcfiedbaaGreatDoor
namespace Go.Proofs.YtnjlkhhcfiedbaaGreatDoor
open Go.RowKit Go.Shelf Go.Sort
attribute [local go_sem] Oper.semAt_some
theorem append_word1 {B:Nat} {X:World} {v u:Value} {vals:List Value} (ho:X.ownsRow B 31 1 v vals.length vals) (h1:u.oneCell'=true) (hl:vals.length+1≤1000000) (hB:B≤X.heap.size) :
  ∃ v' Y,(Builtin.append_ #[64,64] 64 #[v,.slice (some ⟨X.heap.size,0,none⟩) 1 1]).run Tryz.prog (X.alloc (.cells #[u] 31))=.ok v' Y∧Y.ownsRow B 31 1 v' (vals ++ [u]).length (vals ++ [u])∧Tch (fun k=>v.ownBlock=some k) X Y∧(∀ k,v'.ownBlock=some k→v.ownBlock=some k∨X.heap.size≤k):=by
 have hb:Below X.heap.size X (X.alloc (.cells #[u] 31)):=(Below.refl _ _).alloc (Nat.le_refl _) _
 obtain⟨i0,hi,hz0,hz1,hz2⟩:=info_parts infoSC
 have ho2:=own_below ho hb (Nat.le_refl _)
 obtain⟨v',Y,hrun,hr,hg,-,hbl⟩:=run_append_own_at (P:=Tryz.prog) (X.alloc (.cells #[u] 31)) B 64 64 31 i0 _ 1 24 Tryz.underlying64 hi hz0 hz1 hz2 rfl (by omega) v vals.length vals ho2 ⟨X.heap.size,0,none⟩ 1 1 [u] rfl
  (fun j w hw=>by
   rw[add0,show (X.alloc (.cells #[u] 31)).cell? ⟨X.heap.size,j,none⟩=#[u][j]? from cell_of_row _ _ _ _ 31 (0,0) (heap_alloc_new X _)]
   simpa using hw) (by intro x hx;rw[List.mem_singleton] at hx;subst hx;exact h1) (by simp only[maxLen];omega) (by omega) (by simp;omega)
 refine⟨v',Y,hrun,by rw[List.length_append];exact hr,(Tch.of_below _ hb).same (Tch.of_grown hg fun k e=>e),fun k hk=>?_⟩
 rcases hbl with e | e
 ·exact .inl (by rw[← e,hk])
 ·rw[e] at hk
  injection hk with hk
  right
  rw[← hk];simp
def RdP (w X:World) (Z:Nat→Prop) (u:Value) (G:List Cel):Prop:=∃ A c,u=.slice A G.length c∧G.length≤c∧∀ Y:World,(∀ k,k<X.heap.size→(k<w.heap.size∨Z k)→Y.heap[k]? = X.heap[k]?)→RowC Y A G.length G
theorem RdP.stay {w X Y:World} {Z Z':Nat→Prop} {u:Value} {G:List Cel} (h:RdP w X Z u G) (hs:X.heap.size≤Y.heap.size) (he:∀ k,k<X.heap.size→(k<w.heap.size∨Z k)→Y.heap[k]? = X.heap[k]?) (hZ:∀ k,Z k→Z' k):RdP w Y Z' u G:=by
 obtain⟨A,c,e,hc,hr⟩:=h
 exact⟨A,c,e,hc,fun V hV=>hr V fun k hk hz=>(hV k (by omega) (hz.imp id (hZ k))).trans (he k hk hz)⟩
section
variable {w X Y:World} {z b3 b7 ps pn f:Nat} {Ls:Value} {Js:List (List Cel)}
abbrev SPs:=(Nat→Prop) × Value × List Value
structure PasI (w:World) (z b3 b7 ps pn:Nat) (Ls:Value) (f:Nat) (Js:List (List Cel)) (pre:List Nat) (s:SPs) (X:World):Prop where
 be:Below w.heap.size w X
 zX:z≤X.heap.size
 o7:Own 64 X b7 [s.2.1]
 o3:Own 98 X b3 kdV
 op:Own 64 X ps [Ls]
 on:Own 3 X pn [.int .i64 (f:Int)]
 row:X.ownsRow w.heap.size 31 1 s.2.1 s.2.2.length s.2.2
 len:s.2.2.length=pre.length
 rd:∀ (i:Nat) u j,s.2.2[i]? = some u→pre[i]? = some j→RdP w X s.1 u (pcG f Js j)
 zc:∀ k,s.1 k→z+2≤k∧k<X.heap.size∧s.2.1.ownBlock ≠ some k
 rz:∀ k,s.2.1.ownBlock=some k→z+2≤k
def WhP (w:World) (z b3 b7 ps pn:Nat):Prop:=w.heap.size≤b3∧w.heap.size≤b7∧w.heap.size≤ps∧w.heap.size≤pn∧b3<z∧b7<z∧ps<z∧pn<z∧b3 ≠ b7∧ps ≠ b7∧pn ≠ b7
theorem PasI.stay {pre:List Nat} {s:SPs} {M:Nat→Prop} (h:PasI w z b3 b7 ps pn Ls f Js pre s X) (hw:WhP w z b3 b7 ps pn) (ht:Tch M X Y) (hM:∀ k,M k→k=z∨k=z+1):PasI w z b3 b7 ps pn Ls f Js pre s Y:=by
 obtain⟨h1,h2,h3,h4,h5,h6,h7,h8,h9,h10,h11⟩:=hw
 have no:∀ b,b<z→¬ M b:=fun b hb hm=>by have:=hM b hm;omega
 have n2:∀ b,z+2≤b→¬ M b:=fun b hb hm=>by have:=hM b hm;omega
 have hlow:∀ k,M k→w.heap.size≤k:=fun k hm=>by have:=hM k hm;omega
 exact⟨h.be.trans (ht.below hlow h.be.size),Nat.le_trans h.zX ht.size,h.o7.tchM ht (no _ h6),h.o3.tchM ht (no _ h5),h.op.tchM ht (no _ h7),h.on.tchM ht (no _ h8),own_stay h.row fun k hk=>ht.block k (h.row.lt k hk).2 (n2 k (h.rz k hk)),h.len,
  fun i u g hu hg=>(h.rd i u g hu hg).stay ht.size (fun k hk hz=>ht.block k hk fun hm=>by
   rcases hz with q | q
   ·have:=hlow k hm;omega
   ·exact n2 k (h.zc k q).1 hm) fun _ q=>q,
  fun k hk=>⟨(h.zc k hk).1,Nat.lt_of_lt_of_le (h.zc k hk).2.1 ht.size,(h.zc k hk).2.2⟩,h.rz⟩
theorem PasI.more {pre:List Nat} {s:SPs} {i:Nat} {u v':Value} {w1 W3:World} (h:PasI w z b3 b7 ps pn Ls f Js pre s X) (hw:WhP w z b3 b7 ps pn) (hz:z+2≤X.heap.size) (hb:Below X.heap.size X w1) (hj:RdP w w1 (fun k=>X.heap.size≤k∧k<w1.heap.size) u (pcG f Js i)) (hr:Y.ownsRow w.heap.size 31 1 v' (s.2.2 ++ [u]).length (s.2.2 ++ [u])) (ht:Tch (fun k=>s.2.1.ownBlock=some k) w1 Y) (hbl:∀ k,v'.ownBlock=some k→s.2.1.ownBlock=some k∨w1.heap.size≤k) (hW3:W3=Y.setCell ⟨b7,0,none⟩ v') :
  PasI w z b3 b7 ps pn Ls f Js (pre ++ [i]) (fun k=>s.1 k∨(X.heap.size≤k∧k<w1.heap.size),v',s.2.2 ++ [u]) W3∧Tch (TcO b7 s.2.1) X W3:=by
 obtain⟨h1,h2,h3,h4,h5,h6,h7,h8,h9,h10,h11⟩:=hw
 have hT:Tch (TcO b7 s.2.1) w1 W3:=by
  rw[hW3]
  exact (ht.mono fun k _ hk=>.inr hk).same (Tch.setCell (M:=TcO b7 s.2.1) (g:=b7) (.inl rfl) _ _ _)
 have hTX:Tch (TcO b7 s.2.1) X W3:=(Tch.of_below _ hb).same hT
 have hsz:w1.heap.size≤W3.heap.size:=hT.size
 have no:∀ b,b<z→b ≠ b7→¬ TcO b7 s.2.1 b:=fun b hb' hne hm=>by
  rcases hm with q | q
  ·exact hne q
  ·have:=h.rz b q;omega
 have hlow:∀ k,TcO b7 s.2.1 k→w.heap.size≤k:=fun k hm=>by
  rcases hm with q | q
  ·rw[q];exact h2
  ·have:=h.rz k q;omega
 have nz:∀ k,s.1 k→¬ TcO b7 s.2.1 k:=fun k hk hm=>by
  rcases hm with q | q
  ·have:=(h.zc k hk).1;omega
  ·exact (h.zc k hk).2.2 q
 have hsb:=hb.size
 have n5:∀ k,v'.ownBlock=some k→k ≠ b7:=fun k hk e=>by
  rcases hbl k hk with q | q
  ·have:=h.rz k q;omega
  ·have:=h.zX;omega
 have o7w:Own 64 Y b7 [s.2.1]:=(h.o7.below hb h.o7.lt).tchM ht fun hk=>by have:=h.rz b7 hk;omega
 have hJ3:∀ k,k<w1.heap.size→(X.heap.size≤k∨k<w.heap.size)→W3.heap[k]? = w1.heap[k]?:=fun k hk hq=>hT.block k hk fun hm=>by
  rcases hm with q | q
  ·have:=h.zX;omega
  ·have:=(h.row.lt k q).2
   have:=h.rz k q
   omega
 refine⟨⟨h.be.trans (hTX.below hlow h.be.size),Nat.le_trans h.zX hTX.size,?_,h.o3.tchM hTX (no _ h5 h9),h.op.tchM hTX (no _ h7 h10),h.on.tchM hTX (no _ h8 h11),?_,by rw[List.length_append,List.length_append,h.len];rfl,fun i v gg hu hg=>?_,fun k hk=>?_,fun k hk=>?_⟩,hTX⟩
 ·rw[hW3]
  exact o7w.set_ 0 v'
 ·rw[hW3]
  exact own_stay hr fun k hk=>Below.heap_setCell _ _ _ _ (n5 k hk)
 ·rcases Nat.lt_or_ge i s.2.2.length with hi | hi
  ·rw[List.getElem?_append_left hi] at hu
   rw[List.getElem?_append_left (by rw[← h.len];exact hi)] at hg
   refine (h.rd i v gg hu hg).stay hTX.size (fun k hk hz=>hTX.block k hk fun hm=>?_) fun k q=>.inl q
   rcases hz with q | q
   ·have:=hlow k hm;omega
   ·exact nz k q hm
  ·rw[List.getElem?_append_right hi] at hu
   rw[List.getElem?_append_right (by rw[← h.len];exact hi),← h.len] at hg
   rcases hd:i - s.2.2.length with _ | q
   ·rw[hd] at hu hg
    simp only[List.getElem?_cons_zero,Option.some.injEq] at hu hg
    subst hu hg
    refine hj.stay hsz (fun k hk hz=>hJ3 k hk ?_) fun k q=>.inr q
    rcases hz with q | q
    ·exact .inr q
    ·exact .inl q.1
   ·rw[hd] at hu;simp at hu
 ·rcases hk with q | q
  ·have:=h.zc k q
   have h4':=hTX.size
   refine⟨this.1,by omega,fun e=>?_⟩
   rcases hbl k e with r | r
   ·exact this.2.2 r
   ·omega
  ·refine⟨by omega,by omega,fun e=>?_⟩
   rcases hbl k e with r | r
   ·have:=(h.row.lt k r).2;omega
   ·omega
 ·rcases hbl k hk with r | r
  ·exact h.rz k r
  ·omega
theorem PasI.rcc {k:Nat} {s:SPs} (h:PasI w z b3 b7 ps pn Ls f Js (stF f k) s X) (hp:passP f Js=(stF f k).map (pcG f Js)):∃ A c,s.2.1=.slice A (passP f Js).length c∧RCc X A (passP f Js).length (passP f Js)∧(passP f Js).length≤c:=by
 obtain⟨A,c,e,hlc,-,hc⟩:=own_form h.row
 have hl:s.2.2.length=(passP f Js).length:=by rw[hp,List.length_map,h.len]
 rw[hl] at e hlc hc
 refine⟨A,c,e,fun hn=>?_,hlc⟩
 obtain⟨g,rfl,-,hc⟩:=hc hn
 refine⟨_,rfl,fun i J hJ=>?_⟩
 rw[hp,List.getElem?_map] at hJ
 obtain⟨j,hj,rfl⟩:=Option.map_eq_some_iff.1 hJ
 obtain⟨u,hu⟩:∃ u,s.2.2[i]? = some u:=⟨_,List.getElem?_eq_getElem (by rw[h.len];exact (List.getElem?_eq_some_iff.1 hj).1)⟩
 obtain⟨A1,c1,e1,hc1,hr⟩:=h.rd i u j hu hj
 refine⟨A1,c1,?_,hr X fun _ _ _=>rfl,hc1⟩
 rw[add0,← e1]
 exact hc i u hu
end
end Go.Proofs.YtnjlkhhcfiedbaaGreatDoor
namespace Go.Proofs.YtnjlkhhcfiedbaaGreatDoor
open Go.RowKit Go.Shelf Go.Sort
attribute [local go_sem] Oper.semAt_some
theorem RCc.part {w:World} {ad:Addr} {N i f:Nat} {Js:List (List Cel)} (h:RCc w (some ad) N Js) (hN:N=Js.length) (hi:i<N):RCc w (some (ad.add i)) (min f (N - i)) ((Js.drop i).take f):=fun hn=>by
 obtain⟨ad',e,hc⟩:=h (by omega)
 cases e
 refine⟨_,rfl,fun j J hJ=>?_⟩
 rw[List.getElem?_take] at hJ
 split at hJ
 ·rw[List.getElem?_drop] at hJ
  rw[add_of_add]
  exact hc _ J hJ
 ·cases hJ
theorem flat_subM (Js:List (List Cel)) (i f:Nat):((Js.drop i).take f).flatten.length≤Js.flatten.length:=by
 have h1:=congrArg (fun l=>l.flatten.length) (List.take_append_drop i Js)
 have h2:=congrArg (fun l=>l.flatten.length) (List.take_append_drop f (Js.drop i))
 simp only[List.flatten_append,List.length_append] at h1 h2
 omega
def PassR (w:World) (Js:List (List Cel)) (e:Ending) (w':World):Prop:=(∃ A c,e=.returned (.slice A Js.length c)∧RCc w' A Js.length Js∧Js.length≤c)∧Below w.heap.size w w'
set_option maxRecDepth 100000 in
set_option maxHeartbeats 8000000 in
theorem hpass_any (P:Option Addr) (c N me f:Nat) (Js:List (List Cel)) (w:World) (hN:N=Js.length) (hN1:N≤1000) (hNc:N≤c) (hf1:1≤f) (hf2:f≤9223372036854775807) (hR:RCc w P N Js) (hk:∀ J ∈ Js,∀ x ∈ J,x.key.length≤1000000) (hr:∀ J ∈ Js,RiseC J) (hev:∀ J ∈ Js,∀ x ∈ J,EvenC me x) (hme:me≤1000000) (htot:Js.flatten.length≤1000) :
  Calls Tryz.prog 98 #[.agg #[.func (.func 97) #[] #[],.func (.func 62) #[] #[]],.slice P N c,.int .i64 (f:Int)] w (PassR w (passP f Js)):=by
 obtain⟨ad,had⟩:∃ ad,0<N→P=some ad:=by
  rcases Nat.eq_zero_or_pos N with h0 | h0
  ·exact⟨⟨0,0,none⟩,fun h=>by omega⟩
  ·obtain⟨ad,e,-⟩:=hR h0
   exact⟨ad,fun _=>e⟩
 have HR:=Lib.hid hR
 have HK:=Lib.hid hk
 have HRI:=Lib.hid hr
 have HEV:=Lib.hid hev
 have HTT:=Lib.hid htot
 have HAD:=Lib.hid had
 have HNN:=Lib.hid (And.intro hN (And.intro hN1 (And.intro hNc (And.intro hf1 hf2))))
 clear hR hk hr hev htot hN hN1 had hNc hf1 hf2
 rw[← callsIn_wide (n:=12)]
 refine callsIn_of_wp_marks Tryz.func98 rfl trivial ?_ rfl
 simp only[Tryz.ntmps98,List.size_toArray,List.length_cons,List.length_nil,Nat.reduceAdd,Nat.reduceSub,Array.replicate_succ,Array.replicate_zero,List.push_toArray,List.append_toArray,List.nil_append,List.cons_append]
 gi_wp2_with fail
 refine⟨trivial,?_⟩
 refine (callsIn_wide.2 (mchunk_fn N c f P _ HNN.out.2.2.2.1)).mono ?_
 rintro e w2 ⟨rfl,rfl⟩
 gi_wp2_with fail
 obtain⟨e3,e7,ep,en,hb4,hz4⟩:=four_al w (.cells #[.func (.func 97) #[] #[],.func (.func 62) #[] #[]] 98) (.cells #[.slice none 0 0] 64) (.cells #[.slice P N c] 64) (.cells #[.int .i64 (f:Int)] 3)
 obtain⟨W4,hW4⟩:∃ W4,W4=((((w.alloc (.cells #[.func (.func 97) #[] #[],.func (.func 62) #[] #[]] 98)).alloc (.cells #[.slice none 0 0] 64)).alloc (.cells #[.slice P N c] 64)).alloc (.cells #[.int .i64 (f:Int)] 3)):=⟨_,rfl⟩
 rw[← hW4] at e3 e7 ep en hb4 hz4 ⊢
 obtain⟨pn,hpn⟩:∃ b,b=w.heap.size+1+1+1:=⟨_,rfl⟩
 obtain⟨ps,hps⟩:∃ b,b=w.heap.size+1+1:=⟨_,rfl⟩
 obtain⟨b7,hb7⟩:∃ b,b=w.heap.size+1:=⟨_,rfl⟩
 obtain⟨b3,hb3⟩:∃ b,b=w.heap.size:=⟨_,rfl⟩
 rw[← hpn] at en
 rw[← hps] at ep
 rw[← hb7] at e7
 rw[← hb3] at e3
 rw[← hpn,← hps,← hb7,← hb3]
 have hw:WhP w W4.heap.size b3 b7 ps pn:=⟨by omega,by omega,by omega,by omega,by omega,by omega,by omega,by omega,by omega,by omega,by omega⟩
 have hI0:PasI w W4.heap.size b3 b7 ps pn (.slice P N c) f Js [] (fun _=>False,.slice none 0 0,[]) W4:=⟨hb4,Nat.le_refl _,e7,e3,ep,en,World.ownsRow_nil _ _ _ _,rfl,fun i u g hu=>by simp at hu,fun k hk=>hk.elim,fun k hk=>by cases hk⟩
 have HW:=Lib.hid hw
 have HI0:=Lib.hid hI0
 clear e3 e7 ep en hb4 hz4 hW4 hpn hps hb7 hb3 hw hI0
 refine range_st rfl (by omega) (gf:=153) (lb:=#[.pointer (some ⟨ps,0,none⟩),.pointer (some ⟨pn,0,none⟩)]) rfl trivial (enters_of Tryz.func153 (by kernel_rfl) rfl) (encs:=fun i:Nat=>#[.slice (some (ad.add i)) (min f (N - i)) (min f (N - i))]) (S:=fun xs (_:SPs)=>∃ k,xs=stF f k∧(k=0∨(k - 1)*f<N)∧N≤k*f) (fun _=>rfl)
  (PasI w W4.heap.size b3 b7 ps pn (.slice P N c) f Js) (fun pre i _ _=>∃ k,pre=stF f k∧i=k*f∧i<N) (fun _ s k=>TcO b7 s.2.1 k) (fun _ _=>False) (fun _=>False,.slice none 0 0,[])
  (fun i _=>{ tmps:=#[.agg #[.func (.func 97) #[] #[],.func (.func 62) #[] #[]],.slice P N c,.int .i64 (f:Int),.pointer (some ⟨b3,0,none⟩),undef,undef,.slice none 0 0,.pointer (some ⟨b7,0,none⟩),.slice (some (ad.add i)) (min f (N - i)) (min f (N - i)),.slice P N c,.int .i64 (f:Int),.func (.func 153) #[] #[.pointer (some ⟨ps,0,none⟩),.pointer (some ⟨pn,0,none⟩)],.slice (some (ad.add i)) (min f (N - i)) (min f (N - i)),undef,undef,undef,undef,undef,undef,undef],defers:=[] }) (fun _ W=>W)
  ?hit ?hI ?hok ?htc ?h0 ?hwa ?hassign ?hbody ?hdone
 case hit =>
  intro J' W2 hbW hsz hJI' hst' hYl h0'
  refine (mchunk_in (12 - 1) (by omega) (W4.heap.size+1) ps pn N c f P ad W2 HNN.out.2.1 HNN.out.2.2.1 HNN.out.2.2.2.1 HNN.out.2.2.2.2 HAD.out J' (fun pre s A B h hb=>hst' _ _ _ _ (fun _=>False) h (Tch.of_below _ hb) fun _ hk=>hk.elim) (fun pre s X h=>⟨(hJI' _ _ _ h).1.op.cell (i:=0) rfl,(hJI' _ _ _ h).1.on.cell (i:=0) rfl⟩) (fun k i s W1 h hi hlt=>?_) _ h0').mono ?_
  ·obtain⟨fn,tmps,assign,body,hy,hR⟩:=hYl (stF f k) s i W1 h ⟨k,rfl,hi,hlt⟩
   refine⟨fn,tmps,assign,body,hy,hR.mono ?_⟩
   rintro e W' ⟨he,s',hJ,-⟩
   exact⟨he,s',hJ⟩
  ·rintro e W' ⟨hv,k,s,hk,hJ⟩
   exact⟨hv,stF f k,s,⟨k,rfl,hk⟩,hJ⟩
 case hI =>
  intro pre s A B M h1 ht hM
  exact h1.stay HW.out ht fun k hk=>by
   rcases hM k hk with q | ⟨q,-⟩
   ·exact q.elim
   ·exact q
 case hok=>exact fun s k h=>h.elim
 case htc =>
  intro pre s x W r d hI hx hd hl k hk
  rcases hk with q | q
  ·have:=HW.out.2.2.2.2.2.1;omega
  ·have:=hI.rz k q;omega
 case h0=>exact HI0.out
 case hwa=>exact fun _ W=>Below.refl _ _
 case hassign =>
  intro pre s x W K hI hx hK
  have HKK:=Lib.hid hK
  clear hI hx hK
  gi_wp2
  exact HKK.out
 case hbody =>
  rintro pre ⟨Z,lv,us⟩ i X Xb hI ⟨k,hpre,hik,hiN⟩ hsz ⟨r,hr⟩ hT
  dsimp only at hT ⊢
  have hIb:=hI.stay HW.out hT (fun k hk=>.inr hk)
  have hId:=hIb.stay HW.out (M:=fun _=>False) (Tch.of_below _ (Below.refl Xb.heap.size Xb).drew) (fun k hk=>hk.elim)
  have hszb:W4.heap.size+2≤Xb.drew.heap.size:=Nat.le_trans hsz hT.size
  obtain⟨e,he⟩:∃ e,e=min f (N - i):=⟨_,rfl⟩
  have hP:P=some ad:=HAD.out (by omega)
  subst hP
  have hlenJ:e=((Js.drop i).take f).length:=by rw[List.length_take,List.length_drop,he,HNN.out.1]
  have hmem:∀ J ∈ (Js.drop i).take f,J ∈ Js:=fun J hJ=>List.mem_of_mem_drop (List.mem_of_mem_take hJ)
  have hON:=hone_any (some (ad.add i)) e e me ((Js.drop i).take f) w Xb.drew hId.be hlenJ (by have:=HNN.out.2.1;omega) (by rw[he];exact HR.out.part HNN.out.1 hiN) (fun J hJ=>HK.out J (hmem J hJ)) (fun J hJ=>HRI.out J (hmem J hJ)) (fun J hJ=>HEV.out J (hmem J hJ)) hme (by
   have h1:=HTT.out
   have h2:((Js.drop i).take f).flatten.length≤Js.flatten.length:=flat_subM Js i f
   omega)
  have hpl:us.length≤1000:=by
   have h1:us.length=pre.length:=hId.len
   rw[h1,hpre,stF,List.length_map,List.length_range]
   have h2:k*1≤k*f:=Nat.mul_le_mul_left k HNN.out.2.2.2.1
   have:=HNN.out.2.1
   omega
  rw[← he]
  have HON:=Lib.hid hON
  have HID:=Lib.hid hId
  have HPL:=Lib.hid hpl
  have HSB:=Lib.hid hszb
  have c5:=hIb.o7.cell (i:=0) rfl
  have c2:Xb.cell? ⟨b3,0,none⟩=some (.func (.func 97) #[] #[]):=hIb.o3.cell (i:=0) rfl
  have c21:Xb.cell? ⟨b3,1,none⟩=some (.func (.func 62) #[] #[]):=hIb.o3.cell (i:=1) rfl
  dsimp only at c5
  have HTB:=Lib.hid hT
  clear hIb hId hT hI hr hON hpl hszb hsz hlenJ hmem he hpre hik hiN
  gi_wp2_with fail
  refine region_N (S:=fun W=>W.cell? ⟨b7,0,none⟩=some lv∧W.cell? ⟨b3,0,none⟩=some (.func (.func 97) #[] #[])∧W.cell? ⟨b3,1,none⟩=some (.func (.func 62) #[] #[])) (kill:=[5,6]) (by kernel_rfl) ⟨c5,c2,c21⟩ (fun hHeld=>?_)
  refine WTN (i:=0) (v:=?voa0) ?yoa0 hHeld ?roa0
  case yoa0=>(intro W hW;obtain⟨g5,g2,g21⟩:=hW;go_simp;first | done | with_reducible rfl)
  try simp only[SL,Act.put]
  refine WTN (i:=1) (v:=?voa1) ?yoa1 hHeld ?roa1
  case yoa1=>(intro W hW;obtain⟨g5,g2,g21⟩:=hW;go_simp;first | done | with_reducible rfl)
  try simp only[SL,Act.put]
  refine WTN (i:=2) (v:=?voa2) ?yoa2 hHeld ?roa2
  case yoa2=>(intro W hW;obtain⟨g5,g2,g21⟩:=hW;go_simp;first | done | with_reducible rfl)
  try simp only[SL,Act.put]
  clear c5 c2 c21
  refine anyN_ready (rs:=[3]) (by kernel_rfl) (by simp) ?_
  refine AllN.cons (by kernel_rfl) rfl (by rfl) (fun K hK=>?_) (AllN.nil)
  refine⟨fun _ _=>trivial,?_⟩
  go_simp
  refine (CallsIn.inRound _ (callsIn_wide.2 HON.out)).mono ?_
  rintro ee w1 ⟨⟨A8,c8,rfl,hrow8,hlc8⟩,hb1⟩
  have kp:=Keeps.of_below hb1
  have hH1:=And.intro (kp _ _ hHeld.1) (And.intro (kp _ _ hHeld.2.1) (kp _ _ hHeld.2.2))
  refine hK.out _ _ (fun _=>hH1) ?_
  clear hK K
  try simp only[SL,Act.put]
  have hrow1:=own_below HID.out.row hb1 (Nat.le_refl _)
  obtain⟨n8,hn8⟩:∃ n,n=(grpR ((Js.drop i).take f).flatten).length:=⟨_,rfl⟩
  have hj8:RdP w w1 (fun k=>Xb.drew.heap.size≤k∧k<w1.heap.size) (.slice A8 n8 c8) (pcG f Js i):=⟨A8,c8,by rw[hn8];rfl,hlc8,fun Y hY=>hrow8 Y fun k hk hz=>hY k hk (hz.imp id fun q=>⟨q,hk⟩)⟩
  obtain⟨v',Y,hrun,hr2,ht2,hbl2⟩:=append_word1 hrow1 (u:=.slice A8 n8 c8) rfl (by show us.length+1≤1000000;have:=HPL.out;omega) (Nat.le_trans HID.out.be.size hb1.size)
  obtain⟨W3,hW3⟩:∃ W3,W3=Y.setCell ⟨b7,0,none⟩ v':=⟨_,rfl⟩
  have hfin:=PasI.more (i:=i) HID.out HW.out HSB.out hb1 hj8 hr2 ht2 hbl2 hW3
  have o5Y:Own 64 Y b7 [lv]:=(HID.out.o7.below hb1 HID.out.o7.lt).tchM ht2 fun hk=>by
   have h1:=HID.out.rz b7 hk
   have:=HW.out.2.2.2.2.2.1
   omega
  have y5:=o5Y.cell (i:=0) rfl
  have z5:=o5Y.frozen 0
  obtain⟨A6,c6,e6,-⟩:=own_form hr2
  dsimp only at hrun y5 z5
  obtain⟨A7,c7,e7,-⟩:=own_form HID.out.row
  dsimp only at e7
  subst e6 e7
  simp only[List.length_append,List.length_singleton] at hW3
  rw[← hn8]
  have HF:=Lib.hid hfin
  have Hrun:=Lib.hid hrun
  have HW3:=Lib.hid hW3
  clear hb1 hrow1 hrun hr2 ht2 hbl2 hfin hW3 o5Y hn8 hj8 hrow8 hlc8
  have ka:=Keeps.of_below ((Below.refl w1.heap.size w1).alloc (Nat.le_refl _) (.cells #[.slice A8 n8 c8] 31))
  refine anyN_ready (rs:=[4]) (by kernel_rfl) (by simp) ?_
  refine AllN.cons (by kernel_rfl) rfl (by rfl) (fun K hK=>?_) (AllN.nil)
  refine⟨fun _ _=>trivial,?_⟩
  go_simp
  refine hK.out _ _ (fun _=>⟨ka _ _ hH1.1,ka _ _ hH1.2.1,ka _ _ hH1.2.2⟩) ?_
  clear hK K
  try simp only[SL,Act.put]
  clear ka hH1 kp hHeld
  refine anyN_ready (rs:=[5]) (by kernel_rfl) (by simp) ?_
  refine AllN.cons (by kernel_rfl) rfl (by rfl) (fun K hK=>?_) (AllN.nil)
  refine⟨fun _ _=>trivial,?_⟩
  refine uponIn_append (.tmp 13) (.tmp 17) 64 rfl _ _ _ _ rfl rfl Hrun.out ?_
  refine hK.out _ _ (fun h=>absurd (by decide) h) ?_
  clear hK K
  try simp only[SL,Act.put]
  refine anyN_ready (rs:=[6]) (by kernel_rfl) (by simp) ?_
  refine AllN.cons (by kernel_rfl) rfl (by rfl) (fun K hK=>?_) (AllN.nil)
  refine⟨fun _ _=>trivial,?_⟩
  go_simp
  refine hK.out _ _ (fun h=>absurd (by decide) h) ?_
  clear hK K
  try simp only[SL,Act.put]
  refine anyN_done (by kernel_rfl) ?_ _
  rw[← HW3.out]
  gi_wp2
  obtain⟨g1,g2⟩:=HF.out
  exact⟨_,g1,(Tch.of_below _ (Below.refl Xb.heap.size Xb).drew).same g2⟩
 case hdone =>
  rintro xs s W ⟨k,rfl,hk1,hk2⟩ hI hD0
  have hp:=pass_end HNN.out.2.2.2.1 Js (k:=k) (by rw[← HNN.out.1];exact hk1) (by rw[← HNN.out.1];exact hk2)
  obtain⟨A,c1,e1,hrow,hlc⟩:=hI.rcc hp
  have c5:=hI.o7.cell (i:=0) rfl
  rw[e1] at c5
  have HF:=Lib.hid (And.intro hrow hlc)
  have HI:=Lib.hid hI
  have HD0:=Lib.hid hD0
  obtain⟨gn,hgn⟩:∃ n,n=(passP f Js).length:=⟨_,rfl⟩
  have HGN:=Lib.hid hgn
  rw[← hgn] at c5
  clear hI hD0 e1 hrow hlc hgn hp hk1 hk2
  gi_wp2_with fail
  refine⟨by simp,.inl ⟨_,_,rfl,run_takeDeferred HD0.out,?_⟩⟩
  have hbE:Below w.heap.size w (W.putObj W4.heap.size (.deferred none)):=HI.out.be.trans ((tch_put (M:=fun k=>k=W4.heap.size) (W:=W) (l:=W4.heap.size) (.deferred none) rfl).below (fun k hk=>by rw[show k=W4.heap.size from hk];exact HI0.out.be.size) HI.out.be.size)
  have kE:Keeps W (W.putObj W4.heap.size (.deferred none)):=fun p v hp=>by
   have hne:p.block ≠ W4.heap.size:=fun e=>by
    unfold World.cell? at hp
    rw[e,HD0.out] at hp
    cases hp
   rw[World.cell?_of_block (w:=W) (World.putObj_heap_other hne)]
   exact hp
  refine⟨.slice A gn c1,?_,⟨⟨A,c1,by rw[HGN.out],?_,?_⟩,hbE⟩⟩
  ·simp[results,go_sem]
  ·exact HF.out.1.keep kE
  ·exact HF.out.2
end Go.Proofs.YtnjlkhhcfiedbaaGreatDoor
