import Derived.Test.YtnjlkhhcfiedbaaGreatDoorSl
import Derived.Test.YtnjlkhhcfiedbaaGreatDoorRjoin
import Derived.Test.YtnjlkhhcfiedbaaGreatDoorExQ
namespace Go.Proofs.YtnjlkhhcfiedbaaGreatDoor
open Go.RowKit Go.Shelf
def Ab (C:Nat) (v:Value):Prop:=∀ b,v.ownBlock=some b→C≤b
theorem grown_below {C B n:Nat} {e:TypeId} {s:Nat} {xs:List Value} {W X X3:World} {v:Value} (hb:Below C W X) (hg:X.grownBy X3 v.ownBlock) (_ho:X.ownsRow B e s v n xs) (hC:C≤X.heap.size) (hv:Ab C v):Below C W X3 :=
 hb.grown hg hC fun j e=>hv j e
theorem app_part {B C m c:Nat} {X:World} {v:Value} {us us2:List V5} {J J2:List Cel} {A:Option Addr} (h:GRs B X v us J) (h2:OwnL B X us2 J2) (hm:m=us2.length) (hc:m≤c) (hA:A=none→c=0)
  (hcell:0<m→∃ a,A=some a∧∀ j u,(flatV us2)[j]? = some u→X.cell? (a.add j)=some u) (hl:us.length+m≤1000000) (hB:B≤X.heap.size) (hC:C≤X.heap.size) (hv:Ab C v) :
  ∃ v' X3,(Builtin.append_ #[31,31] 31 #[v,.slice A m c]).run Tryz.prog X=.ok v' X3∧GRs B X3 v' (us ++ us2) (J ++ J2)∧Below C X X3∧Ab C v':=by
 rcases Nat.eq_zero_or_pos m with hz | hz
 ·obtain⟨i0,hi,hz0,hz1,hz2⟩:=info_parts infoC
  have e2:us2=[]:=List.length_eq_zero_iff.1 (by omega)
  subst e2
  have eJ:J2=[]:=List.length_eq_zero_iff.1 (by rw[← h2.1];rfl)
  subst eJ
  obtain⟨P',c',e,hle,-,-,-⟩:=h.form
  subst e hz
  refine⟨_,X,?_,by simpa using h,Below.refl _ _,hv⟩
  cases A with
  | none =>
   obtain rfl:=hA rfl
   exact run_append_nothing (P:=Tryz.prog) _ 31 31 31 46 i0 Tryz.underlying31 hi _ _ _ hle (.slice none 0 0) (Src.ofNil _ Tryz.underlying31 0)
  | some ad=>exact run_append_nothing (P:=Tryz.prog) _ 31 31 31 46 i0 Tryz.underlying31 hi _ _ _ hle (.slice (some ad) 0 c) (Src.ofSlice _ Tryz.underlying31 ad 0 c [] (by simp) (fun j u h=>by simp at h) (fun u h=>by cases h))
 ·obtain⟨a,rfl,hcl⟩:=hcell hz
  obtain⟨v',X3,hrun,hg,hgr,hbl⟩:=append_gr a m c h h2 hm hcl hl hB
  refine⟨v',X3,hrun,hg,grown_below (Below.refl _ _) hgr h.1 hC hv,fun b hb=>?_⟩
  rcases hbl with e | e
  ·exact hv b (by rw[← e,hb])
  ·rw[e] at hb
   injection hb with hb
   omega
theorem lit_new {B:Nat} {W:World} (hB:B≤W.heap.size):GRs B (W.alloc (.cells #[] 46)) (.slice (some ⟨W.heap.size,0,none⟩) 0 0) [] [] :=
 ⟨own_mono (World.ownsRow_made W #[] 0 (Nat.le_refl _) (by simp[maxLen]) (by simp)) hB,rfl,fun i u x hu=>by simp at hu⟩
theorem flatV_drop:∀ (us:List V5) (k:Nat),flatV (us.drop k)=(flatV us).drop (k*5)
 | us,0=>by simp
 | [],k+1=>by simp[flatV]
 | p :: t,k+1=>by
  rw[List.drop_succ_cons,flatV_drop t k,flatV_cons,show (k+1)*5=k*5+1+1+1+1+1 by omega]
  simp
theorem flatV_take:∀ (us:List V5) (k:Nat),flatV (us.take k)=(flatV us).take (k*5)
 | us,0=>by simp[flatV]
 | [],k+1=>by simp[flatV]
 | p :: t,k+1=>by
  rw[List.take_succ_cons,flatV_cons,flatV_take t k,flatV_cons,show (k+1)*5=k*5+1+1+1+1+1 by omega]
  simp
theorem GRs.parts {B N c i:Nat} {W:World} {P:Option Addr} {us:List V5} {L:List Cel} (h:GRs B W (.slice P N c) us L) (hi:i≤N) :
  us.length=N∧N≤c∧(0<i→∃ a,P=some a∧∀ j u,(flatV (us.take i))[j]? = some u→W.cell? (a.add j)=some u)∧(P=none→c=0)∧((if c=i then P else Option.map (fun x=>x.add (i*5)) P)=none→c - i=0) ∧
   (0<N - i→∃ a,(if c=i then P else Option.map (fun x=>x.add (i*5)) P)=some a∧∀ j u,(flatV (us.drop i))[j]? = some u→W.cell? (a.add j)=some u):=by
 obtain⟨P',c',e,hle,-,h2,h3⟩:=h.form
 injection e with e1 e2 e3
 subst e1 e3
 refine⟨e2.symm,by omega,fun hp=>?_,h3,fun hn=>?_,fun hp=>?_⟩
 ·obtain⟨g,rfl,-,-,-,hc⟩:=h2 (by omega)
  refine⟨_,rfl,fun j u hu=>?_⟩
  rw[add0]
  rw[flatV_take,List.getElem?_take] at hu
  split at hu
  ·exact hc j u hu
  ·cases hu
 ·split at hn
  ·omega
  ·have:P=none:=by cases P <;> simp at hn ⊢
   have:=h3 this
   omega
 ·obtain⟨g,rfl,-,-,-,hc⟩:=h2 (by omega)
  refine⟨_,if_neg (by omega),fun j u hu=>?_⟩
  rw[flatV_drop,List.getElem?_drop] at hu
  have:=hc _ u hu
  rw[add_of_add,add0]
  exact this
theorem GRs.room {B g c a:Nat} {X:World} {us:List V5} {J:List Cel} (h:GRs B X (.slice (some ⟨g,0,none⟩) us.length c) us J) (ha:a<us.length) (q:V5) :
  (∀ j,X.frozen? ⟨g,j,none⟩=false)∧(∃ u,X.cell? ⟨g,a*5,none⟩=some u)∧(∃ u,(X.setCell ⟨g,a*5,none⟩ q.a).cell? ⟨g,a*5+1,none⟩=some u)∧(∃ u,((X.setCell ⟨g,a*5,none⟩ q.a).setCell ⟨g,a*5+1,none⟩ q.b).cell? ⟨g,a*5+2,none⟩=some u) ∧
   (∃ u,(((X.setCell ⟨g,a*5,none⟩ q.a).setCell ⟨g,a*5+1,none⟩ q.b).setCell ⟨g,a*5+2,none⟩ q.c).cell? ⟨g,a*5+3,none⟩=some u)∧(∃ u,((((X.setCell ⟨g,a*5,none⟩ q.a).setCell ⟨g,a*5+1,none⟩ q.b).setCell ⟨g,a*5+2,none⟩ q.c).setCell ⟨g,a*5+3,none⟩ q.d).cell? ⟨g,a*5+4,none⟩=some u):=by
 have h0:=h.1
 have v1:=(h0.stored (a*5) q.a).1
 have v2:=(v1.stored (a*5+1) q.b).1
 have v3:=(v2.stored (a*5+2) q.c).1
 have v4:=(v3.stored (a*5+3) q.d).1
 refine⟨fun j=>World.ownsRow.frozenAt h0 j,?_,?_,?_,?_,?_⟩
 ·exact⟨_,(World.ownsRow.cellAt h0 (a*5) (by omega)).trans (List.getElem?_eq_getElem (by simp only[flatV_len];omega))⟩
 ·exact⟨_,(World.ownsRow.cellAt v1 (a*5+1) (by omega)).trans (List.getElem?_eq_getElem (by simp only[List.length_set,flatV_len];omega))⟩
 ·exact⟨_,(World.ownsRow.cellAt v2 (a*5+2) (by omega)).trans (List.getElem?_eq_getElem (by simp only[List.length_set,flatV_len];omega))⟩
 ·exact⟨_,(World.ownsRow.cellAt v3 (a*5+3) (by omega)).trans (List.getElem?_eq_getElem (by simp only[List.length_set,flatV_len];omega))⟩
 ·exact⟨_,(World.ownsRow.cellAt v4 (a*5+4) (by omega)).trans (List.getElem?_eq_getElem (by simp only[List.length_set,flatV_len];omega))⟩
set_option maxRecDepth 100000 in
set_option maxHeartbeats 8000000 in
theorem rPut_any (B:Nat) (P:Option Addr) (N c:Nat) (us:List V5) (L:List Cel) (k s n m:Value) (x:Cel) (me:Nat) (w:World) (hg:GRs B w (.slice P N c) us L) (hc:CR w k s n m x) (he:∀ y ∈ L,EvenC me y) (hx:EvenC me x) (hkl:∀ y ∈ L,y.key.length≤1000000) (hxk:x.key.length≤1000000) (hn:N≤1000) (hme:me≤100000) (hi:inK .i64 x.cnt) (hB:B≤w.heap.size) :
  Calls Tryz.prog 33 #[.slice P N c,.agg #[k,.int .i64 x.cnt,s,n,m]] w fun e w'=>∃ v us',e=.returned v∧GRs B w' v us' (putC L x)∧Below w.heap.size w w':=by
 obtain⟨⟨Pk,ck,rfl,hk⟩,⟨Ps,cs,rfl,hs⟩,⟨Pn,cn,rfl,hn'⟩,⟨Pm,cm,rfl,hm⟩⟩:=hc
 have C1:Hid (CR w (.slice Pk x.key.length ck) (.slice Ps x.sum.length cs) (.slice Pn x.mn.length cn) (.slice Pm x.mx.length cm) x):=Lib.hid ⟨⟨_,_,rfl,hk⟩,⟨_,_,rfl,hs⟩,⟨_,_,rfl,hn'⟩,⟨_,_,rfl,hm⟩⟩
 have HE:=Lib.hid he
 have HX:=Lib.hid hx
 have HKL:=Lib.hid hkl
 have HXK:=Lib.hid hxk
 have HI:=Lib.hid hi
 obtain⟨hrow,hNL⟩:=hg.rowC
 have HN:=Lib.hid hNL
 have HG0:=Lib.hid hg
 have HR0:=Lib.hid hrow
 clear hk hs hn' hm he hx hkl hxk hi hNL hg hrow
 generalize hlk:x.key.length=lk at C1 HXK ⊢
 generalize hls:x.sum.length=ls at C1 ⊢
 generalize hln:x.mn.length=ln at C1 ⊢
 generalize hlm:x.mx.length=lm at C1 ⊢
 obtain⟨xc,hxc⟩:∃ xc,xc=x.cnt:=⟨_,rfl⟩
 rw[← hxc]
 have HXC:=Lib.hid hxc
 have HLK:=Lib.hid hlk
 clear hlk hls hln hlm hxc
 have o1:Own 46 (w.alloc (.cells #[.slice Pk lk ck,.int .i64 xc,.slice Ps ls cs,.slice Pn ln cn,.slice Pm lm cm] 46)) w.heap.size [.slice Pk lk ck,.int .i64 xc,.slice Ps ls cs,.slice Pn ln cn,.slice Pm lm cm]:=heap_alloc_new w _
 have hb:Below w.heap.size w (w.alloc (.cells #[.slice Pk lk ck,.int .i64 xc,.slice Ps ls cs,.slice Pn ln cn,.slice Pm lm cm] 46)):=(Below.refl _ w).alloc (Nat.le_refl _) _
 have O1:=Lib.hid o1
 have Hb:=Lib.hid hb
 clear o1 hb
 go_enter Tryz.func33,Tryz.ntmps33
 go_upto_block 0 with (fail)
 generalize w.alloc (.cells #[.slice Pk lk ck,.int .i64 xc,.slice Ps ls cs,.slice Pn ln cn,.slice Pm lm cm] 46)=W1 at O1 Hb ⊢
 obtain⟨b,eb⟩:∃ b,b=w.heap.size:=⟨_,rfl⟩
 rw[← eb] at O1 ⊢
 have Eb:=Lib.hid eb
 clear eb
 have HK1:=Lib.hid (Keeps.of_below Hb.out)
 have HR1:=Lib.hid (HR0.out.keep HK1.out)
 have C2:=Lib.hid (C1.out.keep HK1.out)
 go_cut [5] (fun s5 wx=>∃ i:Nat,s5=.int .i64 i∧i≤N∧(∀ j y,j<i→L[j]? = some y→cmpL y.key x.key<0)∧(∀ y,L[i]? = some y→0≤cmpL y.key x.key)∧Below W1.heap.size W1 wx)
 case first =>
  go_wp2_with fail
  go_loopw [5] (fun s5 wr=>∃ i:Nat,s5=.int .i64 i∧i≤N∧(∀ j y,j<i→L[j]? = some y→cmpL y.key x.key<0)∧Below W1.heap.size W1 wr) (fun s5 _=>N - (intOf s5).toNat)
  case atStart=>exact⟨0,rfl,Nat.zero_le _,fun j y h=>by omega,Below.refl _ _⟩
  case round =>
   obtain⟨i,rfl,hi,hless,hb⟩:=hrel
   rename World=>wr
   have HL:=Lib.hid hless
   have Hbr:=Lib.hid hb
   clear hless hb
   by_cases hlt:i<N
   ·have d1:decide ((i:Int)<(N:Int))=true:=decide_eq_true (by omega)
    obtain⟨ad,rfl,hcs⟩:=HR1.out (by omega)
    obtain⟨y,hy⟩:∃ y,L[i]? = some y:=⟨_,List.getElem?_eq_getElem (by rw[← HN.out];exact hlt)⟩
    obtain⟨vk,vs,vn,vm,b0',-,-,-,-,hcy,-⟩:=(hcs.keep (Keeps.of_below Hbr.out)) i y hy
    have a0':wr.cell? ⟨b,0,none⟩=some (.slice Pk lk ck):=(Keeps.of_below Hbr.out) _ _ (O1.out.cell (i:=0) rfl)
    obtain⟨Py,cy,f2,ny,-⟩:=hcy.key
    obtain⟨ly,hly⟩:∃ ly,ly=y.key.length:=⟨_,rfl⟩
    have hyk:=HKL.out y (List.mem_of_getElem? hy)
    rw[← hly] at f2 ny hyk
    subst f2
    obtain⟨Pk',ck',f3,nk,-⟩:=C2.out.key
    have nk':Nums .i64 W1 Pk lk x.key:=by
     injection f3 with e1 e2 e3
     rw[e1,e2]
     exact nk
    have hlkb:lk≤1000000:=HXK.out
    have Hls:=Lib.hid (fun (W:World) (hW:Keeps wr W)=>rLess Py Pk ly cy lk ck y.key x.key W (ny.keep hW) (nk'.keep ((Keeps.of_below Hbr.out).trans hW)) (by omega) (by omega))
    have i0:(0:Int)≤(i:Int):=by omega
    have i1:(i:Int)<(N:Int):=by omega
    have kw:Keeps wr wr.drew:=(Keeps.refl wr).drewN 1
    have HY:=Lib.hid hy
    clear hcs hy hcy ny hly hyk f3 nk nk' hlkb
    by_cases hcm:cmpL y.key x.key<0
    ·have d2:decide (cmpL y.key x.key<0)=true:=decide_eq_true hcm
     go_wp2_with fail
     refine wp_region_held_drew (S:=fun W=>Keeps wr W) (by kernel_rfl) kw (fun hHeld=>?_)
     refine WTH (i:=0) (v:=?va0) ?ya0 hHeld ?ra0
     case ya0=>(intro W hW;go_simp;first | done | with_reducible rfl)
     try simp only[SL,Act.put]
     refine WTH (i:=1) (v:=?va1) ?ya1 hHeld ?ra1
     case ya1=>(intro W hW;go_simp;first | done | with_reducible rfl)
     try simp only[SL,Act.put]
     refine WTH (i:=2) (v:=?va2) ?ya2 hHeld ?ra2
     case ya2=>(intro W hW;go_simp;first | done | with_reducible rfl)
     try simp only[SL,Act.put]
     refine WTH (i:=3) (v:=?va3) ?ya3 hHeld ?ra3
     case ya3=>(intro W hW;go_simp;first | done | with_reducible rfl)
     try simp only[SL,Act.put]
     refine WTH (i:=4) (v:=?va4) ?ya4 hHeld ?ra4
     case ya4=>(intro W hW;go_simp;first | done | with_reducible rfl)
     try simp only[SL,Act.put]
     refine WTH (i:=5) (v:=?va5) ?ya5 hHeld ?ra5
     case ya5=>(intro W hW;go_simp;first | done | with_reducible rfl)
     try simp only[SL,Act.put]
     refine WTH (i:=6) (v:=?va6) ?ya6 hHeld ?ra6
     case ya6=>(intro W hW;go_simp;first | done | with_reducible rfl)
     try simp only[SL,Act.put]
     refine WTH (i:=7) (v:=?va7) ?ya7 hHeld ?ra7
     case ya7=>(intro W hW;go_simp;first | done | with_reducible rfl)
     try simp only[SL,Act.put]
     refine WTH (i:=8) (v:=?va8) ?ya8 hHeld ?ra8
     case ya8=>(intro W hW;go_simp;first | done | with_reducible rfl)
     try simp only[SL,Act.put]
     refine WTH (i:=9) (v:=?va9) ?ya9 hHeld ?ra9
     case ya9=>(intro W hW;have g0:=hW _ _ a0';have g1:=hW _ _ b0';clear hW;go_simp;first | done | with_reducible rfl)
     try simp only[SL,Act.put]
     refine WTH (i:=10) (v:=?va10) ?ya10 hHeld ?ra10
     case ya10=>(intro W hW;go_simp;first | done | with_reducible rfl)
     try simp only[SL,Act.put]
     refine WTH (i:=11) (v:=?va11) ?ya11 hHeld ?ra11
     case ya11=>(intro W hW;have g0:=hW _ _ a0';have g1:=hW _ _ b0';clear hW;go_simp;first | done | with_reducible rfl)
     try simp only[SL,Act.put]
     refine wpAnyH_ready (rs:=[12]) (by kernel_rfl) (by simp) ?_
     refine AllReadyH.cons rfl (fun K hK=>?_) (AllReadyH.nil)
     go_simp
     refine (Hls.out _ kw).mono ?_
     rintro e w7 ⟨rfl,nq,rfl⟩
     refine hK.out _ _ (kw.trans ((Keeps.refl _).drewN nq)) (fun hHeld=>?_)
     clear hK K
     try simp only[SL,Act.put]
     refine WTH (i:=13) (v:=?va13) ?ya13 hHeld ?ra13
     case ya13=>(intro W hW;go_simp;first | done | with_reducible rfl)
     try simp only[SL,Act.put]
     refine WTH (i:=14) (v:=?va14) ?ya14 hHeld ?ra14
     case ya14=>(intro W hW;go_simp;first | done | with_reducible rfl)
     try simp only[SL,Act.put]
     refine wpAnyH_done (by kernel_rfl) ?_ _
     go_wp2
     go_roundw
     case rel =>
      refine⟨i+1,by go_num,by omega,fun j z hj hz=>?_,(by first | exact below_drewN Hbr.out _ | exact below_drewN (below_drewN Hbr.out _) _)⟩
      rcases Nat.lt_or_eq_of_le (Nat.lt_succ_iff.1 hj) with h | h
      ·exact HL.out j z h hz
      ·subst h
       have h2:=HY.out
       rw[hz] at h2
       injection h2 with h2
       subst h2
       exact hcm
     case measure=>simp[intOf];omega
    ·have d2:decide (cmpL y.key x.key<0)=false:=decide_eq_false hcm
     go_wp2_with fail
     refine wp_region_held_drew (S:=fun W=>Keeps wr W) (by kernel_rfl) kw (fun hHeld=>?_)
     refine WTH (i:=0) (v:=?vb0) ?yb0 hHeld ?rb0
     case yb0=>(intro W hW;go_simp;first | done | with_reducible rfl)
     try simp only[SL,Act.put]
     refine WTH (i:=1) (v:=?vb1) ?yb1 hHeld ?rb1
     case yb1=>(intro W hW;go_simp;first | done | with_reducible rfl)
     try simp only[SL,Act.put]
     refine WTH (i:=2) (v:=?vb2) ?yb2 hHeld ?rb2
     case yb2=>(intro W hW;go_simp;first | done | with_reducible rfl)
     try simp only[SL,Act.put]
     refine WTH (i:=3) (v:=?vb3) ?yb3 hHeld ?rb3
     case yb3=>(intro W hW;go_simp;first | done | with_reducible rfl)
     try simp only[SL,Act.put]
     refine WTH (i:=4) (v:=?vb4) ?yb4 hHeld ?rb4
     case yb4=>(intro W hW;go_simp;first | done | with_reducible rfl)
     try simp only[SL,Act.put]
     refine WTH (i:=5) (v:=?vb5) ?yb5 hHeld ?rb5
     case yb5=>(intro W hW;go_simp;first | done | with_reducible rfl)
     try simp only[SL,Act.put]
     refine WTH (i:=6) (v:=?vb6) ?yb6 hHeld ?rb6
     case yb6=>(intro W hW;go_simp;first | done | with_reducible rfl)
     try simp only[SL,Act.put]
     refine WTH (i:=7) (v:=?vb7) ?yb7 hHeld ?rb7
     case yb7=>(intro W hW;go_simp;first | done | with_reducible rfl)
     try simp only[SL,Act.put]
     refine WTH (i:=8) (v:=?vb8) ?yb8 hHeld ?rb8
     case yb8=>(intro W hW;go_simp;first | done | with_reducible rfl)
     try simp only[SL,Act.put]
     refine WTH (i:=9) (v:=?vb9) ?yb9 hHeld ?rb9
     case yb9=>(intro W hW;have g0:=hW _ _ a0';have g1:=hW _ _ b0';clear hW;go_simp;first | done | with_reducible rfl)
     try simp only[SL,Act.put]
     refine WTH (i:=10) (v:=?vb10) ?yb10 hHeld ?rb10
     case yb10=>(intro W hW;go_simp;first | done | with_reducible rfl)
     try simp only[SL,Act.put]
     refine WTH (i:=11) (v:=?vb11) ?yb11 hHeld ?rb11
     case yb11=>(intro W hW;have g0:=hW _ _ a0';have g1:=hW _ _ b0';clear hW;go_simp;first | done | with_reducible rfl)
     try simp only[SL,Act.put]
     refine wpAnyH_ready (rs:=[12]) (by kernel_rfl) (by simp) ?_
     refine AllReadyH.cons rfl (fun K hK=>?_) (AllReadyH.nil)
     go_simp
     refine (Hls.out _ kw).mono ?_
     rintro e w7 ⟨rfl,nq,rfl⟩
     refine hK.out _ _ (kw.trans ((Keeps.refl _).drewN nq)) (fun hHeld=>?_)
     clear hK K
     try simp only[SL,Act.put]
     refine WTH (i:=13) (v:=?vb13) ?yb13 hHeld ?rb13
     case yb13=>(intro W hW;go_simp;first | done | with_reducible rfl)
     try simp only[SL,Act.put]
     refine WTH (i:=14) (v:=?vb14) ?yb14 hHeld ?rb14
     case yb14=>(intro W hW;go_simp;first | done | with_reducible rfl)
     try simp only[SL,Act.put]
     refine wpAnyH_done (by kernel_rfl) ?_ _
     go_wp2
     go_meet
     refine⟨i,rfl,by omega,HL.out,fun z hz=>?_,(by first | exact below_drewN Hbr.out _ | exact below_drewN (below_drewN Hbr.out _) _)⟩
     have h2:=HY.out
     rw[hz] at h2
     injection h2 with h2
     subst h2
     omega
   ·obtain rfl:i=N:=by omega
    have d1:decide ((i:Int)<(i:Int))=false:=by simp
    go_wp2_with fail
    go_quiet (fail)
    go_wp2
    go_meet
    exact⟨i,rfl,Nat.le_refl _,HL.out,fun z hz=>by
     have:=(List.getElem?_eq_some_iff.1 hz).1
     have:=HN.out
     omega,below_drewN Hbr.out _⟩
 case rest =>
  obtain⟨i,rfl,hi,hless,hge,hb⟩:=hcut
  rename World=>wx
  have HL:=Lib.hid hless
  have HGE:=Lib.hid hge
  have Hbx:=Lib.hid hb
  clear hless hge hb
  obtain⟨bS,hbS⟩:∃ bS:Bool,bS=true ↔ ∃ y,L[i]? = some y∧cmpL y.key x.key=0:=⟨decide (∃ y,L[i]? = some y∧cmpL y.key x.key=0),decide_eq_true_iff⟩
  have HBS:=Lib.hid hbS
  clear hbS
  go_upto_region 4 with (fail)
  go_cut [38] from 24 to 38 (fun s wy=>s=.bool bS∧Below W1.heap.size W1 wy)
  case first =>
   by_cases hlt:i<N
   ·have d1:decide ((i:Int)<(N:Int))=true:=decide_eq_true (by omega)
    obtain⟨ad,rfl,hcs⟩:=HR1.out (by omega)
    obtain⟨y,hy⟩:∃ y,L[i]? = some y:=⟨_,List.getElem?_eq_getElem (by rw[← HN.out];exact hlt)⟩
    obtain⟨vk,vs,vn,vm,b0',-,-,-,-,hcy,-⟩:=(hcs.keep (Keeps.of_below Hbx.out)) i y hy
    have a0':wx.cell? ⟨b,0,none⟩=some (.slice Pk lk ck):=(Keeps.of_below Hbx.out) _ _ (O1.out.cell (i:=0) rfl)
    obtain⟨Py,cy,f2,ny,-⟩:=hcy.key
    obtain⟨ly,hly⟩:∃ ly,ly=y.key.length:=⟨_,rfl⟩
    have hyk:=HKL.out y (List.mem_of_getElem? hy)
    rw[← hly] at f2 ny hyk
    subst f2
    obtain⟨Pk',ck',f3,nk,-⟩:=C2.out.key
    have nk':Nums .i64 W1 Pk lk x.key:=by
     injection f3 with e1 e2 e3
     rw[e1,e2]
     exact nk
    have hlkb:lk≤1000000:=HXK.out
    have Hls:=Lib.hid (fun (W:World) (hW:Keeps wx W)=>rLess Py Pk ly cy lk ck y.key x.key W (ny.keep hW) (nk'.keep ((Keeps.of_below Hbx.out).trans hW)) (by omega) (by omega))
    have i0:(0:Int)≤(i:Int):=by omega
    have i1:(i:Int)<(N:Int):=by omega
    have kw:Keeps wx wx.drew:=(Keeps.refl wx).drewN 1
    have d2:(cmpL y.key x.key == 0)=bS:=by
     rw[Bool.eq_iff_iff,HBS.out,beq_iff_eq]
     exact⟨fun h=>⟨y,hy,h⟩,fun ⟨z,hz,h⟩=>by rw[hy] at hz;injection hz with hz;rw[hz];exact h⟩
    have D2:=Lib.hid d2
    clear hcs hy hcy ny hly hyk f3 nk nk' hlkb d2
    refine wp_region_held_drew (S:=fun W=>Keeps wx W) (by kernel_rfl) kw (fun hHeld=>?_)
    refine WTH (i:=0) (v:=?vc0) ?yc0 hHeld ?rc0
    case yc0=>(intro W hW;go_simp;first | done | with_reducible rfl)
    try simp only[SL,Act.put]
    refine WTH (i:=1) (v:=?vc1) ?yc1 hHeld ?rc1
    case yc1=>(intro W hW;go_simp;first | done | with_reducible rfl)
    try simp only[SL,Act.put]
    refine WTH (i:=2) (v:=?vc2) ?yc2 hHeld ?rc2
    case yc2=>(intro W hW;go_simp;first | done | with_reducible rfl)
    try simp only[SL,Act.put]
    refine WTH (i:=3) (v:=?vc3) ?yc3 hHeld ?rc3
    case yc3=>(intro W hW;go_simp;first | done | with_reducible rfl)
    try simp only[SL,Act.put]
    refine WTH (i:=4) (v:=?vc4) ?yc4 hHeld ?rc4
    case yc4=>(intro W hW;go_simp;first | done | with_reducible rfl)
    try simp only[SL,Act.put]
    refine WTH (i:=5) (v:=?vc5) ?yc5 hHeld ?rc5
    case yc5=>(intro W hW;go_simp;first | done | with_reducible rfl)
    try simp only[SL,Act.put]
    refine WTH (i:=6) (v:=?vc6) ?yc6 hHeld ?rc6
    case yc6=>(intro W hW;go_simp;first | done | with_reducible rfl)
    try simp only[SL,Act.put]
    refine WTH (i:=7) (v:=?vc7) ?yc7 hHeld ?rc7
    case yc7=>(intro W hW;go_simp;first | done | with_reducible rfl)
    try simp only[SL,Act.put]
    refine WTH (i:=8) (v:=?vc8) ?yc8 hHeld ?rc8
    case yc8=>(intro W hW;go_simp;first | done | with_reducible rfl)
    try simp only[SL,Act.put]
    refine WTH (i:=9) (v:=?vc9) ?yc9 hHeld ?rc9
    case yc9=>(intro W hW;have g0:=hW _ _ a0';have g1:=hW _ _ b0';clear hW;go_simp;first | done | with_reducible rfl)
    try simp only[SL,Act.put]
    refine WTH (i:=10) (v:=?vc10) ?yc10 hHeld ?rc10
    case yc10=>(intro W hW;go_simp;first | done | with_reducible rfl)
    try simp only[SL,Act.put]
    refine WTH (i:=11) (v:=?vc11) ?yc11 hHeld ?rc11
    case yc11=>(intro W hW;have g0:=hW _ _ a0';have g1:=hW _ _ b0';clear hW;go_simp;first | done | with_reducible rfl)
    try simp only[SL,Act.put]
    refine wpAnyH_ready (rs:=[12]) (by kernel_rfl) (by simp) ?_
    refine AllReadyH.cons rfl (fun K hK=>?_) (AllReadyH.nil)
    go_simp
    refine (Hls.out _ kw).mono ?_
    rintro e w7 ⟨rfl,nq,rfl⟩
    refine hK.out _ _ (kw.trans ((Keeps.refl _).drewN nq)) (fun hHeld=>?_)
    clear hK K
    try simp only[SL,Act.put]
    refine WTH (i:=13) (v:=?vc13) ?yc13 hHeld ?rc13
    case yc13=>(intro W hW;go_simp;first | done | with_reducible rfl)
    try simp only[SL,Act.put]
    refine WTH (i:=14) (v:=?vc14) ?yc14 hHeld ?rc14
    case yc14=>(intro W hW;go_simp;first | done | with_reducible rfl)
    try simp only[SL,Act.put]
    refine wpAnyH_done (by kernel_rfl) ?_ _
    have d2:=D2.out
    go_wp2
    go_meet
    exact⟨by rw[d2],(by first | exact below_drewN Hbx.out _ | exact below_drewN (below_drewN Hbx.out _) _)⟩
   ·obtain rfl:i=N:=by omega
    have d1:decide ((i:Int)<(i:Int))=false:=by simp
    have d2:bS=false:=by
     cases hbs:bS with
     | false=>rfl
     | true =>
      obtain⟨y,hy,-⟩:=HBS.out.1 hbs
      have:=(List.getElem?_eq_some_iff.1 hy).1
      have:=HN.out
      omega
    go_quiet (fail)
    go_wp2
    go_meet
    exact⟨by rw[d2],below_drewN Hbx.out _⟩
  case rest =>
   obtain⟨rfl,hb⟩:=hcut
   rename World=>wy
   have Hby:=Lib.hid hb
   clear hb
   have HGy:=Lib.hid (HG0.out.below ((Hb.out.trans (Hby.out.mono Hb.out.size)).mono (Nat.le_refl _)))
   have hBy:B≤wy.heap.size:=Nat.le_trans hB (Nat.le_trans Hb.out.size Hby.out.size)
   have Oy:=Lib.hid (O1.out.below Hby.out O1.out.lt)
   have Cy:=Lib.hid (C2.out.keep (Keeps.of_below Hby.out))
   cases hbs:bS with
   | true =>
    obtain⟨y,hy,hcm⟩:=HBS.out.1 hbs
    have hlt:i<N:=by
     have:=(List.getElem?_eq_some_iff.1 hy).1
     have:=HN.out
     omega
    obtain⟨g,cg,X,hrun,hgB,hgx,hbX⟩:=lit_cells HGy.out (by omega) hBy
    obtain⟨ad,rfl,hcs⟩:=HR1.out (by omega)
    obtain⟨vk,vs,vn,vm,b0',b1',b2',b3',b4',hcy,hyc⟩:=(hcs.keep (Keeps.of_below Hby.out)) i y hy
    obtain⟨a0',a1',a2',a3',a4'⟩:=Oy.out.bx
    have jn:=fun (W:World) (hW:Keeps wy W)=>rJoin_any vk vs vn vm _ _ _ _ y x me W (hcy.keep hW) (Cy.out.keep hW) (HE.out y (List.mem_of_getElem? hy)) HX.out (HKL.out y (List.mem_of_getElem? hy)) hme hyc HI.out
    rw[← HXC.out] at jn
    have HJ:=Lib.hid jn
    have hul:N=us.length:=by have:=hgx.len;have:=HN.out;omega
    have HUL:=Lib.hid hul
    have Hrun:=Lib.hid hrun
    have HGX:=Lib.hid hgx
    have HbX:=Lib.hid hbX
    have HY:=Lib.hid hy
    have HCM:=Lib.hid hcm
    have i0:(0:Int)≤(i:Int):=by omega
    have i1:(i:Int)<(N:Int):=by omega
    obtain⟨yc,hyc'⟩:∃ q,q=y.cnt:=⟨_,rfl⟩
    obtain⟨jc,hjc⟩:∃ q,q=(join2 y x).cnt:=⟨_,rfl⟩
    rw[← hyc'] at b1' HJ
    rw[← hjc] at HJ
    have HJC:=Lib.hid hjc
    clear hrun hgx hbX hcs hcy hyc jn hul hy hcm hyc' hjc
    go_upto_region 6 with (at_builtin;have _t:=Hrun;refine wpList_append_eq rfl (.tmp 39) (.tmp 40) 31 rfl _ _ _ _ rfl rfl Hrun.out ?_;clear _t Hrun)
    refine wp_region_held_drew (S:=fun W=>Keeps wy W) (by kernel_rfl) ((Keeps.of_below HbX.out).trans ((Keeps.refl X).drewN 1)) (fun hHeld=>?_)
    refine WTH (i:=0) (v:=?vd0) ?yd0 hHeld ?rd0
    case yd0=>(intro W hW;go_simp;first | done | with_reducible rfl)
    try simp only[SL,Act.put]
    refine WTH (i:=1) (v:=?vd1) ?yd1 hHeld ?rd1
    case yd1=>(intro W hW;go_simp;first | done | with_reducible rfl)
    try simp only[SL,Act.put]
    refine WTH (i:=2) (v:=?vd2) ?yd2 hHeld ?rd2
    case yd2=>(intro W hW;go_simp;first | done | with_reducible rfl)
    try simp only[SL,Act.put]
    refine WTH (i:=3) (v:=?vd3) ?yd3 hHeld ?rd3
    case yd3=>(intro W hW;go_simp;first | done | with_reducible rfl)
    try simp only[SL,Act.put]
    refine WTH (i:=4) (v:=?vd4) ?yd4 hHeld ?rd4
    case yd4=>(intro W hW;go_simp;first | done | with_reducible rfl)
    try simp only[SL,Act.put]
    refine WTH (i:=5) (v:=?vd5) ?yd5 hHeld ?rd5
    case yd5=>(intro W hW;have g0:=hW _ _ b0';have g1:=hW _ _ b1';have g2:=hW _ _ b2';have g3:=hW _ _ b3';have g4:=hW _ _ b4';clear hW;go_simp;first | done | with_reducible rfl)
    try simp only[SL,Act.put]
    refine WTH (i:=6) (v:=?vd6) ?yd6 hHeld ?rd6
    case yd6=>(intro W hW;have g0:=hW _ _ a0';have g1:=hW _ _ a1';have g2:=hW _ _ a2';have g3:=hW _ _ a3';have g4:=hW _ _ a4';clear hW;go_simp;first | done | with_reducible rfl)
    try simp only[SL,Act.put]
    refine wpAnyH_ready (rs:=[7]) (by kernel_rfl) (by simp) ?_
    refine AllReadyH.cons rfl (fun K hK=>?_) (AllReadyH.nil)
    go_simp
    refine (HJ.out _ ((Keeps.of_below HbX.out).trans ((Keeps.refl X).drewN 1))).mono ?_
    rintro e V ⟨kV,sV,nV,mV,rfl,hco,hbv⟩
    obtain⟨Ak,ak,f1,-⟩:=hco.key.form
    obtain⟨As,sa,f2,-⟩:=hco.sum.form
    obtain⟨An,an,f3,-⟩:=hco.mn.form
    obtain⟨Am,am,f4,-⟩:=hco.mx.form
    generalize hj1:(join2 y x).key.length=lj1 at f1
    generalize hj2:(join2 y x).sum.length=lj2 at f2
    generalize hj3:(join2 y x).mn.length=lj3 at f3
    generalize hj4:(join2 y x).mx.length=lj4 at f4
    subst f1 f2 f3 f4
    clear hj1 hj2 hj3 hj4
    have hbV:Below X.heap.size X V:=(below_drewN (Below.refl _ X) 1).trans hbv
    have hV0:=HGX.out.below hbV
    rw[HUL.out] at hV0
    have hq:OwnC B V ⟨.slice Ak lj1 ak,.int .i64 jc,.slice As lj2 sa,.slice An lj3 an,.slice Am lj4 am⟩ (join2 y x):=⟨by rw[HJC.out],hco.mono (show B≤X.drew.heap.size from Nat.le_trans hBy HbX.out.size),join2_ok⟩
    have hil:i<us.length:=by have:=HUL.out;omega
    obtain⟨hfin1,-⟩:=hV0.setF (a:=i) hq hil
    obtain⟨hfr,⟨u0,hu0⟩,⟨u1,hu1⟩,⟨u2,hu2⟩,⟨u3,hu3⟩,⟨u4,hu4⟩⟩:=hV0.room hil ⟨.slice Ak lj1 ak,.int .i64 jc,.slice As lj2 sa,.slice An lj3 an,.slice Am lj4 am⟩
    dsimp only at hu0 hu1 hu2 hu3 hu4
    have hf0:=hfr (i*5)
    have hf1:=hfr (i*5+1)
    have hf2:=hfr (i*5+2)
    have hf3:=hfr (i*5+3)
    have hf4:=hfr (i*5+4)
    have hbF:Below wy.heap.size wy (Go.Proofs.YtnjlkhhcfiedbaaGreatDoor.setF V g i ⟨.slice Ak lj1 ak,.int .i64 jc,.slice As lj2 sa,.slice An lj3 an,.slice Am lj4 am⟩):=setF_bel (HbX.out.trans (hbV.mono HbX.out.size)) hgB
    rw[← HUL.out,← putC_same x L i y HY.out HL.out HCM.out] at hfin1
    have hfin:=And.intro hfin1 (Hb.out.trans ((Hby.out.trans (hbF.mono Hby.out.size)).mono Hb.out.size))
    have kF:=Keeps.of_below hbF
    unfold Go.Proofs.YtnjlkhhcfiedbaaGreatDoor.setF at hfin kF
    dsimp only at hfin kF
    have HFin:=Lib.hid hfin
    have HKF:=Lib.hid kF
    have HKV:=Lib.hid ((Keeps.of_below HbX.out).trans (Keeps.of_below hbV))
    clear hfin hfin1 hq hV0 hbv hbV hfr hco hbF kF
    refine hK.out _ _ (HKV.out) (fun hHeld=>?_)
    clear hK K
    try simp only[SL,Act.put]
    refine WTH (i:=8) (v:=?vd8) ?yd8 hHeld ?rd8
    case yd8=>(intro W hW;go_simp;first | done | with_reducible rfl)
    try simp only[SL,Act.put]
    refine wpAnyH_ready (rs:=[9]) (by kernel_rfl) (by simp) ?_
    refine AllReadyH.cons rfl (fun K hK=>?_) AllReadyH.nil
    go_simp
    refine hK.out _ _ HKF.out (fun hHeld=>?_)
    clear hK K
    try simp only[SL,Act.put]
    refine wpAnyH_done (by kernel_rfl) ?_ _
    go_wp2
    go_ret
    exact⟨_,us.set i ⟨.slice Ak lj1 ak,.int .i64 jc,.slice As lj2 sa,.slice An lj3 an,.slice Am lj4 am⟩,rfl,HFin.out⟩
   | false =>
    have hgt:∀ y,L[i]? = some y→0<cmpL y.key x.key:=fun y hy=>by
     have h1:=HGE.out y hy
     rcases Int.lt_or_eq_of_le h1 with h | h
     ·exact h
     ·exact absurd (HBS.out.2 ⟨y,hy,h.symm⟩) (by rw[hbs];simp)
    have HGT:=Lib.hid hgt
    obtain⟨a0',a1',a2',a3',a4'⟩:=Oy.out.bx
    have i0:(0:Int)≤(i:Int):=by omega
    have i1:(i:Int)≤(N:Int):=by omega
    have i2:(i:Int)≤(c:Int):=by
     obtain⟨P',c',e,hle,-⟩:=HGy.out.form
     injection e with _ _ e3
     have:=HN.out
     have:=HGy.out.len
     omega
    obtain⟨hul,hNc,hp1,hp2,hp3,hp4⟩:=HGy.out.parts hi
    obtain⟨A2,hA2⟩:∃ A2,A2=(if c=i then P else Option.map (fun x=>x.add (i*5)) P):=⟨_,rfl⟩
    rw[← hA2] at hp3 hp4
    have HUL:=Lib.hid hul
    have HP1:=Lib.hid hp1
    have HP2:=Lib.hid hp2
    have HP3:=Lib.hid hp3
    have HP4:=Lib.hid hp4
    have HA2:=Lib.hid hA2
    have cp:=fun (W:World) (hW:Keeps wy W)=>rCopy_any _ _ _ _ x W (Cy.out.keep hW) (by rw[HLK.out];exact HXK.out) (by have:=HX.out.1;omega) (by have:=HX.out.2.1;omega) (by have:=HX.out.2.2;omega)
    rw[← HXC.out] at cp
    have HCP:=Lib.hid cp
    clear hgt hul hp1 hp2 hp3 hp4 hA2 cp
    go_upto_region 8 with (fail)
    refine wp_region_held_drew (S:=fun W=>Keeps wy W) (by kernel_rfl) ((Keeps.refl wy).drewN 1) (fun hHeld=>?_)
    refine WTH (i:=1) (v:=?ve1) ?ye1 hHeld ?re1
    case ye1=>(intro W hW;go_simp;first | done | with_reducible rfl)
    try simp only[SL,Act.put]
    refine WTH (i:=2) (v:=?ve2) ?ye2 hHeld ?re2
    case ye2=>(intro W hW;go_simp;first | done | with_reducible rfl)
    try simp only[SL,Act.put]
    refine WTH (i:=3) (v:=?ve3) ?ye3 hHeld ?re3
    case ye3=>(intro W hW;go_simp;first | done | with_reducible rfl)
    try simp only[SL,Act.put]
    refine WTH (i:=5) (v:=?ve5) ?ye5 hHeld ?re5
    case ye5=>(intro W hW;have g0:=hW _ _ a0';have g1:=hW _ _ a1';have g2:=hW _ _ a2';have g3:=hW _ _ a3';have g4:=hW _ _ a4';clear hW;go_simp;first | done | with_reducible rfl)
    try simp only[SL,Act.put]
    refine WTH (i:=9) (v:=?ve9) ?ye9 hHeld ?re9
    case ye9=>(intro W hW;go_simp;first | done | with_reducible rfl)
    try simp only[SL,Act.put]
    refine WTH (i:=10) (v:=?ve10) ?ye10 hHeld ?re10
    case ye10=>(intro W hW;go_simp;first | done | with_reducible rfl)
    try simp only[SL,Act.put]
    refine WTH (i:=11) (v:=?ve11) ?ye11 hHeld ?re11
    case ye11=>(intro W hW;go_simp;first | done | with_reducible rfl)
    try simp only[SL,Act.put]
    rw[← HA2.out]
    have l0:GRs B (wy.drew.alloc (.cells #[] 46)) (.slice (some ⟨wy.heap.size,0,none⟩) 0 0) [] []:=lit_new (W:=wy.drew) hBy
    have q0:Below wy.heap.size wy (wy.drew.alloc (.cells #[] 46)):=(below_drewN (Below.refl _ wy) 1).alloc (Nat.le_refl _) _
    obtain⟨v1,X1,hr1,hg1,hb1,ha1⟩:=app_part (C:=wy.heap.size) (m:=i) (c:=c) (A:=P) l0 ((HGy.out.2.take i).below q0) (by rw[List.length_take,HUL.out];omega) (by omega) HP2.out (fun h=>by
     obtain⟨a,e,hc⟩:=HP1.out h
     exact⟨a,e,fun j u hu=>(Keeps.of_below q0) _ _ (hc j u hu)⟩) (by simp;omega) (Nat.le_trans hBy q0.size) q0.size (fun b e=>by have e':some wy.heap.size=some b:=e;injection e' with h;omega)
    rw[List.nil_append,List.nil_append] at hg1
    have D1:=Lib.hid (q0.trans (hb1.mono (Nat.le_refl _)))
    have K0:=Lib.hid (Keeps.of_below q0)
    have Hr1:=Lib.hid hr1
    have Hg1:=Lib.hid hg1
    have Ha1:=Lib.hid ha1
    clear l0 q0 hr1 hg1 hb1 ha1
    refine wpAnyH_ready (rs:=[0]) (by kernel_rfl) (by simp) ?_
    refine AllReadyH.cons rfl (fun K hK=>?_) AllReadyH.nil
    go_simp
    refine hK.out _ _ (K0.out) (fun hHeld=>?_)
    clear hK K
    try simp only[SL,Act.put]
    refine wpAnyH_ready (rs:=[4]) (by kernel_rfl) (by simp) ?_
    refine AllReadyH.cons rfl (fun K hK=>?_) AllReadyH.nil
    rw[if_pos (by rfl)]
    refine oper_append (.tmp 52) (.tmp 55) 31 rfl _ _ _ _ rfl rfl Hr1.out ?_
    refine hK.out _ _ (Keeps.of_below D1.out) (fun hHeld=>?_)
    clear hK K
    try simp only[SL,Act.put]
    refine wpAnyH_ready (rs:=[6]) (by kernel_rfl) (by simp) ?_
    refine AllReadyH.cons rfl (fun K hK=>?_) (AllReadyH.nil)
    go_simp
    refine (HCP.out _ (Keeps.of_below D1.out)).mono ?_
    rintro e X2 ⟨kV,sV,nV,mV,rfl,hco,hbv⟩
    obtain⟨Ak,ak,f1,-⟩:=hco.key.form
    obtain⟨As,sa,f2,-⟩:=hco.sum.form
    obtain⟨An,an,f3,-⟩:=hco.mn.form
    obtain⟨Am,am,f4,-⟩:=hco.mx.form
    generalize hj1:x.key.length=lj1 at f1
    generalize hj2:x.sum.length=lj2 at f2
    generalize hj3:x.mn.length=lj3 at f3
    generalize hj4:x.mx.length=lj4 at f4
    subst f1 f2 f3 f4
    clear hj1 hj2 hj3 hj4
    have D2:=Lib.hid (D1.out.trans (hbv.mono D1.out.size))
    have hB2:B≤X2.heap.size:=Nat.le_trans hBy D2.out.size
    have hq:OwnC B X2 ⟨.slice Ak lj1 ak,.int .i64 xc,.slice As lj2 sa,.slice An lj3 an,.slice Am lj4 am⟩ x:=⟨by rw[HXC.out],hco.mono (Nat.le_trans hBy D1.out.size),HI.out⟩
    obtain⟨v2,X4,hr2,hg2,hgr2,hbl2⟩:=append_one (Hg1.out.below hbv) hq (by rw[List.length_take,HUL.out];omega) hB2
    have q3:Below wy.heap.size wy (X2.alloc (.cells #[.slice Ak lj1 ak,.int .i64 xc,.slice As lj2 sa,.slice An lj3 an,.slice Am lj4 am] 46)):=D2.out.alloc D2.out.size _
    have D3:=Lib.hid q3
    have D4:=Lib.hid (q3.grown hgr2 q3.size fun j e=>Ha1.out j e)
    have hv2:Ab wy.heap.size v2:=fun b hb=>by
     rcases hbl2 with e | e
     ·exact Ha1.out b (by rw[← e,hb])
     ·rw[e] at hb
      injection hb with hb
      have:=D2.out.size
      omega
    obtain⟨v3,X5,hr3,hg3,hb3,ha3⟩:=app_part (C:=wy.heap.size) (m:=N - i) (c:=c - i) (A:=A2) hg2 ((HGy.out.2.drop i).below D4.out) (by rw[List.length_drop,HUL.out]) (by omega) HP3.out (fun h=>by
     obtain⟨a,e,hc⟩:=HP4.out h
     exact⟨a,e,fun j u hu=>(Keeps.of_below D4.out) _ _ (hc j u hu)⟩) (by rw[List.length_append,List.length_take,HUL.out];simp;omega) (Nat.le_trans hBy D4.out.size) D4.out.size hv2
    have D5:=Lib.hid (D4.out.trans (hb3.mono (Nat.le_refl _)))
    have hfin:=And.intro hg3 (Hb.out.trans (D5.out.mono (Nat.le_trans Hb.out.size Hby.out.size) |> fun h=>Hby.out.mono Hb.out.size |>.trans h))
    rw[List.append_assoc (L.take i),show [x] ++ L.drop i=x :: L.drop i from rfl,← putC_new x L i (by have:=HN.out;omega) HL.out HGT.out] at hfin
    have HFin:=Lib.hid hfin
    have Hr2:=Lib.hid hr2
    have Hr3:=Lib.hid hr3
    have KD2:=Lib.hid (Keeps.of_below D2.out)
    clear hfin hr2 hr3 hg2 hgr2 hbl2 q3 hv2 hg3 hb3 ha3 hbv hco hB2 hq
    refine hK.out _ _ (KD2.out) (fun hHeld=>?_)
    clear hK K
    try simp only[SL,Act.put]
    refine wpAnyH_ready (rs:=[7]) (by kernel_rfl) (by simp) ?_
    refine AllReadyH.cons rfl (fun K hK=>?_) AllReadyH.nil
    go_simp
    refine hK.out _ _ (Keeps.of_below D3.out) (fun hHeld=>?_)
    clear hK K
    try simp only[SL,Act.put]
    refine wpAnyH_ready (rs:=[8]) (by kernel_rfl) (by simp) ?_
    refine AllReadyH.cons rfl (fun K hK=>?_) AllReadyH.nil
    rw[if_pos (by rfl)]
    refine oper_append (.tmp 56) (.tmp 59) 31 rfl _ _ _ _ rfl rfl Hr2.out ?_
    refine hK.out _ _ (Keeps.of_below D4.out) (fun hHeld=>?_)
    clear hK K
    try simp only[SL,Act.put]
    refine wpAnyH_ready (rs:=[12]) (by kernel_rfl) (by simp) ?_
    refine AllReadyH.cons rfl (fun K hK=>?_) AllReadyH.nil
    rw[if_pos (by rfl)]
    refine oper_append (.tmp 60) (.tmp 63) 31 rfl _ _ _ _ rfl rfl Hr3.out ?_
    refine hK.out _ _ (Keeps.of_below D5.out) (fun hHeld=>?_)
    clear hK K
    try simp only[SL,Act.put]
    refine WTH (i:=13) (v:=?vf13) ?yf13 hHeld ?rf13
    case yf13=>(intro W hW;go_simp;first | done | with_reducible rfl)
    try simp only[SL,Act.put]
    refine wpAnyH_done (by kernel_rfl) ?_ _

    go_wp2
    go_ret
    first | exact⟨⟨_,HFin.out.1⟩,HFin.out.2⟩ | exact⟨_,rfl,⟨_,HFin.out.1⟩,HFin.out.2⟩ | skip
end Go.Proofs.YtnjlkhhcfiedbaaGreatDoor
namespace Go.Proofs.YtnjlkhhcfiedbaaGreatDoor
open Go.RowKit Go.Shelf
theorem ofC_even {set:Int} {me:Nat} {l:List Fact} (hl:∀ r ∈ l,r.key.length≤4∧r.m.length=me):∀ x ∈ l.map (ofC set),EvenC me x∧x.key.length≤1000000:=fun x hx=>by
 obtain⟨r,hr,rfl⟩:=List.mem_map.1 hx
 obtain⟨h1,h2⟩:=hl r hr
 refine⟨⟨h2,h2,h2⟩,?_⟩
 have:=pk_len r.key set r.key.length
 show (pk r.key set r.key.length).length≤1000000
 omega
theorem grp_ok {me:Nat} {L:List Cel} (h:∀ x ∈ L,EvenC me x∧x.key.length≤1000000):∀ x ∈ grpR L,EvenC me x∧x.key.length≤1000000:=fun x hx=>by
 refine⟨grp_even L [] (fun x h=>by cases h) (fun y hy=>(h y hy).1) x hx,?_⟩
 rcases grp_keys L [] x hx with ⟨z,hz,_⟩ | ⟨z,hz,e⟩
 ·cases hz
 ·rw[← e];exact (h z hz).2
theorem grp_le (L:List Cel):(grpR L).length≤L.length:=by have:=grp_lt L [];simpa [grpR] using this
set_option maxRecDepth 100000 in
set_option maxHeartbeats 4000000 in
theorem rFacts_any (D:Option Addr) (m d C me:Nat) (set:Int) (l:List Fact) (w:World) (hR:RowsX w C (.slice D m d) l) (hm:l.length=m) (hm40:m≤40) (hs:∀ r ∈ l,(∀ x ∈ r.key,inK .i64 x)∧∀ x ∈ r.m,inK .i64 x) (hl:∀ r ∈ l,r.key.length≤4∧r.m.length=me) (hme:me≤100000) (s1:0≤set) (s2:set≤15) :
  Calls Tryz.prog 20 #[.slice D m d,.int .i64 set] w fun e w'=>∃ v us,e=.returned v∧GRs w.heap.size w' v us (grpR (l.map (ofC set)))∧Below w.heap.size w w':=by
 have HR:=Lib.hid hR
 have HM:=Lib.hid hm
 have HS:=Lib.hid hs
 have HL:=Lib.hid hl
 clear hR hm hs hl
 go_enter Tryz.func20,Tryz.ntmps20
 go_wp2_with fail
 go_loopw [5,6] (fun s5 s6 wr=>∃ (i:Nat) (us:List V5),s6=.int .i64 i∧i≤m∧GRs w.heap.size wr s5 us (grpR ((l.take i).map (ofC set)))∧Below w.heap.size w wr) (fun _ s6 _=>m - (intOf s6).toNat)
 case atStart=>exact⟨0,[],rfl,Nat.zero_le _,GRs.nil _ _,Below.refl _ _⟩
 case round =>
  obtain⟨i,us,rfl,hi,hg,hb⟩:=hrel
  rename World=>wr
  by_cases hlt:i<m
  ·have d1:decide ((i:Int)<(m:Int))=true:=decide_eq_true (by omega)
   obtain⟨r,hr⟩:∃ r,l[i]? = some r:=⟨_,List.getElem?_eq_getElem (by rw[HM.out];exact hlt)⟩
   have hrm:=List.mem_of_getElem? hr
   obtain⟨l1,l2⟩:=HL.out r hrm
   obtain⟨ad,kv,mv,rfl,c0,c1,r1,r2⟩:=(HR.out.below hb (Nat.le_refl _)).at_ HS.out HM.out hr
   have hof:=rOf_any kv mv r.key r.m set wr r1 r2 l1 (by omega) s1 s2
   have htk:∀ r' ∈ l.take i,r'.key.length≤4∧r'.m.length=me:=fun r' h=>HL.out r' (List.mem_of_mem_take h)
   have hok:=grp_ok (ofC_even (set:=set) htk)
   have hxe:EvenC me (ofC set r)∧(ofC set r).key.length≤1000000:=ofC_even (set:=set) HL.out _ (List.mem_map.2 ⟨r,hrm,rfl⟩)
   have hlt2:grpR ((l.take (i+1)).map (ofC set))=putC (grpR ((l.take i).map (ofC set))) (ofC set r):=by rw[List.take_add_one,hr,List.map_append,← grpR_snoc];rfl
   have hlen:(grpR ((l.take i).map (ofC set))).length≤40:=by
    have:=grp_le ((l.take i).map (ofC set))
    rw[List.length_map,List.length_take] at this
    omega
   obtain⟨Q,qc,fq,-⟩:=hg.form
   have hul:=hg.len
   obtain⟨nq,hnq⟩:∃ nq,nq=us.length:=⟨_,rfl⟩
   rw[← hnq] at fq hul
   subst fq
   have hput:=fun (X1:World) (k s n mm:Value) (hc:CO wr.heap.size X1 k s n mm (ofC set r)) (hbx:Below wr.heap.size wr X1) =>
    rPut_any w.heap.size Q nq qc us _ k s n mm (ofC set r) me X1 (hg.below hbx) hc.cr (fun y hy=>(hok y hy).1) hxe.1 (fun y hy=>(hok y hy).2) hxe.2 (by omega) hme ⟨by show (-9223372036854775808:Int)≤1;omega,by show (1:Int)≤9223372036854775807;omega⟩ (Nat.le_trans hb.size hbx.size)
   rw[← hlt2] at hput
   have Hof:=Lib.hid hof
   have Hput:=Lib.hid hput
   have Hb:=Lib.hid hb
   have i0:(0:Int)≤(i:Int):=by omega
   have i1:(i:Int)<(m:Int):=by omega
   have c1':wr.cell? ⟨(ad.add (i*2)).block,(ad.add (i*2)).off+1,none⟩=some mv:=by
    have e:ad.add (i*2+1)=⟨(ad.add (i*2)).block,(ad.add (i*2)).off+1,none⟩:=by rw[← add_of_add,Addr.add,if_neg (by omega)]
    rw[← e];exact c1
   clear hof hput hg hb hr hrm r1 r2 c1 htk hok hxe hlt2 hlen hnq hul l1 l2
   go_wp2_with fail
   refine Hof.out.mono ?_
   rintro e X1 ⟨k,s,n,mm,rfl,hc,hbx⟩
   have hp:=Hput.out X1 k s n mm hc hbx
   have HP:=Lib.hid hp
   have Hbx:=Lib.hid (Hb.out.trans (hbx.mono Hb.out.size))
   clear hp hc hbx Hput Hof
   go_wp2_with fail
   refine HP.out.mono ?_
   rintro e X2 ⟨v,us',rfl,hg',hb'⟩
   have HG:=Lib.hid hg'
   have HB:=Lib.hid (Hbx.out.trans (hb'.mono Hbx.out.size))
   clear hg' hb' HP Hbx
   go_wp2
   go_roundw
   case rel=>exact⟨i+1,us',by go_num,by omega,HG.out,HB.out⟩
   case measure=>simp[intOf];omega
  ·obtain rfl:i=m:=by omega
   have d1:decide ((i:Int)<(i:Int))=false:=by simp
   rw[List.take_of_length_le (by rw[HM.out];exact Nat.le_refl _)] at hg
   have Hg:=Lib.hid hg
   have Hb:=Lib.hid hb
   clear hg hb
   go_wp2
   go_ret
   exact⟨_,_,rfl,Hg.out,Hb.out⟩
end Go.Proofs.YtnjlkhhcfiedbaaGreatDoor
