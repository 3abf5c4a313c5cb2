import Derived.Test.YtnjlkhhcfiedbaaGreatDoorSl
import Derived.Test.YtnjlkhhcfiedbaaGreatDoorCel1
namespace Go.Proofs.YtnjlkhhcfiedbaaGreatDoor
open Go.RowKit
def Bx (w:World) (b:Nat) (v0 v1 v2 v3 v4:Value):Prop:=w.cell? ⟨b,0,none⟩=some v0∧w.cell? ⟨b,1,none⟩=some v1∧w.cell? ⟨b,2,none⟩=some v2∧w.cell? ⟨b,3,none⟩=some v3∧w.cell? ⟨b,4,none⟩=some v4
theorem Bx.keep {w w':World} {b:Nat} {v0 v1 v2 v3 v4:Value} (h:Bx w b v0 v1 v2 v3 v4) (hk:Keeps w w'):Bx w' b v0 v1 v2 v3 v4:=⟨hk _ _ h.1,hk _ _ h.2.1,hk _ _ h.2.2.1,hk _ _ h.2.2.2.1,hk _ _ h.2.2.2.2⟩
theorem Own.bx {T:TypeId} {w:World} {b:Nat} {v0 v1 v2 v3 v4:Value} (h:Own T w b [v0,v1,v2,v3,v4]):Bx w b v0 v1 v2 v3 v4:=⟨h.cell (i:=0) rfl,h.cell (i:=1) rfl,h.cell (i:=2) rfl,h.cell (i:=3) rfl,h.cell (i:=4) rfl⟩
def put5 (w:World) (g:Nat) (v0 v1 v2 v3 v4:Value):World:=((((w.setCell ⟨g,0,none⟩ v0).setCell ⟨g,1,none⟩ v1).setCell ⟨g,2,none⟩ v2).setCell ⟨g,3,none⟩ v3).setCell ⟨g,4,none⟩ v4
section
variable {w:World} {g:Nat} {T:TypeId} {v0 v1 v2 v3 v4 u0 u1 u2 u3 u4:Value}
theorem put5_own (h:Own T w g [u0,u1,u2,u3,u4]):Own T (put5 w g v0 v1 v2 v3 v4) g [v0,v1,v2,v3,v4]:=((((h.set_ 0 v0).set_ 1 v1).set_ 2 v2).set_ 3 v3).set_ 4 v4
theorem put5_only:Only g w (put5 w g v0 v1 v2 v3 v4):=(((((Only.refl g w).setCell 0 v0).setCell 1 v1).setCell 2 v2).setCell 3 v3).setCell 4 v4
theorem Bx.only {w':World} {b:Nat} (h:Bx w b v0 v1 v2 v3 v4) (ho:Only g w w') (hne:b ≠ g) (hb:b<w.heap.size):Bx w' b v0 v1 v2 v3 v4:=by
 have e:∀ j,w'.cell? ⟨b,j,none⟩=w.cell? ⟨b,j,none⟩:=fun j=>World.cell?_of_block (ho.block b hb hne)
 exact⟨(e 0).trans h.1,(e 1).trans h.2.1,(e 2).trans h.2.2.1,(e 3).trans h.2.2.2.1,(e 4).trans h.2.2.2.2⟩
theorem OI.only {B:Nat} {w':World} {v:Value} {xs:List Int} (h:OI B w v xs) (ho:Only g w w') (hg:Own T w g [u0,u1,u2,u3,u4]) (hT:T ≠ 3):OI B w' v xs:=by
 refine⟨own_stay h.1 fun k hk=>ho.block k (h.1.lt k hk).2 fun e=>?_,h.2⟩
 subst e
 rcases h.1.2 with ⟨rfl,_⟩ | ⟨g',cap,cur,rfl,_,hh,_⟩
 ·simp[Value.ownBlock] at hk
 ·simp only[Value.ownBlock,Option.some.injEq] at hk
  subst hk
  unfold Own at hg
  rw[hh] at hg
  injection hg with hg
  injection hg with _ h2
  exact hT h2.symm
theorem CO.only {B:Nat} {w':World} {k s n m:Value} {x:Cel} (h:CO B w k s n m x) (ho:Only g w w') (hg:Own T w g [u0,u1,u2,u3,u4]) (hT:T ≠ 3):CO B w' k s n m x:=⟨h.key.only ho hg hT,h.sum.only ho hg hT,h.mn.only ho hg hT,h.mx.only ho hg hT⟩
end
set_option maxRecDepth 100000 in
set_option maxHeartbeats 4000000 in
theorem cloned_any (k s n m:Value) (x:Cel) (w:World) (hx:CR w k s n m x) (h1:x.key.length≤1000000) (h2:x.sum.length≤1000000) (h3:x.mn.length≤1000000) (h4:x.mx.length≤1000000) :
  Calls Tryz.prog 57 #[.agg #[k,.int .i64 x.cnt,s,n,m]] w fun e w'=>∃ k' s' n' m',e=.returned (.agg #[k',.int .i64 x.cnt,s',n',m'])∧CO w.heap.size w' k' s' n' m' x∧Ap4 k' s' n' m'∧Below w.heap.size w w':=by
 obtain⟨⟨Pk,ck,rfl,hk⟩,⟨Ps,cs,rfl,hs⟩,⟨Pn,cn,rfl,hn⟩,⟨Pm,cm,rfl,hm⟩⟩:=hx
 have Rk:Hid (RI w (.slice Pk x.key.length ck) x.key):=Lib.hid ⟨_,_,rfl,hk⟩
 have Rs:Hid (RI w (.slice Ps x.sum.length cs) x.sum):=Lib.hid ⟨_,_,rfl,hs⟩
 have Rn:Hid (RI w (.slice Pn x.mn.length cn) x.mn):=Lib.hid ⟨_,_,rfl,hn⟩
 have Rm:Hid (RI w (.slice Pm x.mx.length cm) x.mx):=Lib.hid ⟨_,_,rfl,hm⟩
 clear hk hs hn hm
 have L1:=Lib.hid h1
 have L2:=Lib.hid h2
 have L3:=Lib.hid h3
 have L4:=Lib.hid h4
 clear h1 h2 h3 h4
 generalize hlk:x.key.length=lk at Rk ⊢
 generalize hls:x.sum.length=ls at Rs ⊢
 generalize hln:x.mn.length=ln at Rn ⊢
 generalize hlm:x.mx.length=lm at Rm ⊢
 generalize hcnt:x.cnt=cnt at *
 clear hlk hls hln hlm hcnt
 have o1:Own 46 ((w.alloc (.cells #[.slice Pk lk ck,.int .i64 cnt,.slice Ps ls cs,.slice Pn ln cn,.slice Pm lm cm] 46)).alloc (.cells #[.slice none 0 0,.int .i64 0,.slice none 0 0,.slice none 0 0,.slice none 0 0] 46)) w.heap.size [.slice Pk lk ck,.int .i64 cnt,.slice Ps ls cs,.slice Pn ln cn,.slice Pm lm cm] :=
  (show Own 46 (w.alloc (.cells #[.slice Pk lk ck,.int .i64 cnt,.slice Ps ls cs,.slice Pn ln cn,.slice Pm lm cm] 46)) w.heap.size [.slice Pk lk ck,.int .i64 cnt,.slice Ps ls cs,.slice Pn ln cn,.slice Pm lm cm] from heap_alloc_new w _).below ((Below.refl _ _).alloc (Nat.le_refl _) _) (by simp)
 have o2:Own 46 ((w.alloc (.cells #[.slice Pk lk ck,.int .i64 cnt,.slice Ps ls cs,.slice Pn ln cn,.slice Pm lm cm] 46)).alloc (.cells #[.slice none 0 0,.int .i64 0,.slice none 0 0,.slice none 0 0,.slice none 0 0] 46)) (w.heap.size+1) [.slice none 0 0,.int .i64 0,.slice none 0 0,.slice none 0 0,.slice none 0 0]:=by
  have:=heap_alloc_new (w.alloc (.cells #[.slice Pk lk ck,.int .i64 cnt,.slice Ps ls cs,.slice Pn ln cn,.slice Pm lm cm] 46)) (.cells #[.slice none 0 0,.int .i64 0,.slice none 0 0,.slice none 0 0,.slice none 0 0] 46)
  rw[show (w.alloc (.cells #[.slice Pk lk ck,.int .i64 cnt,.slice Ps ls cs,.slice Pn ln cn,.slice Pm lm cm] 46)).heap.size=w.heap.size+1 from by simp] at this
  exact this
 have hb:Below w.heap.size w ((w.alloc (.cells #[.slice Pk lk ck,.int .i64 cnt,.slice Ps ls cs,.slice Pn ln cn,.slice Pm lm cm] 46)).alloc (.cells #[.slice none 0 0,.int .i64 0,.slice none 0 0,.slice none 0 0,.slice none 0 0] 46)):=((Below.refl _ w).alloc (Nat.le_refl _) _).alloc (by simp) _
 have hz:((w.alloc (.cells #[.slice Pk lk ck,.int .i64 cnt,.slice Ps ls cs,.slice Pn ln cn,.slice Pm lm cm] 46)).alloc (.cells #[.slice none 0 0,.int .i64 0,.slice none 0 0,.slice none 0 0,.slice none 0 0] 46)).heap.size=w.heap.size+2:=by simp
 have O1:=Lib.hid o1
 have O2:=Lib.hid o2
 have Hb:=Lib.hid hb
 have Hz:=Lib.hid hz
 clear o1 o2 hb hz
 go_enter Tryz.func57,Tryz.ntmps57
 go_upto_region 1 with (fail)
 generalize (w.alloc (.cells #[.slice Pk lk ck,.int .i64 cnt,.slice Ps ls cs,.slice Pn ln cn,.slice Pm lm cm] 46)).alloc (.cells #[.slice none 0 0,.int .i64 0,.slice none 0 0,.slice none 0 0,.slice none 0 0] 46)=W1 at O1 O2 Hb Hz ⊢
 obtain⟨b,eb⟩:∃ b,b=w.heap.size:=⟨_,rfl⟩
 rw[← eb] at O1 O2 ⊢
 have Eb:=Lib.hid eb
 clear eb
 have bx0:=O1.out.bx
 refine wp_region_held_drew (S:=fun W=>Bx W b (.slice Pk lk ck) (.int .i64 cnt) (.slice Ps ls cs) (.slice Pn ln cn) (.slice Pm lm cm)) (by kernel_rfl) (show Bx W1.drew b _ _ _ _ _ from bx0) (fun hHeld=>?_)
 refine WTH (i:=0) (v:=?va0) ?ya0 hHeld ?ra0
 case ya0=>(intro W hW;obtain⟨h0,h1,h2,h3,h4⟩:=hW;go_simp;first | done | with_reducible rfl)
 try simp only[SL,Act.put]
 refine WTH (i:=1) (v:=?va1) ?ya1 hHeld ?ra1
 case ya1=>(intro W hW;obtain⟨h0,h1,h2,h3,h4⟩:=hW;go_simp;first | done | with_reducible rfl)
 try simp only[SL,Act.put]
 refine WTH (i:=3) (v:=?va3) ?ya3 hHeld ?ra3
 case ya3=>(intro W hW;obtain⟨h0,h1,h2,h3,h4⟩:=hW;go_simp;first | done | with_reducible rfl)
 try simp only[SL,Act.put]
 refine WTH (i:=4) (v:=?va4) ?ya4 hHeld ?ra4
 case ya4=>(intro W hW;obtain⟨h0,h1,h2,h3,h4⟩:=hW;go_simp;first | done | with_reducible rfl)
 try simp only[SL,Act.put]
 refine WTH (i:=5) (v:=?va5) ?ya5 hHeld ?ra5
 case ya5=>(intro W hW;obtain⟨h0,h1,h2,h3,h4⟩:=hW;go_simp;first | done | with_reducible rfl)
 try simp only[SL,Act.put]
 refine WTH (i:=6) (v:=?va6) ?ya6 hHeld ?ra6
 case ya6=>(intro W hW;obtain⟨h0,h1,h2,h3,h4⟩:=hW;go_simp;first | done | with_reducible rfl)
 try simp only[SL,Act.put]
 refine WTH (i:=8) (v:=?va8) ?ya8 hHeld ?ra8
 case ya8=>(intro W hW;obtain⟨h0,h1,h2,h3,h4⟩:=hW;go_simp;first | done | with_reducible rfl)
 try simp only[SL,Act.put]
 refine WTH (i:=9) (v:=?va9) ?ya9 hHeld ?ra9
 case ya9=>(intro W hW;obtain⟨h0,h1,h2,h3,h4⟩:=hW;go_simp;first | done | with_reducible rfl)
 try simp only[SL,Act.put]
 refine WTH (i:=11) (v:=?va11) ?ya11 hHeld ?ra11
 case ya11=>(intro W hW;obtain⟨h0,h1,h2,h3,h4⟩:=hW;go_simp;first | done | with_reducible rfl)
 try simp only[SL,Act.put]
 refine WTH (i:=12) (v:=?va12) ?ya12 hHeld ?ra12
 case ya12=>(intro W hW;obtain⟨h0,h1,h2,h3,h4⟩:=hW;go_simp;first | done | with_reducible rfl)
 try simp only[SL,Act.put]
 refine wpAnyH_ready (rs:=[2]) (by kernel_rfl) (by simp) ?_
 refine AllReadyH.cons rfl (fun K hK=>?_) (AllReadyH.nil)
 go_simp
 refine (clone_any _ x.key W1.drew (Rk.out.keep (show Keeps w W1.drew from (Keeps.of_below Hb.out).drewN 1)) L1.out).mono ?_
 rintro e V1 ⟨v1,rfl,ho1,hb1⟩
 have B1:=Lib.hid ((below_drewN Hb.out 1).trans (hb1.mono Hb.out.size))
 have D1:=Lib.hid (show Below W1.heap.size W1 V1 from (below_drewN (Below.refl _ _) 1).trans hb1)
 have Q1:=Lib.hid (ho1.mono (show w.heap.size≤W1.drew.heap.size from Hb.out.size))
 clear ho1 hb1
 go_wp2_with fail
 refine hK.out _ _ (bx0.keep (Keeps.of_below D1.out)) (fun hHeld=>?_)
 clear hK K
 try simp only[SL,Act.put]
 refine wpAnyH_ready (rs:=[7]) (by kernel_rfl) (by simp) ?_
 refine AllReadyH.cons rfl (fun K hK=>?_) (AllReadyH.nil)
 go_simp
 refine (clone_any _ x.sum V1 (Rs.out.keep (Keeps.of_below B1.out)) L2.out).mono ?_
 rintro e V2 ⟨v2,rfl,ho1,hb1⟩
 have B2:=Lib.hid (B1.out.trans (hb1.mono B1.out.size))
 have D2:=Lib.hid (D1.out.trans (hb1.mono D1.out.size))
 have Q1_:=Lib.hid (Q1.out.below hb1)
 have A12:Ap v1 v2:=Q1.out.ap ho1 (Nat.le_refl _)
 have Q2:=Lib.hid (ho1.mono (show w.heap.size≤V1.heap.size from B1.out.size))
 clear ho1 hb1
 go_wp2_with fail
 refine hK.out _ _ (bx0.keep (Keeps.of_below D2.out)) (fun hHeld=>?_)
 clear hK K
 try simp only[SL,Act.put]
 refine wpAnyH_ready (rs:=[10]) (by kernel_rfl) (by simp) ?_
 refine AllReadyH.cons rfl (fun K hK=>?_) (AllReadyH.nil)
 go_simp
 refine (clone_any _ x.mn V2 (Rn.out.keep (Keeps.of_below B2.out)) L3.out).mono ?_
 rintro e V3 ⟨v3,rfl,ho1,hb1⟩
 have B3:=Lib.hid (B2.out.trans (hb1.mono B2.out.size))
 have D3:=Lib.hid (D2.out.trans (hb1.mono D2.out.size))
 have Q1__:=Lib.hid (Q1_.out.below hb1)
 have Q2_:=Lib.hid (Q2.out.below hb1)
 have A13:Ap v1 v3:=Q1_.out.ap ho1 (Nat.le_refl _)
 have A23:Ap v2 v3:=Q2.out.ap ho1 (Nat.le_refl _)
 have Q3:=Lib.hid (ho1.mono (show w.heap.size≤V2.heap.size from B2.out.size))
 clear ho1 hb1
 go_wp2_with fail
 refine hK.out _ _ (bx0.keep (Keeps.of_below D3.out)) (fun hHeld=>?_)
 clear hK K
 try simp only[SL,Act.put]
 refine wpAnyH_ready (rs:=[13]) (by kernel_rfl) (by simp) ?_
 refine AllReadyH.cons rfl (fun K hK=>?_) (AllReadyH.nil)
 go_simp
 refine (clone_any _ x.mx V3 (Rm.out.keep (Keeps.of_below B3.out)) L4.out).mono ?_
 rintro e V4 ⟨v4,rfl,ho1,hb1⟩
 have B4:=Lib.hid (B3.out.trans (hb1.mono B3.out.size))
 have D4:=Lib.hid (D3.out.trans (hb1.mono D3.out.size))
 have Q1___:=Lib.hid (Q1__.out.below hb1)
 have Q2__:=Lib.hid (Q2_.out.below hb1)
 have Q3_:=Lib.hid (Q3.out.below hb1)
 have A14:Ap v1 v4:=Q1__.out.ap ho1 (Nat.le_refl _)
 have A24:Ap v2 v4:=Q2_.out.ap ho1 (Nat.le_refl _)
 have A34:Ap v3 v4:=Q3.out.ap ho1 (Nat.le_refl _)
 have Q4:=Lib.hid (ho1.mono (show w.heap.size≤V3.heap.size from B3.out.size))
 clear ho1 hb1
 go_wp2_with fail
 refine hK.out _ _ (bx0.keep (Keeps.of_below D4.out)) (fun hHeld=>?_)
 clear hK K
 try simp only[SL,Act.put]
 obtain⟨P1,c1,e1,-⟩:=Q1___.out.form
 obtain⟨P2,c2,e2,-⟩:=Q2__.out.form
 obtain⟨P3,c3,e3,-⟩:=Q3_.out.form
 obtain⟨P4,c4,e4,-⟩:=Q4.out.form
 subst e1 e2 e3 e4
 have HAp:=Lib.hid (show Ap4 _ _ _ _ from ⟨A12,A13,A14,A23,A24,A34⟩)
 clear A12 A13 A14 A23 A24 A34
 have o4:=O2.out.below D4.out (by have:=Hz.out;have:=Eb.out;omega)
 have z0:=o4.cell (i:=0) rfl
 have z1:=o4.cell (i:=1) rfl
 have z2:=o4.cell (i:=2) rfl
 have z3:=o4.cell (i:=3) rfl
 have z4:=o4.cell (i:=4) rfl
 have zf:=o4.frozen
 have O4:=Lib.hid o4
 clear o4
 obtain⟨W5,hW5⟩:∃ W5,W5=put5 V4 (b+1) (.slice P1 x.key.length c1) (.int .i64 cnt) (.slice P2 x.sum.length c2) (.slice P3 x.mn.length c3) (.slice P4 x.mx.length c4):=⟨_,rfl⟩
 have o5:Own 46 W5 (b+1) [.slice P1 x.key.length c1,.int .i64 cnt,.slice P2 x.sum.length c2,.slice P3 x.mn.length c3,.slice P4 x.mx.length c4]:=hW5 ▸ put5_own O4.out
 have on5:Only (b+1) V4 W5:=hW5 ▸ put5_only
 have hfin:CO w.heap.size W5 (.slice P1 x.key.length c1) (.slice P2 x.sum.length c2) (.slice P3 x.mn.length c3) (.slice P4 x.mx.length c4) x:=(show CO w.heap.size V4 _ _ _ _ x from ⟨Q1___.out,Q2__.out,Q3_.out,Q4.out⟩).only on5 O4.out (by decide)
 have hbf:Below w.heap.size w W5:=B4.out.trans (on5.below (by have:=Eb.out;omega) B4.out.size)
 have hbx5:Bx W5 b (.slice Pk lk ck) (.int .i64 cnt) (.slice Ps ls cs) (.slice Pn ln cn) (.slice Pm lm cm):=(bx0.keep (Keeps.of_below D4.out)).only on5 (by omega) (by have:=D4.out.size;have:=Hz.out;have:=Eb.out;omega)
 have HW5:=Lib.hid hW5
 have Hfin:=Lib.hid hfin
 have Hbf:=Lib.hid hbf
 have Hbx5:=Lib.hid hbx5
 have r0:=o5.cell (i:=0) rfl
 have r1:=o5.cell (i:=1) rfl
 have r2:=o5.cell (i:=2) rfl
 have r3:=o5.cell (i:=3) rfl
 have r4:=o5.cell (i:=4) rfl
 clear hW5 o5 on5 hfin hbf hbx5
 refine WTH (i:=14) (v:=?va14) ?ya14 hHeld ?ra14
 case ya14=>(intro W hW;go_simp;first | done | with_reducible rfl)
 try simp only[SL,Act.put]
 refine wpAnyH_ready (rs:=[15]) (by kernel_rfl) (by simp) ?_
 refine AllReadyH.cons rfl (fun K hK=>?_) (AllReadyH.nil)
 go_simp
 have e5:=HW5.out
 unfold put5 at e5
 rw[← e5]
 clear e5
 refine hK.out _ _ (Hbx5.out) (fun hHeld=>?_)
 clear hK K
 try simp only[SL,Act.put]
 refine wpAnyH_done (by kernel_rfl) ?_ _
 go_wp2
 exact bodyPost_ret (v:=.agg #[.slice P1 x.key.length c1,.int .i64 cnt,.slice P2 x.sum.length c2,.slice P3 x.mn.length c3,.slice P4 x.mx.length c4]) (by simp[results,Tryz.results57,go_sem,r0,r1,r2,r3,r4]) rfl ⟨_,_,_,_,rfl,Hfin.out,HAp.out,Hbf.out⟩
end Go.Proofs.YtnjlkhhcfiedbaaGreatDoor
namespace Go.Proofs.YtnjlkhhcfiedbaaGreatDoor
open Go.RowKit
set_option maxRecDepth 100000 in
set_option maxHeartbeats 4000000 in
theorem even_any (ad:Addr) (c:Nat) (l:List Cel) (me:Nat) (w:World) (hl:CellsR w ad l) (he:∀ x ∈ l,EvenC me x) (_hm:me≤1000000) (hn:l.length≤1000000) :
  Calls Tryz.prog 89 #[.slice (some ad) l.length c] w fun e w'=>e=.returned (.bool true)∧Below w.heap.size w w':=by
 obtain⟨N,hN⟩:∃ N,N=l.length:=⟨_,rfl⟩
 rw[← hN] at hn ⊢
 have HN:=Lib.hid hN
 have Hl:=Lib.hid hl
 have He:=Lib.hid he
 clear hN hl he
 go_enter Tryz.func89,Tryz.ntmps89
 go_wp2_with fail
 go_loopw [8] (fun i wr=>∃ k:Nat,k≤N∧i=.int .i64 k∧Below w.heap.size w wr) (fun i _=>N - (intOf i).toNat)
 case atStart=>exact⟨0,by omega,rfl,Below.refl _ _⟩
 case round =>
  obtain⟨k,hk,rfl,hb⟩:=hrel
  rename World=>wr
  have Hb:=Lib.hid hb
  clear hb
  by_cases hlt:k<N
  ·obtain⟨x,hx⟩:∃ x,l[k]? = some x:=⟨_,List.getElem?_eq_getElem (by have:=HN.out;omega)⟩
   obtain⟨y,hy⟩:∃ y,l[0]? = some y:=⟨_,List.getElem?_eq_getElem (by have:=HN.out;omega)⟩
   obtain⟨ex1,ex2,ex3⟩:=He.out x (List.mem_of_getElem? hx)
   obtain⟨ey1,_,_⟩:=He.out y (List.mem_of_getElem? hy)
   obtain⟨vk,vs,vn,vm,a0,a1,a2,a3,a4,⟨⟨Pk,ck,rfl,_⟩,⟨Ps,cs,rfl,_⟩,⟨Pn,cn,rfl,_⟩,⟨Pm,cm,rfl,_⟩⟩,_⟩:=(Hl.out k x hx).keep (Keeps.of_below Hb.out)
   have hy0:=(Hl.out 0 y hy).keep (Keeps.of_below Hb.out)
   rw[show ad.add (0*5)=ad from by simp[Addr.add]] at hy0
   obtain⟨uk,us,un,um,c0,c1,c2,c3,c4,⟨⟨Qk,dk,rfl,_⟩,⟨Qs,ds,rfl,_⟩,⟨Qn,dn,rfl,_⟩,⟨Qm,dm,rfl,_⟩⟩,_⟩:=hy0
   rw[ex1] at a2
   rw[ex2] at a3
   rw[ex3] at a4
   rw[ey1] at c2
   have hbx:=Below.alloc Hb.out Hb.out.size (.cells #[.slice Pk x.key.length ck,.int .i64 x.cnt,.slice Ps me cs,.slice Pn me cn,.slice Pm me cm] 46)
   have c2':(wr.alloc (.cells #[.slice Pk x.key.length ck,.int .i64 x.cnt,.slice Ps me cs,.slice Pn me cn,.slice Pm me cm] 46)).cell? ⟨ad.block,ad.off+2,none⟩=some (.slice Qs me ds):=((Keeps.refl wr).alloc _) _ _ c2
   have Hbx:=Lib.hid hbx
   have i0:(0:Int)≤(k:Int):=by omega
   have i1:(k:Int)<(N:Int):=by omega
   have d1:decide (k<N)=true:=by simp;omega
   have q0:0<N:=by omega
   have q1:(0:Int)<(N:Int):=by omega
   generalize x.key.length=lk at *
   generalize x.cnt=cnt at *
   clear hx hy ex1 ex2 ex3 ey1 hbx c0 c1 c3 c4
   go_wp2
   go_roundw
   case rel=>exact⟨k+1,by omega,by go_num,Hbx.out⟩
   case measure=>simp[intOf];omega
  ·obtain rfl:k=N:=by omega
   have d1:decide (k<k)=false:=by simp
   go_wp2
   go_ret
   exact⟨rfl,Hb.out⟩
end Go.Proofs.YtnjlkhhcfiedbaaGreatDoor
namespace Go.Proofs.YtnjlkhhcfiedbaaGreatDoor
open Go.RowKit
def part (f:Int→Int→Int) (a b:List Int) (m:Nat):List Int:=(List.zipWith f a b).take m ++ a.drop m
section
variable {f:Int→Int→Int} {a b:List Int} {m:Nat}
theorem part_zero:part f a b 0=a:=by simp[part]
theorem part_all (h:a.length=b.length):part f a b a.length=List.zipWith f a b:=by
 unfold part
 rw[List.take_of_length_le (by rw[List.length_zipWith];omega),List.drop_length,List.append_nil]
theorem part_take_len (h:a.length=b.length) (hm:m≤a.length):((List.zipWith f a b).take m).length=m:=by
 rw[List.length_take,List.length_zipWith]
 omega
theorem part_at (h:a.length=b.length) {x:Int} (hx:a[m]? = some x):(part f a b m)[m]? = some x:=by
 have hm:m<a.length:=(List.getElem?_eq_some_iff.1 hx).1
 unfold part
 rw[List.getElem?_append_right (by rw[part_take_len h (by omega)];omega),part_take_len h (by omega),Nat.sub_self,List.getElem?_drop]
 exact hx
theorem part_set (h:a.length=b.length) {x y:Int} (hx:a[m]? = some x) (hy:b[m]? = some y):(part f a b m).set m (f x y)=part f a b (m+1):=by
 have hm:m<a.length:=(List.getElem?_eq_some_iff.1 hx).1
 have hz:(List.zipWith f a b)[m]? = some (f x y):=by rw[List.getElem?_zipWith,hx,hy]
 obtain⟨h1,e1⟩:=List.getElem?_eq_some_iff.1 hz
 have hl:=part_take_len (f:=f) h (Nat.le_of_lt hm)
 unfold part
 rw[List.set_append_right _ _ (by rw[hl];exact Nat.le_refl _),hl,Nat.sub_self,List.drop_eq_getElem_cons hm,List.set_cons_zero,List.take_succ_eq_append_getElem h1,e1,List.append_assoc]
 rfl
end
section
variable {T:TypeId} {B g b c n i:Nat} {w W:World} {us:List Value} {xs:List Int} {u:Value}
theorem Own.ne_int (h:Own T W b us) (ho:OI B W (.slice (some ⟨g,0,none⟩) n c) xs) (hT:T ≠ 3):b ≠ g:=by
 rintro rfl
 rcases ho.1.2 with ⟨e,_⟩ | ⟨g',cap,cur,e,_,hh,_⟩
 ·cases e
 ·injection e with e1 _ _
  injection e1 with e1
  injection e1 with e1
  subst e1
  unfold Own at h
  rw[hh] at h
  injection h with h
  injection h with _ h2
  exact hT h2.symm
theorem Own.far_int (h:Own T W b us) (ho:OI B W (.slice (some ⟨g,0,none⟩) n c) xs) (hT:T ≠ 3):Own T (W.setCell ⟨g,i,none⟩ u) b us :=
 h.only (only_setCell g W i u) (h.ne_int ho hT)
theorem OI.ge (ho:OI B W (.slice (some ⟨g,0,none⟩) n c) xs):B≤g∧g<W.heap.size:=ho.1.lt g rfl
end
structure Acc (w W:World) (h b:Nat) (z:List Value) (k s n m:Value) (x:Cel):Prop where
 res:Own 46 W h z
 box:Own 46 W b [k,.int .i64 x.cnt,s,n,m]
 own:CO w.heap.size W k s n m x
 ap:Ap4 k s n m
 bel:Below w.heap.size w W
 hb:w.heap.size≤h∧w.heap.size≤b∧h ≠ b
section
variable {w W W':World} {h b g c l i:Nat} {z:List Value} {k s n m:Value} {x:Cel} {y:Int}
theorem Acc.below (a:Acc w W h b z k s n m x) (hk:Below W.heap.size W W'):Acc w W' h b z k s n m x :=
 ⟨a.res.below hk a.res.lt,a.box.below hk a.box.lt,a.own.below hk,a.ap,a.bel.trans (hk.mono a.bel.size),a.hb⟩
theorem Acc.cnt (a:Acc w W h b z k s n m x) (y:Int):Acc w (W.setCell ⟨b,1,none⟩ (.int .i64 y)) h b z k s n m { x with cnt:=y } :=
 ⟨a.res.only (only_setCell b W 1 _) a.hb.2.2,a.box.set_ 1 _,(let o:=a.own.only (only_setCell b W 1 (.int .i64 y)) a.box (by decide);⟨o.key,o.sum,o.mn,o.mx⟩),a.ap,a.bel.trans ((only_setCell b W 1 _).below a.hb.2.1 a.bel.size),a.hb⟩
theorem Acc.sum (a:Acc w W h b z k (.slice (some ⟨g,0,none⟩) l c) n m x) (i:Nat) (hy:inK .i64 y):Acc w (W.setCell ⟨g,i,none⟩ (.int .i64 y)) h b z k (.slice (some ⟨g,0,none⟩) l c) n m { x with sum:=x.sum.set i y } :=
 ⟨a.res.far_int a.own.sum (by decide),a.box.far_int a.own.sum (by decide),⟨a.own.key.other _ fun e=>a.ap.ks g e rfl,a.own.sum.put y hy,a.own.mn.other _ fun e=>a.ap.sn g rfl e,a.own.mx.other _ fun e=>a.ap.sm g rfl e⟩,a.ap,
  a.bel.trans ((only_setCell g W i _).below a.own.sum.ge.1 a.bel.size),a.hb⟩
theorem Acc.mn (a:Acc w W h b z k s (.slice (some ⟨g,0,none⟩) l c) m x) (i:Nat) (hy:inK .i64 y):Acc w (W.setCell ⟨g,i,none⟩ (.int .i64 y)) h b z k s (.slice (some ⟨g,0,none⟩) l c) m { x with mn:=x.mn.set i y } :=
 ⟨a.res.far_int a.own.mn (by decide),a.box.far_int a.own.mn (by decide),⟨a.own.key.other _ fun e=>a.ap.kn g e rfl,a.own.sum.other _ fun e=>a.ap.sn g e rfl,a.own.mn.put y hy,a.own.mx.other _ fun e=>a.ap.nm g rfl e⟩,a.ap,
  a.bel.trans ((only_setCell g W i _).below a.own.mn.ge.1 a.bel.size),a.hb⟩
theorem Acc.mx (a:Acc w W h b z k s n (.slice (some ⟨g,0,none⟩) l c) x) (i:Nat) (hy:inK .i64 y):Acc w (W.setCell ⟨g,i,none⟩ (.int .i64 y)) h b z k s n (.slice (some ⟨g,0,none⟩) l c) { x with mx:=x.mx.set i y } :=
 ⟨a.res.far_int a.own.mx (by decide),a.box.far_int a.own.mx (by decide),⟨a.own.key.other _ fun e=>a.ap.km g e rfl,a.own.sum.other _ fun e=>a.ap.sm g e rfl,a.own.mn.other _ fun e=>a.ap.nm g e rfl,a.own.mx.put y hy⟩,a.ap,
  a.bel.trans ((only_setCell g W i _).below a.own.mx.ge.1 a.bel.size),a.hb⟩
theorem OI.block {B:Nat} {v:Value} {xs:List Int} (ho:OI B W v xs) (i:Nat) (hi:i<xs.length):∃ g c,v=.slice (some ⟨g,0,none⟩) xs.length c∧∀ j x,xs[j]? = some x→W.cell? ⟨g,j,none⟩=some (.int .i64 x):=by
 obtain⟨P,c,hv,_,_,h3⟩:=own_form ho.1
 obtain⟨g,rfl,_,hc⟩:=h3 (by omega)
 exact⟨g,c,hv,fun j x hx=>hc j _ (by simp[ints,hx])⟩
theorem RI.at {v:Value} {xs:List Int} (h:RI W v xs) (i:Nat) {x:Int} (hx:xs[i]? = some x):∃ ad c,v=.slice (some ad) xs.length c∧W.cell? (ad.add i)=some (.int .i64 x):=by
 obtain⟨P,c,hv,h1,_⟩:=h
 obtain⟨ad,rfl,hc⟩:=h1.2.2 (by have:=(List.getElem?_eq_some_iff.1 hx).1;omega)
 exact⟨ad,c,hv,hc i x hx⟩
end
theorem OI.frozen {B g n c:Nat} {W:World} {xs:List Int} (ho:OI B W (.slice (some ⟨g,0,none⟩) n c) xs) (i:Nat):W.frozen? ⟨g,i,none⟩=false:=by
 rcases ho.1.2 with ⟨e,_⟩ | ⟨g',cap,cur,e,_,hh,_⟩
 ·cases e
 ·injection e with e1 _ _
  injection e1 with e1
  injection e1 with e1
  subst e1
  simp[World.frozen?,hh]
theorem inK_min {a b:Int} (h:inK .i64 a) (k:inK .i64 b):inK .i64 (min a b):=by
 unfold inK at h k ⊢
 omega
theorem inK_max {a b:Int} (h:inK .i64 a) (k:inK .i64 b):inK .i64 (max a b):=by
 unfold inK at h k ⊢
 omega
theorem RI.inK_ {v:Value} {w:World} {xs:List Int} (h:RI w v xs) {i:Nat} {x:Int} (hx:xs[i]? = some x):inK .i64 x:=by
 obtain⟨P,c,hv,h1,_⟩:=h
 exact h1.2.1 x (List.mem_of_getElem? hx)
theorem OI.at {B g n c i:Nat} {W:World} {xs:List Int} (ho:OI B W (.slice (some ⟨g,0,none⟩) n c) xs) {x:Int} (hx:xs[i]? = some x):W.cell? ⟨g,i,none⟩=some (.int .i64 x):=by
 obtain⟨g',c',e,h⟩:=ho.block i (List.getElem?_eq_some_iff.1 hx).1
 injection e with e1 _ _
 injection e1 with e1
 injection e1 with e1
 subst e1
 exact h i x hx
theorem RI.cell {A:Addr} {n c i:Nat} {W:World} {xs:List Int} (h:RI W (.slice (some A) n c) xs) {x:Int} (hx:xs[i]? = some x):W.cell? (A.add i)=some (.int .i64 x):=by
 obtain⟨ad,c',e,h⟩:=h.at i hx
 injection e with e1 _ _
 injection e1 with e1
 subst e1
 exact h
def partC (a b:Cel) (i:Nat):Cel:=⟨a.key,wrap64 (a.cnt+b.cnt),part (fun x y=>wrap64 (x+y)) a.sum b.sum i,part min a.mn b.mn i,part max a.mx b.mx i⟩
theorem partC_all {a b:Cel} {me:Nat} (ha:EvenC me a) (hb:EvenC me b):partC a b me=join2 a b:=by
 obtain⟨a1,a2,a3⟩:=ha
 obtain⟨b1,b2,b3⟩:=hb
 unfold partC join2 addL minL maxL
 rw[← part_all (f:=fun x y=>wrap64 (x+y)) (a:=a.sum) (b:=b.sum) (by omega),← part_all (f:=min) (a:=a.mn) (b:=b.mn) (by omega),← part_all (f:=max) (a:=a.mx) (b:=b.mx) (by omega),a1,a2,a3]
theorem join2_even {a b:Cel} {me:Nat} (ha:EvenC me a) (hb:EvenC me b):EvenC me (join2 a b):=by
 obtain⟨a1,a2,a3⟩:=ha
 obtain⟨b1,b2,b3⟩:=hb
 refine⟨?_,?_,?_⟩ <;> simp[join2,addL,minL,maxL] <;> omega
theorem foldl_even {me:Nat}:∀ (l:List Cel) (a:Cel),EvenC me a→(∀ x ∈ l,EvenC me x)→EvenC me (l.foldl join2 a)
 | [],_,h,_=>h
 | x :: t,a,h,ht=>foldl_even t (join2 a x) (join2_even h (ht x (by simp))) fun y hy=>ht y (by simp[hy])
theorem foldl_snoc {l:List Cel} {a x:Cel} {k:Nat} (hx:l[k]? = some x):(l.take (k+1)).foldl join2 a=join2 ((l.take k).foldl join2 a) x:=by
 obtain⟨h,rfl⟩:=List.getElem?_eq_some_iff.1 hx
 rw[List.take_succ_eq_append_getElem h,List.foldl_append]
 rfl
theorem inK_wrap (x:Int):inK .i64 (wrap64 x):=by
 unfold wrap64 inK
 omega
end Go.Proofs.YtnjlkhhcfiedbaaGreatDoor
