import Derived.IntWalk
import Derived.Test.YtnjlkhhcfiedbaaGreatDoorSl
import Derived.Test.YtnjlkhhcfiedbaaGreatDoorHsh5
import Derived.Test.YtnjlkhhcfiedbaaGreatDoorCel9
import Derived.Test.YtnjlkhhcfiedbaaGreatDoorCel4
import Derived.Test.YtnjlkhhcfiedbaaGreatDoorMake
namespace Go.Proofs.YtnjlkhhcfiedbaaGreatDoor
open Go.RowKit
attribute [local go_sem] Oper.semAt_some
theorem infoSlot:(Tryz.prog.info? 192).map (fun i=>(i.zero,i.size,i.bytes))=some (some (.agg #[.slice none 0 0,.int .i64 0,.slice none 0 0,.slice none 0 0,.slice none 0 0,.bool false]),6,112):=by kernel_rfl
theorem make_slots (n:Nat) (hn:n≤10000) (w:World):(Instr.makeSlice 157 (.int .i64 (n:Int)) (.int .i64 (n:Int))).run Tryz.prog w=.ok (.slice (some ⟨w.heap.size,0,none⟩) n n) (w.alloc (.cells (madeCells #[.slice none 0 0,.int .i64 0,.slice none 0 0,.slice none 0 0,.slice none 0 0,.bool false] (n*6)) 192)):=by
 obtain⟨i,hi,hz,hs,hb⟩:=info_parts infoSlot
 have hr:=run_make (P:=Tryz.prog) w 157 192 i (.agg #[.slice none 0 0,.int .i64 0,.slice none 0 0,.slice none 0 0,.slice none 0 0,.bool false]) Tryz.underlying157 hi hz .i64 .i64 n n (by omega) (by omega) (by rw[hb];omega) (by omega)
 simpa [hs,Value.cells] using hr
set_option maxRecDepth 100000 in
set_option maxHeartbeats 4000000 in
theorem hnew_any (n:Nat) (w:World) (h1:1≤n) (h2:n≤10000) :
  Calls Tryz.prog 101 #[.int .i64 n] w fun e w'=>e=.returned (.pointer (some ⟨w.heap.size+1,0,none⟩))∧w'.heap[w.heap.size]? = some (.cells (madeCells #[.slice none 0 0,.int .i64 0,.slice none 0 0,.slice none 0 0,.slice none 0 0,.bool false] (n*6)) 192 (0,0))∧Own 161 w' (w.heap.size+1) [.slice (some ⟨w.heap.size,0,none⟩) n n,.int .i64 0,.int .i64 0,.int .i64 0]∧Below w.heap.size w w':=by
 have hw:=hwi_any n 1 10000 w
 rw[decide_eq_true (show (1:Int)≤(n:Int)∧(n:Int)≤10000 by omega)] at hw
 have HW:=Lib.hid hw
 have hm:=make_slots n h2 w
 clear hw
 go_enter Tryz.func101,Tryz.ntmps101
 go_wp2_with fail
 refine HW.out.mono ?_
 rintro e w' ⟨rfl,rfl⟩
 obtain⟨w1,hw1⟩:∃ w1,w1=w.alloc (.cells (madeCells #[.slice none 0 0,.int .i64 0,.slice none 0 0,.slice none 0 0,.slice none 0 0,.bool false] (n*6)) 192):=⟨_,rfl⟩
 rw[← hw1] at hm
 have z1:w1.heap.size=w.heap.size+1:=by rw[hw1];simp
 have o1:=heap_alloc_new w (.cells (madeCells #[.slice none 0 0,.int .i64 0,.slice none 0 0,.slice none 0 0,.slice none 0 0,.bool false] (n*6)) 192)
 rw[← hw1] at o1
 have hb1:Below w.heap.size w w1:=by rw[hw1];exact (Below.refl _ w).alloc (Nat.le_refl _) _
 have O1:=Lib.hid o1
 have Hb1:=Lib.hid hb1
 have Z1:=Lib.hid z1
 clear o1 hb1 hw1 z1
 go_wp2
 go_ret
 refine⟨by rw[← Z1.out];rfl,(Below.heap_alloc _ _ _ (by rw[Z1.out];omega)).trans O1.out,?_,Hb1.out.alloc (by rw[Z1.out];omega) _⟩
 rw[← Z1.out]
 exact heap_alloc_new w1 _
end Go.Proofs.YtnjlkhhcfiedbaaGreatDoor
namespace Go.Proofs.YtnjlkhhcfiedbaaGreatDoor
open Go.RowKit
attribute [local go_sem] Oper.semAt_some
set_option maxRecDepth 100000 in
set_option maxHeartbeats 4000000 in
theorem hcloned_any (k s n m:Value) (x:Cel) (w:World) (hx:CR w k s n m x) (h1:x.key.length≤1000000) (h2:x.sum.length≤1000000) (h3:x.mn.length≤1000000) (h4:x.mx.length≤1000000) :
  Calls Tryz.prog 125 #[.agg #[k,.int .i64 x.cnt,s,n,m]] w fun e w'=>∃ k' s' n' m',e=.returned (.agg #[k',.int .i64 x.cnt,s',n',m'])∧CO w.heap.size w' k' s' n' m' x∧Ap4 k' s' n' m'∧Below w.heap.size w w':=by
 obtain⟨⟨Pk,ck,rfl,hk⟩,⟨Ps,cs,rfl,hs⟩,⟨Pn,cn,rfl,hn⟩,⟨Pm,cm,rfl,hm⟩⟩:=hx
 have Rk:Hid (RI w (.slice Pk x.key.length ck) x.key):=Lib.hid ⟨_,_,rfl,hk⟩
 have Rs:Hid (RI w (.slice Ps x.sum.length cs) x.sum):=Lib.hid ⟨_,_,rfl,hs⟩
 have Rn:Hid (RI w (.slice Pn x.mn.length cn) x.mn):=Lib.hid ⟨_,_,rfl,hn⟩
 have Rm:Hid (RI w (.slice Pm x.mx.length cm) x.mx):=Lib.hid ⟨_,_,rfl,hm⟩
 clear hk hs hn hm
 have L1:=Lib.hid h1
 have L2:=Lib.hid h2
 have L3:=Lib.hid h3
 have L4:=Lib.hid h4
 clear h1 h2 h3 h4
 generalize hlk:x.key.length=lk at Rk ⊢
 generalize hls:x.sum.length=ls at Rs ⊢
 generalize hln:x.mn.length=ln at Rn ⊢
 generalize hlm:x.mx.length=lm at Rm ⊢
 generalize hcnt:x.cnt=cnt at *
 clear hlk hls hln hlm hcnt
 have o1:Own 163 ((w.alloc (.cells #[.slice Pk lk ck,.int .i64 cnt,.slice Ps ls cs,.slice Pn ln cn,.slice Pm lm cm] 163)).alloc (.cells #[.slice none 0 0,.int .i64 0,.slice none 0 0,.slice none 0 0,.slice none 0 0] 163)) w.heap.size [.slice Pk lk ck,.int .i64 cnt,.slice Ps ls cs,.slice Pn ln cn,.slice Pm lm cm] :=
  (show Own 163 (w.alloc (.cells #[.slice Pk lk ck,.int .i64 cnt,.slice Ps ls cs,.slice Pn ln cn,.slice Pm lm cm] 163)) w.heap.size [.slice Pk lk ck,.int .i64 cnt,.slice Ps ls cs,.slice Pn ln cn,.slice Pm lm cm] from heap_alloc_new w _).below ((Below.refl _ _).alloc (Nat.le_refl _) _) (by simp)
 have o2:Own 163 ((w.alloc (.cells #[.slice Pk lk ck,.int .i64 cnt,.slice Ps ls cs,.slice Pn ln cn,.slice Pm lm cm] 163)).alloc (.cells #[.slice none 0 0,.int .i64 0,.slice none 0 0,.slice none 0 0,.slice none 0 0] 163)) (w.heap.size+1) [.slice none 0 0,.int .i64 0,.slice none 0 0,.slice none 0 0,.slice none 0 0]:=by
  have:=heap_alloc_new (w.alloc (.cells #[.slice Pk lk ck,.int .i64 cnt,.slice Ps ls cs,.slice Pn ln cn,.slice Pm lm cm] 163)) (.cells #[.slice none 0 0,.int .i64 0,.slice none 0 0,.slice none 0 0,.slice none 0 0] 163)
  rw[show (w.alloc (.cells #[.slice Pk lk ck,.int .i64 cnt,.slice Ps ls cs,.slice Pn ln cn,.slice Pm lm cm] 163)).heap.size=w.heap.size+1 from by simp] at this
  exact this
 have hb:Below w.heap.size w ((w.alloc (.cells #[.slice Pk lk ck,.int .i64 cnt,.slice Ps ls cs,.slice Pn ln cn,.slice Pm lm cm] 163)).alloc (.cells #[.slice none 0 0,.int .i64 0,.slice none 0 0,.slice none 0 0,.slice none 0 0] 163)):=((Below.refl _ w).alloc (Nat.le_refl _) _).alloc (by simp) _
 have hz:((w.alloc (.cells #[.slice Pk lk ck,.int .i64 cnt,.slice Ps ls cs,.slice Pn ln cn,.slice Pm lm cm] 163)).alloc (.cells #[.slice none 0 0,.int .i64 0,.slice none 0 0,.slice none 0 0,.slice none 0 0] 163)).heap.size=w.heap.size+2:=by simp
 have O1:=Lib.hid o1
 have O2:=Lib.hid o2
 have Hb:=Lib.hid hb
 have Hz:=Lib.hid hz
 clear o1 o2 hb hz
 go_enter Tryz.func125,Tryz.ntmps125
 go_upto_region 1 with (fail)
 generalize (w.alloc (.cells #[.slice Pk lk ck,.int .i64 cnt,.slice Ps ls cs,.slice Pn ln cn,.slice Pm lm cm] 163)).alloc (.cells #[.slice none 0 0,.int .i64 0,.slice none 0 0,.slice none 0 0,.slice none 0 0] 163)=W1 at O1 O2 Hb Hz ⊢
 obtain⟨b,eb⟩:∃ b,b=w.heap.size:=⟨_,rfl⟩
 rw[← eb] at O1 O2 ⊢
 have Eb:=Lib.hid eb
 clear eb
 have bx0:=O1.out.bx
 refine wp_region_held_drew (S:=fun W=>Bx W b (.slice Pk lk ck) (.int .i64 cnt) (.slice Ps ls cs) (.slice Pn ln cn) (.slice Pm lm cm)) (by kernel_rfl) (show Bx W1.drew b _ _ _ _ _ from bx0) (fun hHeld=>?_)
 refine WTH (i:=0) (v:=?va0) ?ya0 hHeld ?ra0
 case ya0=>(intro W hW;obtain⟨h0,h1,h2,h3,h4⟩:=hW;go_simp;first | done | with_reducible rfl)
 try simp only[SL,Act.put]
 refine WTH (i:=1) (v:=?va1) ?ya1 hHeld ?ra1
 case ya1=>(intro W hW;obtain⟨h0,h1,h2,h3,h4⟩:=hW;go_simp;first | done | with_reducible rfl)
 try simp only[SL,Act.put]
 refine WTH (i:=3) (v:=?va3) ?ya3 hHeld ?ra3
 case ya3=>(intro W hW;obtain⟨h0,h1,h2,h3,h4⟩:=hW;go_simp;first | done | with_reducible rfl)
 try simp only[SL,Act.put]
 refine WTH (i:=4) (v:=?va4) ?ya4 hHeld ?ra4
 case ya4=>(intro W hW;obtain⟨h0,h1,h2,h3,h4⟩:=hW;go_simp;first | done | with_reducible rfl)
 try simp only[SL,Act.put]
 refine WTH (i:=5) (v:=?va5) ?ya5 hHeld ?ra5
 case ya5=>(intro W hW;obtain⟨h0,h1,h2,h3,h4⟩:=hW;go_simp;first | done | with_reducible rfl)
 try simp only[SL,Act.put]
 refine WTH (i:=6) (v:=?va6) ?ya6 hHeld ?ra6
 case ya6=>(intro W hW;obtain⟨h0,h1,h2,h3,h4⟩:=hW;go_simp;first | done | with_reducible rfl)
 try simp only[SL,Act.put]
 refine WTH (i:=8) (v:=?va8) ?ya8 hHeld ?ra8
 case ya8=>(intro W hW;obtain⟨h0,h1,h2,h3,h4⟩:=hW;go_simp;first | done | with_reducible rfl)
 try simp only[SL,Act.put]
 refine WTH (i:=9) (v:=?va9) ?ya9 hHeld ?ra9
 case ya9=>(intro W hW;obtain⟨h0,h1,h2,h3,h4⟩:=hW;go_simp;first | done | with_reducible rfl)
 try simp only[SL,Act.put]
 refine WTH (i:=11) (v:=?va11) ?ya11 hHeld ?ra11
 case ya11=>(intro W hW;obtain⟨h0,h1,h2,h3,h4⟩:=hW;go_simp;first | done | with_reducible rfl)
 try simp only[SL,Act.put]
 refine WTH (i:=12) (v:=?va12) ?ya12 hHeld ?ra12
 case ya12=>(intro W hW;obtain⟨h0,h1,h2,h3,h4⟩:=hW;go_simp;first | done | with_reducible rfl)
 try simp only[SL,Act.put]
 refine wpAnyH_ready (rs:=[2]) (by kernel_rfl) (by simp) ?_
 refine AllReadyH.cons rfl (fun K hK=>?_) (AllReadyH.nil)
 go_simp
 refine (clone_any _ x.key W1.drew (Rk.out.keep (show Keeps w W1.drew from (Keeps.of_below Hb.out).drewN 1)) L1.out).mono ?_
 rintro e V1 ⟨v1,rfl,ho1,hb1⟩
 have B1:=Lib.hid ((below_drewN Hb.out 1).trans (hb1.mono Hb.out.size))
 have D1:=Lib.hid (show Below W1.heap.size W1 V1 from (below_drewN (Below.refl _ _) 1).trans hb1)
 have Q1:=Lib.hid (ho1.mono (show w.heap.size≤W1.drew.heap.size from Hb.out.size))
 clear ho1 hb1
 go_wp2_with fail
 refine hK.out _ _ (bx0.keep (Keeps.of_below D1.out)) (fun hHeld=>?_)
 clear hK K
 try simp only[SL,Act.put]
 refine wpAnyH_ready (rs:=[7]) (by kernel_rfl) (by simp) ?_
 refine AllReadyH.cons rfl (fun K hK=>?_) (AllReadyH.nil)
 go_simp
 refine (clone_any _ x.sum V1 (Rs.out.keep (Keeps.of_below B1.out)) L2.out).mono ?_
 rintro e V2 ⟨v2,rfl,ho1,hb1⟩
 have B2:=Lib.hid (B1.out.trans (hb1.mono B1.out.size))
 have D2:=Lib.hid (D1.out.trans (hb1.mono D1.out.size))
 have Q1_:=Lib.hid (Q1.out.below hb1)
 have A12:Ap v1 v2:=Q1.out.ap ho1 (Nat.le_refl _)
 have Q2:=Lib.hid (ho1.mono (show w.heap.size≤V1.heap.size from B1.out.size))
 clear ho1 hb1
 go_wp2_with fail
 refine hK.out _ _ (bx0.keep (Keeps.of_below D2.out)) (fun hHeld=>?_)
 clear hK K
 try simp only[SL,Act.put]
 refine wpAnyH_ready (rs:=[10]) (by kernel_rfl) (by simp) ?_
 refine AllReadyH.cons rfl (fun K hK=>?_) (AllReadyH.nil)
 go_simp
 refine (clone_any _ x.mn V2 (Rn.out.keep (Keeps.of_below B2.out)) L3.out).mono ?_
 rintro e V3 ⟨v3,rfl,ho1,hb1⟩
 have B3:=Lib.hid (B2.out.trans (hb1.mono B2.out.size))
 have D3:=Lib.hid (D2.out.trans (hb1.mono D2.out.size))
 have Q1__:=Lib.hid (Q1_.out.below hb1)
 have Q2_:=Lib.hid (Q2.out.below hb1)
 have A13:Ap v1 v3:=Q1_.out.ap ho1 (Nat.le_refl _)
 have A23:Ap v2 v3:=Q2.out.ap ho1 (Nat.le_refl _)
 have Q3:=Lib.hid (ho1.mono (show w.heap.size≤V2.heap.size from B2.out.size))
 clear ho1 hb1
 go_wp2_with fail
 refine hK.out _ _ (bx0.keep (Keeps.of_below D3.out)) (fun hHeld=>?_)
 clear hK K
 try simp only[SL,Act.put]
 refine wpAnyH_ready (rs:=[13]) (by kernel_rfl) (by simp) ?_
 refine AllReadyH.cons rfl (fun K hK=>?_) (AllReadyH.nil)
 go_simp
 refine (clone_any _ x.mx V3 (Rm.out.keep (Keeps.of_below B3.out)) L4.out).mono ?_
 rintro e V4 ⟨v4,rfl,ho1,hb1⟩
 have B4:=Lib.hid (B3.out.trans (hb1.mono B3.out.size))
 have D4:=Lib.hid (D3.out.trans (hb1.mono D3.out.size))
 have Q1___:=Lib.hid (Q1__.out.below hb1)
 have Q2__:=Lib.hid (Q2_.out.below hb1)
 have Q3_:=Lib.hid (Q3.out.below hb1)
 have A14:Ap v1 v4:=Q1__.out.ap ho1 (Nat.le_refl _)
 have A24:Ap v2 v4:=Q2_.out.ap ho1 (Nat.le_refl _)
 have A34:Ap v3 v4:=Q3.out.ap ho1 (Nat.le_refl _)
 have Q4:=Lib.hid (ho1.mono (show w.heap.size≤V3.heap.size from B3.out.size))
 clear ho1 hb1
 go_wp2_with fail
 refine hK.out _ _ (bx0.keep (Keeps.of_below D4.out)) (fun hHeld=>?_)
 clear hK K
 try simp only[SL,Act.put]
 obtain⟨P1,c1,e1,-⟩:=Q1___.out.form
 obtain⟨P2,c2,e2,-⟩:=Q2__.out.form
 obtain⟨P3,c3,e3,-⟩:=Q3_.out.form
 obtain⟨P4,c4,e4,-⟩:=Q4.out.form
 subst e1 e2 e3 e4
 have HAp:=Lib.hid (show Ap4 _ _ _ _ from ⟨A12,A13,A14,A23,A24,A34⟩)
 clear A12 A13 A14 A23 A24 A34
 have o4:=O2.out.below D4.out (by have:=Hz.out;have:=Eb.out;omega)
 have z0:=o4.cell (i:=0) rfl
 have z1:=o4.cell (i:=1) rfl
 have z2:=o4.cell (i:=2) rfl
 have z3:=o4.cell (i:=3) rfl
 have z4:=o4.cell (i:=4) rfl
 have zf:=o4.frozen
 have O4:=Lib.hid o4
 clear o4
 obtain⟨W5,hW5⟩:∃ W5,W5=put5 V4 (b+1) (.slice P1 x.key.length c1) (.int .i64 cnt) (.slice P2 x.sum.length c2) (.slice P3 x.mn.length c3) (.slice P4 x.mx.length c4):=⟨_,rfl⟩
 have o5:Own 163 W5 (b+1) [.slice P1 x.key.length c1,.int .i64 cnt,.slice P2 x.sum.length c2,.slice P3 x.mn.length c3,.slice P4 x.mx.length c4]:=hW5 ▸ put5_own O4.out
 have on5:Only (b+1) V4 W5:=hW5 ▸ put5_only
 have hfin:CO w.heap.size W5 (.slice P1 x.key.length c1) (.slice P2 x.sum.length c2) (.slice P3 x.mn.length c3) (.slice P4 x.mx.length c4) x:=(show CO w.heap.size V4 _ _ _ _ x from ⟨Q1___.out,Q2__.out,Q3_.out,Q4.out⟩).only on5 O4.out (by decide)
 have hbf:Below w.heap.size w W5:=B4.out.trans (on5.below (by have:=Eb.out;omega) B4.out.size)
 have hbx5:Bx W5 b (.slice Pk lk ck) (.int .i64 cnt) (.slice Ps ls cs) (.slice Pn ln cn) (.slice Pm lm cm):=(bx0.keep (Keeps.of_below D4.out)).only on5 (by omega) (by have:=D4.out.size;have:=Hz.out;have:=Eb.out;omega)
 have HW5:=Lib.hid hW5
 have Hfin:=Lib.hid hfin
 have Hbf:=Lib.hid hbf
 have Hbx5:=Lib.hid hbx5
 have r0:=o5.cell (i:=0) rfl
 have r1:=o5.cell (i:=1) rfl
 have r2:=o5.cell (i:=2) rfl
 have r3:=o5.cell (i:=3) rfl
 have r4:=o5.cell (i:=4) rfl
 clear hW5 o5 on5 hfin hbf hbx5
 refine WTH (i:=14) (v:=?va14) ?ya14 hHeld ?ra14
 case ya14=>(intro W hW;go_simp;first | done | with_reducible rfl)
 try simp only[SL,Act.put]
 refine wpAnyH_ready (rs:=[15]) (by kernel_rfl) (by simp) ?_
 refine AllReadyH.cons rfl (fun K hK=>?_) (AllReadyH.nil)
 go_simp
 have e5:=HW5.out
 unfold put5 at e5
 rw[← e5]
 clear e5
 refine hK.out _ _ (Hbx5.out) (fun hHeld=>?_)
 clear hK K
 try simp only[SL,Act.put]
 refine wpAnyH_done (by kernel_rfl) ?_ _
 go_wp2
 exact bodyPost_ret (v:=.agg #[.slice P1 x.key.length c1,.int .i64 cnt,.slice P2 x.sum.length c2,.slice P3 x.mn.length c3,.slice P4 x.mx.length c4]) (by simp[results,Tryz.results125,go_sem,r0,r1,r2,r3,r4]) rfl ⟨_,_,_,_,rfl,Hfin.out,HAp.out,Hbf.out⟩
end Go.Proofs.YtnjlkhhcfiedbaaGreatDoor
namespace Go.Proofs.YtnjlkhhcfiedbaaGreatDoor
open Go.RowKit
attribute [local go_sem] Oper.semAt_some
theorem xwi_any (n lo hi:Int) (w:World):Calls Tryz.prog 35 #[.int .i64 n,.int .i64 lo,.int .i64 hi] w fun e w'=>e=.returned (.bool (decide (lo≤n∧n≤hi)))∧w=w':=by
 by_cases h1:lo≤n
 ·by_cases h2:n≤hi
  ·have hh:decide (lo≤n∧n≤hi)=true:=decide_eq_true ⟨h1,h2⟩
   have d1:=decide_eq_true h1
   have d2:=decide_eq_true h2
   rw[hh]
   clear hh
   go_enter Tryz.func35,Tryz.ntmps35
   go_wp2
   go_ret
   exact⟨rfl,rfl⟩
  ·have hh:decide (lo≤n∧n≤hi)=false:=decide_eq_false fun h=>h2 h.2
   have d1:=decide_eq_true h1
   have d2:=decide_eq_false h2
   rw[hh]
   clear hh
   go_enter Tryz.func35,Tryz.ntmps35
   go_wp2
   go_ret
   exact⟨rfl,rfl⟩
 ·have hh:decide (lo≤n∧n≤hi)=false:=decide_eq_false fun h=>h1 h.1
  have d1:=decide_eq_false h1
  rw[hh]
  clear hh
  go_enter Tryz.func35,Tryz.ntmps35
  go_wp2
  go_ret
  exact⟨rfl,rfl⟩
theorem xareSets_any (sa sb:Int) (w:World) (s1:0≤sa) (s2:sa≤15) (hsub:bits .andNot .i64 sb sa=0) :
  Calls Tryz.prog 25 #[.int .i64 sa,.int .i64 sb] w fun e w'=>e=.returned (.bool true)∧w=w':=by
 have hw:=xwi_any sa 0 15 w
 rw[decide_eq_true (show (0:Int)≤sa∧sa≤15 from ⟨s1,s2⟩)] at hw
 have HW:=Lib.hid hw
 have b1:(bits .andNot .i64 sb sa == 0)=true:=by rw[hsub];rfl
 clear hw s1 s2 hsub
 go_enter Tryz.func25,Tryz.ntmps25
 go_wp2_with fail
 refine HW.out.mono ?_
 rintro e w' ⟨rfl,rfl⟩
 go_wp2
 go_ret
 exact⟨rfl,rfl⟩
set_option maxHeartbeats 1000000 in
theorem xinB_any (A:Option Addr) (n c:Nat) (xs:List Int) (w:World) (hx:Nums .i64 w A n xs) (hok:okK xs=true) (hn:n≤1000000) :
  Calls Tryz.prog 37 #[.slice A n c] w fun e w'=>e=.returned (.bool true)∧w=w':=by
 have HX:=Lib.hid hx
 have HO:=Lib.hid hok
 clear hx hok
 go_enter Tryz.func37,Tryz.ntmps37
 go_wp2
 go_loopw [7] (fun i wr=>∃ k:Nat,i=.int .i64 k∧k≤n∧w=wr) (fun i _=>n - (intOf i).toNat)
 case atStart=>exact⟨0,rfl,Nat.zero_le _,rfl⟩
 case round =>
  obtain⟨k,rfl,hk,rfl⟩:=hrel
  by_cases hkn:k<n
  ·obtain⟨ad,x,rfl,hxk,hxi,hcx⟩:=HX.out.at_ hkn
   have ho:0≤x∧x≤15:=by
    have h:=HO.out
    unfold okK at h
    rw[List.all_eq_true] at h
    exact of_decide_eq_true (h x (List.mem_of_getElem? hxk))
   have hw:=xwi_any x 0 15 w
   rw[decide_eq_true ho] at hw
   have HW:=Lib.hid hw
   have k0:(0:Int)≤(k:Int):=by omega
   have k1:(k:Int)<(n:Int):=by omega
   clear hxk hxi hw ho
   go_wp2_with fail
   refine HW.out.mono ?_
   rintro e w' ⟨rfl,rfl⟩
   go_wp2
   go_roundw
   case rel=>exact⟨k+1,by go_num,by omega,trivial⟩
   case measure=>simp[intOf];omega
  ·obtain rfl:k=n:=by omega
   go_wp2
   go_ret
   exact⟨rfl,rfl⟩
set_option maxRecDepth 100000 in
set_option maxHeartbeats 4000000 in
theorem xhas_any (Pk Ps Pn Pm:Option Addr) (K ck me cs cn cm:Nat) (cnt:Int) (w:World) :
  Calls Tryz.prog 38 #[.agg #[.slice Pk K ck,.int .i64 cnt,.slice Ps me cs,.slice Pn me cn,.slice Pm me cm],.int .i64 me] w fun e w'=>e=.returned (.bool true)∧Below w.heap.size w w':=by
 have o1:Own 46 (w.alloc (.cells #[.slice Pk K ck,.int .i64 cnt,.slice Ps me cs,.slice Pn me cn,.slice Pm me cm] 46)) w.heap.size [.slice Pk K ck,.int .i64 cnt,.slice Ps me cs,.slice Pn me cn,.slice Pm me cm]:=heap_alloc_new w _
 have hb:Below w.heap.size w (w.alloc (.cells #[.slice Pk K ck,.int .i64 cnt,.slice Ps me cs,.slice Pn me cn,.slice Pm me cm] 46)):=(Below.refl _ w).alloc (Nat.le_refl _) _
 go_enter Tryz.func38,Tryz.ntmps38
 go_upto_region 1 with (fail)
 generalize w.alloc (.cells #[.slice Pk K ck,.int .i64 cnt,.slice Ps me cs,.slice Pn me cn,.slice Pm me cm] 46)=w1 at hb o1 ⊢
 have HB:=Lib.hid hb
 obtain⟨b,eb⟩:∃ b,b=w.heap.size:=⟨_,rfl⟩
 rw[← eb] at o1 ⊢
 obtain⟨h0,h1,h2,h3,h4⟩:=o1.bx
 have dmm:((me:Int) == (me:Int))=true:=by simp
 clear hb o1 eb
 go_wp2
 go_ret
 exact⟨rfl,HB.out⟩
set_option maxRecDepth 100000 in
set_option maxHeartbeats 4000000 in
theorem xfit_any (P:Option Addr) (c N:Nat) (L:List Cel) (sa:Int) (d mm:Nat) (w:World) (hl:RowC w P N L) (hN:N=L.length) (hd:∀ x ∈ L,x.key.length=d∧okK x.key=true∧EvenC mm x) (hn:N≤300) (s1:0≤sa) (s2:sa≤15) (hones:ones sa=(d:Int)) (hdm:d≤1000000) :
  Calls Tryz.prog 26 #[.slice P N c,.int .i64 sa] w fun e w'=>e=.returned (.bool true)∧Below w.heap.size w w':=by
 have HN:=Lib.hid hN
 have HL:=Lib.hid hl
 have HD:=Lib.hid hd
 have hon:=fun W=>ones_any sa W s1 s2
 rw[hones] at hon
 have HON:=Lib.hid hon
 have u1:IntKind.u64.wrap sa=sa:=u64_id sa s1 s2
 have d0:decide ((300:Int)<(N:Int))=false:=by rw[decide_eq_false_iff_not];omega
 have d0n:decide (300<N)=false:=by rw[decide_eq_false_iff_not];omega
 have b1:((d:Int) != (d:Int))=false:=by simp
 clear hN hl hd hon hones
 go_enter Tryz.func26,Tryz.ntmps26
 go_wp2_with fail
 go_loopw [12] (fun i wr=>∃ k:Nat,k≤N∧i=.int .i64 k∧Below w.heap.size w wr) (fun i _=>N - (intOf i).toNat)
 case atStart=>exact⟨0,by omega,rfl,Below.refl _ _⟩
 case round =>
  obtain⟨k,hk,rfl,hb⟩:=hrel
  rename World=>wr
  have Hb:=Lib.hid hb
  clear hb
  by_cases hlt:k<N
  ·obtain⟨ad,rfl,hcr⟩:=HL.out (by omega)
   obtain⟨x,hx⟩:∃ x,L[k]? = some x:=⟨_,List.getElem?_eq_getElem (by have:=HN.out;omega)⟩
   obtain⟨y,hy⟩:∃ y,L[0]? = some y:=⟨_,List.getElem?_eq_getElem (by have:=HN.out;omega)⟩
   obtain⟨kx,okx,ex1,ex2,ex3⟩:=HD.out x (List.mem_of_getElem? hx)
   obtain⟨ky,oky,ey1,ey2,ey3⟩:=HD.out y (List.mem_of_getElem? hy)
   have kp:=Keeps.of_below Hb.out
   obtain⟨vk,vs,vn,vm,p0,p1,p2,p3,p4,⟨⟨Pk,ck,rfl,nk,-⟩,⟨Ps,cs,rfl,_⟩,⟨Pn,cn,rfl,_⟩,⟨Pm,cm,rfl,_⟩⟩,_⟩:=(hcr k x hx).keep kp
   have hy0:=(hcr 0 y hy).keep kp
   rw[show ad.add (0*5)=ad from by simp[Addr.add]] at hy0
   obtain⟨uk,us,un,um,c0,c1,c2,c3,c4,⟨-,⟨Qs,ds,rfl,_⟩,-,-⟩,_⟩:=hy0
   rw[kx] at p0 nk
   rw[ex1] at p2
   rw[ex2] at p3
   rw[ex3] at p4
   rw[ey1] at c2
   obtain⟨xc,exc⟩:∃ z,z=x.cnt:=⟨_,rfl⟩
   rw[← exc] at p1
   obtain⟨w5,hw5⟩:∃ w5,w5=wr.alloc (.cells #[.slice Pk d ck,.int .i64 xc,.slice Ps mm cs,.slice Pn mm cn,.slice Pm mm cm] 46):=⟨_,rfl⟩
   have o5:Own 46 w5 wr.heap.size [.slice Pk d ck,.int .i64 xc,.slice Ps mm cs,.slice Pn mm cn,.slice Pm mm cm]:=by rw[hw5];exact heap_alloc_new wr _
   have hb5:Below wr.heap.size wr w5:=by rw[hw5];exact (Below.refl _ _).alloc (Nat.le_refl _) _
   have k5:=Keeps.of_below hb5
   have bx5:=o5.bx
   have c2':=k5 _ _ c2
   have HIN:=Lib.hid (fun (W:World) (hW:Keeps wr W)=>xinB_any Pk d ck x.key W (nk.keep hW) okx hdm)
   have HHS:=Lib.hid (fun W=>xhas_any Pk Ps Pn Pm d ck mm cs cn cm xc W)
   have Hb5:=Lib.hid (Hb.out.trans (hb5.mono Hb.out.size))
   have HK5:=Lib.hid k5
   have HW5:=Lib.hid hw5
   have i0:(0:Int)≤(k:Int):=by omega
   have i1:(k:Int)<(N:Int):=by omega
   have d1:decide ((k:Int)<(N:Int))=true:=decide_eq_true i1
   have q0:0<N:=by omega
   have q1:(0:Int)<(N:Int):=by omega
   clear hx hy kx okx ex1 ex2 ex3 ky oky ey1 ey2 ey3 nk exc hw5 o5 hb5 kp k5 c0 c1 c2 c3 c4 hcr
   go_upto_region 6 with (fail)
   rw[← HW5.out]
   clear p0 p1 p2 p3 p4
   refine wp_region_held_drew (S:=fun W=>Bx W wr.heap.size (.slice Pk d ck) (.int .i64 xc) (.slice Ps mm cs) (.slice Pn mm cn) (.slice Pm mm cm)∧W.cell? ⟨ad.block,ad.off+2,none⟩=some (.slice Qs mm ds)) (by kernel_rfl) ⟨bx5,c2'⟩ (fun hHeld=>?_)
   refine WTH (i:=0) (v:=?vpa0) ?ypa0 hHeld ?rpa0
   case ypa0=>(intro W hW;obtain⟨⟨h0,h1,h2,h3,h4⟩,g2⟩:=hW;go_simp;first | done | with_reducible rfl)
   try simp only[SL,Act.put]
   refine WTH (i:=1) (v:=?vpa1) ?ypa1 hHeld ?rpa1
   case ypa1=>(intro W hW;obtain⟨⟨h0,h1,h2,h3,h4⟩,g2⟩:=hW;go_simp;first | done | with_reducible rfl)
   try simp only[SL,Act.put]
   refine WTH (i:=2) (v:=?vpa2) ?ypa2 hHeld ?rpa2
   case ypa2=>(intro W hW;obtain⟨⟨h0,h1,h2,h3,h4⟩,g2⟩:=hW;go_simp;first | done | with_reducible rfl)
   try simp only[SL,Act.put]
   refine WTH (i:=3) (v:=?vpa3) ?ypa3 hHeld ?rpa3
   case ypa3=>(intro W hW;obtain⟨⟨h0,h1,h2,h3,h4⟩,g2⟩:=hW;go_simp;first | done | with_reducible rfl)
   try simp only[SL,Act.put]
   refine WTH (i:=4) (v:=?vpa4) ?ypa4 hHeld ?rpa4
   case ypa4=>(intro W hW;obtain⟨⟨h0,h1,h2,h3,h4⟩,g2⟩:=hW;go_simp;first | done | with_reducible rfl)
   try simp only[SL,Act.put]
   refine wpAnyH_ready (rs:=[5]) (by kernel_rfl) (by simp) ?_
   refine AllReadyH.cons rfl (fun K hK=>?_) (AllReadyH.nil)
   go_simp
   refine (HON.out _).mono ?_
   rintro e6 w6 ⟨rfl,rfl⟩
   refine hK.out _ _ (hHeld) (fun hHeld=>?_)
   clear hK K
   try simp only[SL,Act.put]
   refine WTH (i:=6) (v:=?vpa6) ?ypa6 hHeld ?rpa6
   case ypa6=>(intro W hW;obtain⟨⟨h0,h1,h2,h3,h4⟩,g2⟩:=hW;go_simp;first | done | with_reducible rfl)
   try simp only[SL,Act.put]
   refine WTH (i:=7) (v:=?vpa7) ?ypa7 hHeld ?rpa7
   case ypa7=>(intro W hW;obtain⟨⟨h0,h1,h2,h3,h4⟩,g2⟩:=hW;go_simp;first | done | with_reducible rfl)
   try simp only[SL,Act.put]
   refine WTH (i:=8) (v:=?vpa8) ?ypa8 hHeld ?rpa8
   case ypa8=>(intro W hW;obtain⟨⟨h0,h1,h2,h3,h4⟩,g2⟩:=hW;go_simp;first | done | with_reducible rfl)
   try simp only[SL,Act.put]
   refine WTH (i:=9) (v:=?vpa9) ?ypa9 hHeld ?rpa9
   case ypa9=>(intro W hW;obtain⟨⟨h0,h1,h2,h3,h4⟩,g2⟩:=hW;go_simp;first | done | with_reducible rfl)
   try simp only[SL,Act.put]
   refine wpAnyH_ready (rs:=[10]) (by kernel_rfl) (by simp) ?_
   refine AllReadyH.cons rfl (fun K hK=>?_) (AllReadyH.nil)
   go_simp
   refine (HIN.out _ (HK5.out.drewN 1)).mono ?_
   rintro e7 w7 ⟨rfl,rfl⟩
   refine hK.out _ _ (hHeld) (fun hHeld=>?_)
   clear hK K
   try simp only[SL,Act.put]
   refine WTH (i:=11) (v:=?vpa11) ?ypa11 hHeld ?rpa11
   case ypa11=>(intro W hW;obtain⟨⟨h0,h1,h2,h3,h4⟩,g2⟩:=hW;go_simp;first | done | with_reducible rfl)
   try simp only[SL,Act.put]
   refine WTH (i:=12) (v:=?vpa12) ?ypa12 hHeld ?rpa12
   case ypa12=>(intro W hW;obtain⟨⟨h0,h1,h2,h3,h4⟩,g2⟩:=hW;go_simp;first | done | with_reducible rfl)
   try simp only[SL,Act.put]
   refine WTH (i:=13) (v:=?vpa13) ?ypa13 hHeld ?rpa13
   case ypa13=>(intro W hW;obtain⟨⟨h0,h1,h2,h3,h4⟩,g2⟩:=hW;go_simp;first | done | with_reducible rfl)
   try simp only[SL,Act.put]
   refine WTH (i:=14) (v:=?vpa14) ?ypa14 hHeld ?rpa14
   case ypa14=>(intro W hW;obtain⟨⟨h0,h1,h2,h3,h4⟩,g2⟩:=hW;go_simp;first | done | with_reducible rfl)
   try simp only[SL,Act.put]
   refine WTH (i:=15) (v:=?vpa15) ?ypa15 hHeld ?rpa15
   case ypa15=>(intro W hW;obtain⟨⟨h0,h1,h2,h3,h4⟩,g2⟩:=hW;go_simp;first | done | with_reducible rfl)
   try simp only[SL,Act.put]
   refine WTH (i:=16) (v:=?vpa16) ?ypa16 hHeld ?rpa16
   case ypa16=>(intro W hW;obtain⟨⟨h0,h1,h2,h3,h4⟩,g2⟩:=hW;go_simp;first | done | with_reducible rfl)
   try simp only[SL,Act.put]
   refine WTH (i:=17) (v:=?vpa17) ?ypa17 hHeld ?rpa17
   case ypa17=>(intro W hW;obtain⟨⟨h0,h1,h2,h3,h4⟩,g2⟩:=hW;go_simp;first | done | with_reducible rfl)
   try simp only[SL,Act.put]
   refine WTH (i:=18) (v:=?vpa18) ?ypa18 hHeld ?rpa18
   case ypa18=>(intro W hW;obtain⟨⟨h0,h1,h2,h3,h4⟩,g2⟩:=hW;go_simp;first | done | with_reducible rfl)
   try simp only[SL,Act.put]
   refine WTH (i:=19) (v:=?vpa19) ?ypa19 hHeld ?rpa19
   case ypa19=>(intro W hW;obtain⟨⟨h0,h1,h2,h3,h4⟩,g2⟩:=hW;go_simp;first | done | with_reducible rfl)
   try simp only[SL,Act.put]
   refine wpAnyH_ready (rs:=[20]) (by kernel_rfl) (by simp) ?_
   refine AllReadyH.cons rfl (fun K hK=>?_) (AllReadyH.nil)
   go_simp
   refine (HHS.out _).mono ?_
   rintro e8 w8 ⟨rfl,hb8⟩
   have kp8:=Keeps.of_below hb8
   have Hb8:=Lib.hid (Hb5.out.drew.trans (hb8.mono Hb5.out.size))
   clear hb8
   refine hK.out _ _ ((⟨hHeld.1.keep kp8,kp8 _ _ hHeld.2⟩)) (fun hHeld=>?_)
   clear hK K
   try simp only[SL,Act.put]
   refine WTH (i:=21) (v:=?vpa21) ?ypa21 hHeld ?rpa21
   case ypa21=>(intro W hW;obtain⟨⟨h0,h1,h2,h3,h4⟩,g2⟩:=hW;go_simp;first | done | with_reducible rfl)
   try simp only[SL,Act.put]
   refine WTH (i:=22) (v:=?vpa22) ?ypa22 hHeld ?rpa22
   case ypa22=>(intro W hW;obtain⟨⟨h0,h1,h2,h3,h4⟩,g2⟩:=hW;go_simp;first | done | with_reducible rfl)
   try simp only[SL,Act.put]
   refine wpAnyH_done (by kernel_rfl) ?_ _
   clear hHeld bx5 c2' kp8
   go_wp2
   go_roundw
   case rel=>exact⟨k+1,by omega,by go_num,Hb8.out⟩
   case measure=>simp[intOf];omega
  ·obtain rfl:k=N:=by omega
   have d1:decide ((k:Int)<(k:Int))=false:=by simp
   have d2:decide (k<k)=false:=by simp
   go_wp2
   go_ret
   exact⟨rfl,Hb.out⟩
end Go.Proofs.YtnjlkhhcfiedbaaGreatDoor
