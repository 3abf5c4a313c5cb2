/- Package cell's cloned, even. -/
import Derived.Test.YtmolfcccfekcpaaCel1
namespace Go.Proofs.Ytmolfcccfekcpaa
open Go.RowKit
/-- What a box of a cell reads as. -/
def Bx (w : World) (b : Nat) (v0 v1 v2 v3 v4 : Value) : Prop := w.cell? ⟨b, 0, none⟩ = some v0 ∧ w.cell? ⟨b, 1, none⟩ = some v1 ∧ w.cell? ⟨b, 2, none⟩ = some v2 ∧ w.cell? ⟨b, 3, none⟩ = some v3 ∧ w.cell? ⟨b, 4, none⟩ = some v4
theorem Bx.keep {w w' : World} {b : Nat} {v0 v1 v2 v3 v4 : Value} (h : Bx w b v0 v1 v2 v3 v4) (hk : Keeps w w') : Bx w' b v0 v1 v2 v3 v4 := ⟨hk _ _ h.1, hk _ _ h.2.1, hk _ _ h.2.2.1, hk _ _ h.2.2.2.1, hk _ _ h.2.2.2.2⟩
theorem Own.bx {T : TypeId} {w : World} {b : Nat} {v0 v1 v2 v3 v4 : Value} (h : Own T w b [v0, v1, v2, v3, v4]) : Bx w b v0 v1 v2 v3 v4 := ⟨h.cell (i := 0) rfl, h.cell (i := 1) rfl, h.cell (i := 2) rfl, h.cell (i := 3) rfl, h.cell (i := 4) rfl⟩
theorem Bx.far {w : World} {b g i : Nat} {u : Value} {v0 v1 v2 v3 v4 : Value} (h : Bx w b v0 v1 v2 v3 v4) (hne : b ≠ g) : Bx (w.setCell ⟨g, i, none⟩ u) b v0 v1 v2 v3 v4 := by
  have e : ∀ j, (w.setCell ⟨g, i, none⟩ u).cell? ⟨b, j, none⟩ = w.cell? ⟨b, j, none⟩ := fun j => World.cell?_of_block (Below.heap_setCell _ _ _ _ hne)
  exact ⟨(e 0).trans h.1, (e 1).trans h.2.1, (e 2).trans h.2.2.1, (e 3).trans h.2.2.2.1, (e 4).trans h.2.2.2.2⟩
/-- Five stores into a box. -/
def put5 (w : World) (g : Nat) (v0 v1 v2 v3 v4 : Value) : World := ((((w.setCell ⟨g, 0, none⟩ v0).setCell ⟨g, 1, none⟩ v1).setCell ⟨g, 2, none⟩ v2).setCell ⟨g, 3, none⟩ v3).setCell ⟨g, 4, none⟩ v4
section
variable {w : World} {g : Nat} {T : TypeId} {v0 v1 v2 v3 v4 u0 u1 u2 u3 u4 : Value}
theorem put5_own (h : Own T w g [u0, u1, u2, u3, u4]) : Own T (put5 w g v0 v1 v2 v3 v4) g [v0, v1, v2, v3, v4] := ((((h.set_ 0 v0).set_ 1 v1).set_ 2 v2).set_ 3 v3).set_ 4 v4
theorem put5_only : Only g w (put5 w g v0 v1 v2 v3 v4) := (((((Only.refl g w).setCell 0 v0).setCell 1 v1).setCell 2 v2).setCell 3 v3).setCell 4 v4
theorem put5_size : (put5 w g v0 v1 v2 v3 v4).heap.size = w.heap.size := by simp [put5, World.setCell]
theorem Bx.only {w' : World} {b : Nat} (h : Bx w b v0 v1 v2 v3 v4) (ho : Only g w w') (hne : b ≠ g) (hb : b < w.heap.size) : Bx w' b v0 v1 v2 v3 v4 := by
  have e : ∀ j, w'.cell? ⟨b, j, none⟩ = w.cell? ⟨b, j, none⟩ := fun j => World.cell?_of_block (ho.block b hb hne)
  exact ⟨(e 0).trans h.1, (e 1).trans h.2.1, (e 2).trans h.2.2.1, (e 3).trans h.2.2.2.1, (e 4).trans h.2.2.2.2⟩
theorem OI.only {B : Nat} {w' : World} {v : Value} {xs : List Int} (h : OI B w v xs) (ho : Only g w w') (hg : Own T w g [u0, u1, u2, u3, u4]) (hT : T ≠ 3) : OI B w' v xs := by
  refine ⟨own_stay h.1 fun k hk => ho.block k (h.1.lt k hk).2 fun e => ?_, h.2⟩
  subst e
  rcases h.1.2 with ⟨rfl, _⟩ | ⟨g', cap, cur, rfl, _, hh, _⟩
  · simp [Value.ownBlock] at hk
  · simp only [Value.ownBlock, Option.some.injEq] at hk
    subst hk
    unfold Own at hg
    rw [hh] at hg
    injection hg with hg
    injection hg with _ h2
    exact hT h2.symm
theorem CO.only {B : Nat} {w' : World} {k s n m : Value} {x : Cel} (h : CO B w k s n m x) (ho : Only g w w') (hg : Own T w g [u0, u1, u2, u3, u4]) (hT : T ≠ 3) : CO B w' k s n m x := ⟨h.key.only ho hg hT, h.sum.only ho hg hT, h.mn.only ho hg hT, h.mx.only ho hg hT⟩
end
set_option maxRecDepth 100000 in
set_option maxHeartbeats 4000000 in
theorem cloned_any (k s n m : Value) (x : Cel) (w : World) (hx : CR w k s n m x) (h1 : x.key.length ≤ 1000000) (h2 : x.sum.length ≤ 1000000) (h3 : x.mn.length ≤ 1000000) (h4 : x.mx.length ≤ 1000000) :
    Calls Try.prog 68 #[.agg #[k, .int .i64 x.cnt, s, n, m]] w fun e w' => ∃ k' s' n' m', e = .returned (.agg #[k', .int .i64 x.cnt, s', n', m']) ∧ CO w.heap.size w' k' s' n' m' x ∧ Ap4 k' s' n' m' ∧ Below w.heap.size w w' := by
  obtain ⟨⟨Pk, ck, rfl, hk⟩, ⟨Ps, cs, rfl, hs⟩, ⟨Pn, cn, rfl, hn⟩, ⟨Pm, cm, rfl, hm⟩⟩ := hx
  have Rk : Hid (RI w (.slice Pk x.key.length ck) x.key) := Lib.hid ⟨_, _, rfl, hk⟩
  have Rs : Hid (RI w (.slice Ps x.sum.length cs) x.sum) := Lib.hid ⟨_, _, rfl, hs⟩
  have Rn : Hid (RI w (.slice Pn x.mn.length cn) x.mn) := Lib.hid ⟨_, _, rfl, hn⟩
  have Rm : Hid (RI w (.slice Pm x.mx.length cm) x.mx) := Lib.hid ⟨_, _, rfl, hm⟩
  clear hk hs hn hm
  have L1 := Lib.hid h1
  have L2 := Lib.hid h2
  have L3 := Lib.hid h3
  have L4 := Lib.hid h4
  clear h1 h2 h3 h4
  generalize hlk : x.key.length = lk at Rk ⊢
  generalize hls : x.sum.length = ls at Rs ⊢
  generalize hln : x.mn.length = ln at Rn ⊢
  generalize hlm : x.mx.length = lm at Rm ⊢
  generalize hcnt : x.cnt = cnt at *
  clear hlk hls hln hlm hcnt
  have o1 : Own 44 ((w.alloc (.cells #[.slice Pk lk ck, .int .i64 cnt, .slice Ps ls cs, .slice Pn ln cn, .slice Pm lm cm] 44)).alloc (.cells #[.slice none 0 0, .int .i64 0, .slice none 0 0, .slice none 0 0, .slice none 0 0] 44)) w.heap.size [.slice Pk lk ck, .int .i64 cnt, .slice Ps ls cs, .slice Pn ln cn, .slice Pm lm cm] :=
    (show Own 44 (w.alloc (.cells #[.slice Pk lk ck, .int .i64 cnt, .slice Ps ls cs, .slice Pn ln cn, .slice Pm lm cm] 44)) w.heap.size [.slice Pk lk ck, .int .i64 cnt, .slice Ps ls cs, .slice Pn ln cn, .slice Pm lm cm] from heap_alloc_new w _).below ((Below.refl _ _).alloc (Nat.le_refl _) _) (by simp)
  have o2 : Own 44 ((w.alloc (.cells #[.slice Pk lk ck, .int .i64 cnt, .slice Ps ls cs, .slice Pn ln cn, .slice Pm lm cm] 44)).alloc (.cells #[.slice none 0 0, .int .i64 0, .slice none 0 0, .slice none 0 0, .slice none 0 0] 44)) (w.heap.size + 1) [.slice none 0 0, .int .i64 0, .slice none 0 0, .slice none 0 0, .slice none 0 0] := by
    have := heap_alloc_new (w.alloc (.cells #[.slice Pk lk ck, .int .i64 cnt, .slice Ps ls cs, .slice Pn ln cn, .slice Pm lm cm] 44)) (.cells #[.slice none 0 0, .int .i64 0, .slice none 0 0, .slice none 0 0, .slice none 0 0] 44)
    rw [show (w.alloc (.cells #[.slice Pk lk ck, .int .i64 cnt, .slice Ps ls cs, .slice Pn ln cn, .slice Pm lm cm] 44)).heap.size = w.heap.size + 1 from by simp] at this
    exact this
  have hb : Below w.heap.size w ((w.alloc (.cells #[.slice Pk lk ck, .int .i64 cnt, .slice Ps ls cs, .slice Pn ln cn, .slice Pm lm cm] 44)).alloc (.cells #[.slice none 0 0, .int .i64 0, .slice none 0 0, .slice none 0 0, .slice none 0 0] 44)) := ((Below.refl _ w).alloc (Nat.le_refl _) _).alloc (by simp) _
  have hz : ((w.alloc (.cells #[.slice Pk lk ck, .int .i64 cnt, .slice Ps ls cs, .slice Pn ln cn, .slice Pm lm cm] 44)).alloc (.cells #[.slice none 0 0, .int .i64 0, .slice none 0 0, .slice none 0 0, .slice none 0 0] 44)).heap.size = w.heap.size + 2 := by simp
  have O1 := Lib.hid o1
  have O2 := Lib.hid o2
  have Hb := Lib.hid hb
  have Hz := Lib.hid hz
  clear o1 o2 hb hz
  go_enter Try.func68, Try.ntmps68
  go_upto_region 1 with (fail)
  generalize (w.alloc (.cells #[.slice Pk lk ck, .int .i64 cnt, .slice Ps ls cs, .slice Pn ln cn, .slice Pm lm cm] 44)).alloc (.cells #[.slice none 0 0, .int .i64 0, .slice none 0 0, .slice none 0 0, .slice none 0 0] 44) = W1 at O1 O2 Hb Hz ⊢
  obtain ⟨b, eb⟩ : ∃ b, b = w.heap.size := ⟨_, rfl⟩
  rw [← eb] at O1 O2 ⊢
  have Eb := Lib.hid eb
  clear eb
  have bx0 := O1.out.bx
  refine wp_region_held_drew (S := fun W => Bx W b (.slice Pk lk ck) (.int .i64 cnt) (.slice Ps ls cs) (.slice Pn ln cn) (.slice Pm lm cm)) (by kernel_rfl) (show Bx W1.drew b _ _ _ _ _ from bx0) (fun hHeld => ?_)
  refine wpAnyH_take (i := 0) (v := ?va0) rfl (by kernel_rfl) (by kernel_rfl) (by kernel_rfl) (fun _ _ _ h => h) (Or.inl ⟨by rfl, ?ya0⟩) hHeld ?ra0
  case ya0 => (intro W hW; obtain ⟨h0, h1, h2, h3, h4⟩ := hW; go_simp; first | done | with_reducible rfl)
  try simp only [List.getElem_toArray, List.getElem_cons_zero, Act.put, List.setIfInBounds_toArray, List.set_cons_zero, List.set_cons_succ]
  refine wpAnyH_take (i := 1) (v := ?va1) rfl (by kernel_rfl) (by kernel_rfl) (by kernel_rfl) (fun _ _ _ h => h) (Or.inl ⟨by rfl, ?ya1⟩) hHeld ?ra1
  case ya1 => (intro W hW; obtain ⟨h0, h1, h2, h3, h4⟩ := hW; go_simp; first | done | with_reducible rfl)
  try simp only [List.getElem_toArray, List.getElem_cons_succ, List.getElem_cons_zero, Act.put, List.setIfInBounds_toArray, List.set_cons_zero, List.set_cons_succ]
  refine wpAnyH_take (i := 3) (v := ?va3) rfl (by kernel_rfl) (by kernel_rfl) (by kernel_rfl) (fun _ _ _ h => h) (Or.inl ⟨by rfl, ?ya3⟩) hHeld ?ra3
  case ya3 => (intro W hW; obtain ⟨h0, h1, h2, h3, h4⟩ := hW; go_simp; first | done | with_reducible rfl)
  try simp only [List.getElem_toArray, List.getElem_cons_succ, List.getElem_cons_zero, Act.put, List.setIfInBounds_toArray, List.set_cons_zero, List.set_cons_succ]
  refine wpAnyH_take (i := 4) (v := ?va4) rfl (by kernel_rfl) (by kernel_rfl) (by kernel_rfl) (fun _ _ _ h => h) (Or.inl ⟨by rfl, ?ya4⟩) hHeld ?ra4
  case ya4 => (intro W hW; obtain ⟨h0, h1, h2, h3, h4⟩ := hW; go_simp; first | done | with_reducible rfl)
  try simp only [List.getElem_toArray, List.getElem_cons_succ, List.getElem_cons_zero, Act.put, List.setIfInBounds_toArray, List.set_cons_zero, List.set_cons_succ]
  refine wpAnyH_take (i := 5) (v := ?va5) rfl (by kernel_rfl) (by kernel_rfl) (by kernel_rfl) (fun _ _ _ h => h) (Or.inl ⟨by rfl, ?ya5⟩) hHeld ?ra5
  case ya5 => (intro W hW; obtain ⟨h0, h1, h2, h3, h4⟩ := hW; go_simp; first | done | with_reducible rfl)
  try simp only [List.getElem_toArray, List.getElem_cons_succ, List.getElem_cons_zero, Act.put, List.setIfInBounds_toArray, List.set_cons_zero, List.set_cons_succ]
  refine wpAnyH_take (i := 6) (v := ?va6) rfl (by kernel_rfl) (by kernel_rfl) (by kernel_rfl) (fun _ _ _ h => h) (Or.inl ⟨by rfl, ?ya6⟩) hHeld ?ra6
  case ya6 => (intro W hW; obtain ⟨h0, h1, h2, h3, h4⟩ := hW; go_simp; first | done | with_reducible rfl)
  try simp only [List.getElem_toArray, List.getElem_cons_succ, List.getElem_cons_zero, Act.put, List.setIfInBounds_toArray, List.set_cons_zero, List.set_cons_succ]
  refine wpAnyH_take (i := 8) (v := ?va8) rfl (by kernel_rfl) (by kernel_rfl) (by kernel_rfl) (fun _ _ _ h => h) (Or.inl ⟨by rfl, ?ya8⟩) hHeld ?ra8
  case ya8 => (intro W hW; obtain ⟨h0, h1, h2, h3, h4⟩ := hW; go_simp; first | done | with_reducible rfl)
  try simp only [List.getElem_toArray, List.getElem_cons_succ, List.getElem_cons_zero, Act.put, List.setIfInBounds_toArray, List.set_cons_zero, List.set_cons_succ]
  refine wpAnyH_take (i := 9) (v := ?va9) rfl (by kernel_rfl) (by kernel_rfl) (by kernel_rfl) (fun _ _ _ h => h) (Or.inl ⟨by rfl, ?ya9⟩) hHeld ?ra9
  case ya9 => (intro W hW; obtain ⟨h0, h1, h2, h3, h4⟩ := hW; go_simp; first | done | with_reducible rfl)
  try simp only [List.getElem_toArray, List.getElem_cons_succ, List.getElem_cons_zero, Act.put, List.setIfInBounds_toArray, List.set_cons_zero, List.set_cons_succ]
  refine wpAnyH_take (i := 11) (v := ?va11) rfl (by kernel_rfl) (by kernel_rfl) (by kernel_rfl) (fun _ _ _ h => h) (Or.inl ⟨by rfl, ?ya11⟩) hHeld ?ra11
  case ya11 => (intro W hW; obtain ⟨h0, h1, h2, h3, h4⟩ := hW; go_simp; first | done | with_reducible rfl)
  try simp only [List.getElem_toArray, List.getElem_cons_succ, List.getElem_cons_zero, Act.put, List.setIfInBounds_toArray, List.set_cons_zero, List.set_cons_succ]
  refine wpAnyH_take (i := 12) (v := ?va12) rfl (by kernel_rfl) (by kernel_rfl) (by kernel_rfl) (fun _ _ _ h => h) (Or.inl ⟨by rfl, ?ya12⟩) hHeld ?ra12
  case ya12 => (intro W hW; obtain ⟨h0, h1, h2, h3, h4⟩ := hW; go_simp; first | done | with_reducible rfl)
  try simp only [List.getElem_toArray, List.getElem_cons_succ, List.getElem_cons_zero, Act.put, List.setIfInBounds_toArray, List.set_cons_zero, List.set_cons_succ]
  refine wpAnyH_ready (rs := [2]) (by kernel_rfl) (by simp) ?_
  refine AllReadyH.cons rfl (fun K hK => ?_) (AllReadyH.nil)
  go_simp
  refine (clone_any _ x.key W1.drew (Rk.out.keep (show Keeps w W1.drew from (Keeps.of_below Hb.out).drewN 1)) L1.out).mono ?_
  rintro e V1 ⟨v1, rfl, ho1, hb1⟩
  have B1 := Lib.hid ((below_drewN Hb.out 1).trans (hb1.mono Hb.out.size))
  have D1 := Lib.hid (show Below W1.heap.size W1 V1 from (below_drewN (Below.refl _ _) 1).trans hb1)
  have Q1 := Lib.hid (ho1.mono (show w.heap.size ≤ W1.drew.heap.size from Hb.out.size))
  clear ho1 hb1
  go_wp2_with fail
  refine hK.out _ _ (bx0.keep (Keeps.of_below D1.out)) (fun hHeld => ?_)
  clear hK K
  try simp only [List.getElem_toArray, List.getElem_cons_succ, List.getElem_cons_zero, Act.put, List.setIfInBounds_toArray, List.set_cons_zero, List.set_cons_succ]
  refine wpAnyH_ready (rs := [7]) (by kernel_rfl) (by simp) ?_
  refine AllReadyH.cons rfl (fun K hK => ?_) (AllReadyH.nil)
  go_simp
  refine (clone_any _ x.sum V1 (Rs.out.keep (Keeps.of_below B1.out)) L2.out).mono ?_
  rintro e V2 ⟨v2, rfl, ho1, hb1⟩
  have B2 := Lib.hid (B1.out.trans (hb1.mono B1.out.size))
  have D2 := Lib.hid (D1.out.trans (hb1.mono D1.out.size))
  have Q1_ := Lib.hid (Q1.out.below hb1)
  have A12 : Ap v1 v2 := Q1.out.ap ho1 (Nat.le_refl _)
  have Q2 := Lib.hid (ho1.mono (show w.heap.size ≤ V1.heap.size from B1.out.size))
  clear ho1 hb1
  go_wp2_with fail
  refine hK.out _ _ (bx0.keep (Keeps.of_below D2.out)) (fun hHeld => ?_)
  clear hK K
  try simp only [List.getElem_toArray, List.getElem_cons_succ, List.getElem_cons_zero, Act.put, List.setIfInBounds_toArray, List.set_cons_zero, List.set_cons_succ]
  refine wpAnyH_ready (rs := [10]) (by kernel_rfl) (by simp) ?_
  refine AllReadyH.cons rfl (fun K hK => ?_) (AllReadyH.nil)
  go_simp
  refine (clone_any _ x.mn V2 (Rn.out.keep (Keeps.of_below B2.out)) L3.out).mono ?_
  rintro e V3 ⟨v3, rfl, ho1, hb1⟩
  have B3 := Lib.hid (B2.out.trans (hb1.mono B2.out.size))
  have D3 := Lib.hid (D2.out.trans (hb1.mono D2.out.size))
  have Q1__ := Lib.hid (Q1_.out.below hb1)
  have Q2_ := Lib.hid (Q2.out.below hb1)
  have A13 : Ap v1 v3 := Q1_.out.ap ho1 (Nat.le_refl _)
  have A23 : Ap v2 v3 := Q2.out.ap ho1 (Nat.le_refl _)
  have Q3 := Lib.hid (ho1.mono (show w.heap.size ≤ V2.heap.size from B2.out.size))
  clear ho1 hb1
  go_wp2_with fail
  refine hK.out _ _ (bx0.keep (Keeps.of_below D3.out)) (fun hHeld => ?_)
  clear hK K
  try simp only [List.getElem_toArray, List.getElem_cons_succ, List.getElem_cons_zero, Act.put, List.setIfInBounds_toArray, List.set_cons_zero, List.set_cons_succ]
  refine wpAnyH_ready (rs := [13]) (by kernel_rfl) (by simp) ?_
  refine AllReadyH.cons rfl (fun K hK => ?_) (AllReadyH.nil)
  go_simp
  refine (clone_any _ x.mx V3 (Rm.out.keep (Keeps.of_below B3.out)) L4.out).mono ?_
  rintro e V4 ⟨v4, rfl, ho1, hb1⟩
  have B4 := Lib.hid (B3.out.trans (hb1.mono B3.out.size))
  have D4 := Lib.hid (D3.out.trans (hb1.mono D3.out.size))
  have Q1___ := Lib.hid (Q1__.out.below hb1)
  have Q2__ := Lib.hid (Q2_.out.below hb1)
  have Q3_ := Lib.hid (Q3.out.below hb1)
  have A14 : Ap v1 v4 := Q1__.out.ap ho1 (Nat.le_refl _)
  have A24 : Ap v2 v4 := Q2_.out.ap ho1 (Nat.le_refl _)
  have A34 : Ap v3 v4 := Q3.out.ap ho1 (Nat.le_refl _)
  have Q4 := Lib.hid (ho1.mono (show w.heap.size ≤ V3.heap.size from B3.out.size))
  clear ho1 hb1
  go_wp2_with fail
  refine hK.out _ _ (bx0.keep (Keeps.of_below D4.out)) (fun hHeld => ?_)
  clear hK K
  try simp only [List.getElem_toArray, List.getElem_cons_succ, List.getElem_cons_zero, Act.put, List.setIfInBounds_toArray, List.set_cons_zero, List.set_cons_succ]
  obtain ⟨P1, c1, e1, -⟩ := Q1___.out.form
  obtain ⟨P2, c2, e2, -⟩ := Q2__.out.form
  obtain ⟨P3, c3, e3, -⟩ := Q3_.out.form
  obtain ⟨P4, c4, e4, -⟩ := Q4.out.form
  subst e1 e2 e3 e4
  have HAp := Lib.hid (show Ap4 _ _ _ _ from ⟨A12, A13, A14, A23, A24, A34⟩)
  clear A12 A13 A14 A23 A24 A34
  have o4 := O2.out.below D4.out (by have := Hz.out; have := Eb.out; omega)
  have z0 := o4.cell (i := 0) rfl
  have z1 := o4.cell (i := 1) rfl
  have z2 := o4.cell (i := 2) rfl
  have z3 := o4.cell (i := 3) rfl
  have z4 := o4.cell (i := 4) rfl
  have zf := o4.frozen
  have O4 := Lib.hid o4
  clear o4
  obtain ⟨W5, hW5⟩ : ∃ W5, W5 = put5 V4 (b + 1) (.slice P1 x.key.length c1) (.int .i64 cnt) (.slice P2 x.sum.length c2) (.slice P3 x.mn.length c3) (.slice P4 x.mx.length c4) := ⟨_, rfl⟩
  have o5 : Own 44 W5 (b + 1) [.slice P1 x.key.length c1, .int .i64 cnt, .slice P2 x.sum.length c2, .slice P3 x.mn.length c3, .slice P4 x.mx.length c4] := hW5 ▸ put5_own O4.out
  have on5 : Only (b + 1) V4 W5 := hW5 ▸ put5_only
  have hfin : CO w.heap.size W5 (.slice P1 x.key.length c1) (.slice P2 x.sum.length c2) (.slice P3 x.mn.length c3) (.slice P4 x.mx.length c4) x := (show CO w.heap.size V4 _ _ _ _ x from ⟨Q1___.out, Q2__.out, Q3_.out, Q4.out⟩).only on5 O4.out (by decide)
  have hbf : Below w.heap.size w W5 := B4.out.trans (on5.below (by have := Eb.out; omega) B4.out.size)
  have hbx5 : Bx W5 b (.slice Pk lk ck) (.int .i64 cnt) (.slice Ps ls cs) (.slice Pn ln cn) (.slice Pm lm cm) := (bx0.keep (Keeps.of_below D4.out)).only on5 (by omega) (by have := D4.out.size; have := Hz.out; have := Eb.out; omega)
  have HW5 := Lib.hid hW5
  have Hfin := Lib.hid hfin
  have Hbf := Lib.hid hbf
  have Hbx5 := Lib.hid hbx5
  have r0 := o5.cell (i := 0) rfl
  have r1 := o5.cell (i := 1) rfl
  have r2 := o5.cell (i := 2) rfl
  have r3 := o5.cell (i := 3) rfl
  have r4 := o5.cell (i := 4) rfl
  clear hW5 o5 on5 hfin hbf hbx5
  refine wpAnyH_take (i := 14) (v := ?va14) rfl (by kernel_rfl) (by kernel_rfl) (by kernel_rfl) (fun _ _ _ h => h) (Or.inl ⟨by rfl, ?ya14⟩) hHeld ?ra14
  case ya14 => (intro W hW; go_simp; first | done | with_reducible rfl)
  try simp only [List.getElem_toArray, List.getElem_cons_succ, List.getElem_cons_zero, Act.put, List.setIfInBounds_toArray, List.set_cons_zero, List.set_cons_succ]
  refine wpAnyH_ready (rs := [15]) (by kernel_rfl) (by simp) ?_
  refine AllReadyH.cons rfl (fun K hK => ?_) (AllReadyH.nil)
  go_simp
  have e5 := HW5.out
  unfold put5 at e5
  rw [← e5]
  clear e5
  refine hK.out _ _ (Hbx5.out) (fun hHeld => ?_)
  clear hK K
  try simp only [List.getElem_toArray, List.getElem_cons_succ, List.getElem_cons_zero, Act.put, List.setIfInBounds_toArray, List.set_cons_zero, List.set_cons_succ]
  refine wpAnyH_done (by kernel_rfl) ?_ _
  go_wp2
  exact bodyPost_ret (v := .agg #[.slice P1 x.key.length c1, .int .i64 cnt, .slice P2 x.sum.length c2, .slice P3 x.mn.length c3, .slice P4 x.mx.length c4]) (by simp [results, Try.results68, go_sem, r0, r1, r2, r3, r4]) rfl ⟨_, _, _, _, rfl, Hfin.out, HAp.out, Hbf.out⟩
end Go.Proofs.Ytmolfcccfekcpaa
