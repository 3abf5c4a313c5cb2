/- What each law of cells asks first: 'known'. -/
import Derived.Test.YtbkcclmhgnplcaaDoorCelb
namespace Go.Proofs.YtbkcclmhgnplcaaDoor
open Go.RowKit
theorem nil_ri (w : World) : RI w (.slice none 0 0) [] := ⟨none, 0, rfl, ⟨rfl, fun x h => (by cases h), fun h => (by simp at h)⟩, Nat.le_refl _, by simp [maxLen], fun _ => rfl⟩
theorem row_ri (W : World) (b : Nat) (xs : List Int) (T : TypeId) (hx : ∀ x ∈ xs, inK .i64 x) (h : W.heap[b]? = some (.cells (ints xs).toArray T (0, 0))) (hl : xs.length ≤ 1000000) : RI W (.slice (some ⟨b, 0, none⟩) xs.length xs.length) xs := by
  refine ⟨_, _, rfl, ⟨rfl, hx, fun hn => ⟨_, rfl, fun j x hj => ?_⟩⟩, Nat.le_refl _, by simp [maxLen]; omega, fun e => by cases e⟩
  rw [add0, cell_of_row W b j _ T (0, 0) h]
  simp [ints, hj]
/-- The chapter's cell, and two of it. -/
def kx : Cel := ⟨[5], 1, [3], [3], [3]⟩
theorem kx_of : (⟨ofKey [4, 5] 2, 1, [3], [3], [3]⟩ : Cel) = kx := by unfold kx; congr 1
theorem kx_two : joinAll [kx, kx] = ⟨[5], 2, [6], [3], [3]⟩ := by unfold kx joinAll; simp [join2, addL, minL, maxL, wrap64]
set_option maxRecDepth 100000 in
set_option maxHeartbeats 2000000 in
theorem known_any (w : World) (hT : Tab w) (_hw1 : 1 < w.heap.size) :
    Calls Tryd.prog 16 #[] w fun e w' => e = .returned (.bool true) ∧ Below w.heap.size w w' := by
  have hB : Below w.heap.size w ((w.alloc (.cells #[.int .i64 4, .int .i64 5] 3)).alloc (.cells #[.int .i64 3] 3)) := ((Below.refl _ w).alloc (Nat.le_refl _) _).alloc (by simp) _
  have hK : RI ((w.alloc (.cells #[.int .i64 4, .int .i64 5] 3)).alloc (.cells #[.int .i64 3] 3)) (.slice (some ⟨w.heap.size, 0, none⟩) 2 2) [4, 5] :=
    row_ri _ w.heap.size [4, 5] 3 (by simp [inK]) ((Below.heap_alloc _ _ _ (by simp)).trans (heap_alloc_new w _)) (by decide)
  have hM : RI ((w.alloc (.cells #[.int .i64 4, .int .i64 5] 3)).alloc (.cells #[.int .i64 3] 3)) (.slice (some ⟨w.heap.size + 1, 0, none⟩) 1 1) [3] := by
    have h := heap_alloc_new (w.alloc (.cells #[.int .i64 4, .int .i64 5] 3)) (.cells #[.int .i64 3] 3)
    rw [show (w.alloc (.cells #[.int .i64 4, .int .i64 5] 3)).heap.size = w.heap.size + 1 from by simp] at h
    exact row_ri _ (w.heap.size + 1) [3] 3 (by simp [inK]) h (by decide)
  have hOf := of_any _ _ [4, 5] [3] 2 2 _ rfl hK hM (by decide) (by decide) (by decide) (by decide) (hT.keep (Keeps.of_below hB)) (by simp)
  rw [kx_of] at hOf
  have HOf := Lib.hid hOf
  have HB := Lib.hid hB
  clear hB hK hM hOf hT
  go_enter Tryd.func16, Tryd.ntmps16
  go_wp2_with fail
  refine HOf.out.mono ?_
  rintro e w1 ⟨k, s, n, m, rfl, hco, hb1⟩
  have hB1 : Below w.heap.size w w1 := HB.out.trans (hb1.mono (by simp; omega))
  obtain ⟨Pk, ck, f1, -⟩ := hco.key.form
  obtain ⟨Ps, cs, f2, -⟩ := hco.sum.form
  obtain ⟨Pn, cn, f3, -⟩ := hco.mn.form
  obtain ⟨Pm, cm, f4, -⟩ := hco.mx.form
  replace f1 : k = .slice Pk 1 ck := f1
  replace f2 : s = .slice Ps 1 cs := f2
  replace f3 : n = .slice Pn 1 cn := f3
  replace f4 : m = .slice Pm 1 cm := f4
  subst f1 f2 f3 f4
  have ho1 : Own 33 (w1.alloc (.cells #[.slice Pk 1 ck, .int .i64 1, .slice Ps 1 cs, .slice Pn 1 cn, .slice Pm 1 cm] 33)) w1.heap.size [.slice Pk 1 ck, .int .i64 1, .slice Ps 1 cs, .slice Pn 1 cn, .slice Pm 1 cm] := heap_alloc_new w1 _
  have hb2 : Below w1.heap.size w1 ((w1.alloc (.cells #[.slice Pk 1 ck, .int .i64 1, .slice Ps 1 cs, .slice Pn 1 cn, .slice Pm 1 cm] 33)).alloc (.cells #[.slice Pk 1 ck, .int .i64 1, .slice Ps 1 cs, .slice Pn 1 cn, .slice Pm 1 cm, .slice Pk 1 ck, .int .i64 1, .slice Ps 1 cs, .slice Pn 1 cn, .slice Pm 1 cm] 33)) := ((Below.refl _ w1).alloc (Nat.le_refl _) _).alloc (by simp) _
  have hrow := heap_alloc_new (w1.alloc (.cells #[.slice Pk 1 ck, .int .i64 1, .slice Ps 1 cs, .slice Pn 1 cn, .slice Pm 1 cm] 33)) (.cells #[.slice Pk 1 ck, .int .i64 1, .slice Ps 1 cs, .slice Pn 1 cn, .slice Pm 1 cm, .slice Pk 1 ck, .int .i64 1, .slice Ps 1 cs, .slice Pn 1 cn, .slice Pm 1 cm] 33)
  rw [show (w1.alloc (.cells #[.slice Pk 1 ck, .int .i64 1, .slice Ps 1 cs, .slice Pn 1 cn, .slice Pm 1 cm] 33)).heap.size = w1.heap.size + 1 from by simp] at hrow
  have Hco := Lib.hid hco
  have HB1 := Lib.hid hB1
  have Ho1 := Lib.hid ho1
  have Hb2 := Lib.hid hb2
  have Hrow := Lib.hid hrow
  have q0 := ho1.cell (i := 0) rfl
  have q1 := ho1.cell (i := 1) rfl
  have q2 := ho1.cell (i := 2) rfl
  have q3 := ho1.cell (i := 3) rfl
  have q4 := ho1.cell (i := 4) rfl
  clear hco hB1 ho1 hb2 hrow hb1 HOf HB
  go_wp2_with fail
  generalize hW3 : (w1.alloc (.cells #[.slice Pk 1 ck, .int .i64 1, .slice Ps 1 cs, .slice Pn 1 cn, .slice Pm 1 cm] 33)).alloc (.cells #[.slice Pk 1 ck, .int .i64 1, .slice Ps 1 cs, .slice Pn 1 cn, .slice Pm 1 cm, .slice Pk 1 ck, .int .i64 1, .slice Ps 1 cs, .slice Pn 1 cn, .slice Pm 1 cm] 33) = W3 at Hb2 Hrow ⊢
  have ho3 : Own 33 W3 w1.heap.size [.slice Pk 1 ck, .int .i64 1, .slice Ps 1 cs, .slice Pn 1 cn, .slice Pm 1 cm] := hW3 ▸ (Ho1.out.alloc _)
  have hk3 := Keeps.of_below Hb2.out
  have hvals : ReadsL W3 [⟨.slice Pk 1 ck, .int .i64 1, .slice Ps 1 cs, .slice Pn 1 cn, .slice Pm 1 cm⟩, ⟨.slice Pk 1 ck, .int .i64 1, .slice Ps 1 cs, .slice Pn 1 cn, .slice Pm 1 cm⟩] [kx, kx] := by
    have one : Reads W3 ⟨.slice Pk 1 ck, .int .i64 1, .slice Ps 1 cs, .slice Pn 1 cn, .slice Pm 1 cm⟩ kx := ⟨rfl, Hco.out.cr.keep hk3, by unfold kx; simp [inK]⟩
    refine ⟨rfl, fun i v x hv hx => ?_⟩
    match i with
    | 0 => simp at hv hx; subst hv hx; exact one
    | 1 => simp at hv hx; subst hv hx; exact one
    | i + 2 => simp at hv
  have hcl : CellsR W3 ⟨w1.heap.size + 1, 0, none⟩ [kx, kx] := cells_of_vals hvals fun j u hu => by
    rw [add0, cell_of_row W3 (w1.heap.size + 1) j _ 33 (0, 0) Hrow.out]
    simpa [flatV, V5.l] using hu
  have hgrp := group_any ⟨w1.heap.size + 1, 0, none⟩ 2 2 kx [kx] [5] 1 W3 hcl (by intro x hx; simp at hx; subst hx; exact ⟨rfl, rfl, rfl⟩) (by intro x hx; simp at hx; subst hx; rfl) (by simp) (by omega) rfl (by omega)
  rw [kx_two] at hgrp
  refine hgrp.mono ?_
  rintro e w4 ⟨v, k2, s2, n2, m2, rfl, ⟨hr4, hc4⟩, hb4⟩
  obtain ⟨gk, ck', e1, u1⟩ := Hco.out.key.block 0 (by decide)
  injection e1 with e1 j1 j2
  clear j1 j2
  subst e1
  have hb34 := (Keeps.of_below hb4)
  have p0 := hb34 _ _ (ho3.cell (i := 0) rfl)
  have p1 := hb34 _ _ (ho3.cell (i := 1) rfl)
  have pk := hb34 _ _ (hk3 _ _ (u1 0 5 rfl))
  obtain ⟨Pv, cv, e2, _, _, hv⟩ := own_form hr4
  obtain ⟨gv, rfl, _, hv⟩ := hv (by omega)
  subst e2
  have v1 := hv 1 _ rfl
  obtain ⟨gs, cs2, e3, u2⟩ := hc4.sum.block 0 (by decide)
  replace e3 : s2 = .slice (some ⟨gs, 0, none⟩) 1 cs2 := e3
  subst e3
  have v2 := hv 2 _ rfl
  have v3 := u2 0 6 rfl
  have hbf : Below w.heap.size w w4 := HB1.out.trans ((Hb2.out.trans (hb4.mono Hb2.out.size)).mono HB1.out.size)
  have hless := less_any (.slice none 0 0) (.slice none 0 0) [] [] w4 (nil_ri w4) (nil_ri w4) (by simp) (by simp)
  have Hless := Lib.hid hless
  have Hbf := Lib.hid hbf
  clear hb34 hr4 hc4 u1 u2 hbf hless hb4 hgrp hcl hvals hk3 ho3 Hb2 Hrow hW3
  go_wp2_with fail
  refine Hless.out.mono ?_
  rintro e w' ⟨rfl, rfl⟩
  rw [cmpL_self]
  go_wp2
  go_ret
  exact ⟨rfl, Hbf.out⟩
end Go.Proofs.YtbkcclmhgnplcaaDoor
