/- What each law of match calls first. -/
import Derived.Test.YtnjalnnbdmmcmaaMat7
namespace Go.Proofs.Ytnjalnnbdmmcmaa
open Go.RowKit Go.Shelf
attribute [local go_sem] Oper.semAt_some
set_option maxHeartbeats 400000 in
theorem mwithin (a n : Int) (w : World) (ha : inK .i64 a) (hn : 1 ≤ n) (hn2 : n ≤ 4611686018427387904) :
    Calls Try.prog 5 #[.int .i64 a, .int .i64 n] w fun e w' => e = .returned (.int .i64 (a % n)) ∧ w = w' := by
  obtain ⟨ha1, ha2⟩ := ha
  by_cases h : 0 ≤ a
  · have h1 := Int.emod_nonneg a (show n ≠ 0 by omega)
    go_enter Try.func5, Try.ntmps5
    go_wp2
    go_ret
    exact ⟨rfl, rfl⟩
  · have h1 := Int.emod_nonneg a (show n ≠ 0 by omega)
    have h2 := Int.emod_lt_of_pos a (show 0 < n by omega)
    have h3 := Int.tmod_eq_emod (a := a) (b := n)
    have h4 : a.tmod n = a % n ∨ a.tmod n = a % n - n := by
      rw [h3]
      split
      · simp
      · right; omega
    by_cases h5 : a.tmod n < 0
    · have e : a.tmod n + n = a % n := by omega
      have h6 : -n ≤ a.tmod n := by omega
      have E := Lib.hid e
      clear e h3 h4 h1 h2
      go_enter Try.func5, Try.ntmps5
      go_wp2
      go_ret
      exact ⟨ret_int E.out, rfl⟩
    · have e : a.tmod n = a % n := by omega
      have E := Lib.hid e
      clear e h3 h4 h1 h2
      go_enter Try.func5, Try.ntmps5
      go_wp2
      go_ret
      exact ⟨ret_int E.out, rfl⟩
theorem kn1 : toL [[7]] = [0] ∧ totL [[7]] = 7 ∧ okM [[7]] = true := by decide +kernel
theorem kn2 : toL [[1, 5], [1, 9]] = [1, 0] ∧ totL [[1, 5], [1, 9]] = 6 ∧ okM [[1, 5], [1, 9]] = true := by decide +kernel
theorem nums_box (w : World) (T : TypeId) (xs : List Int) (h : ∀ x ∈ xs, inK .i64 x) : Nums .i64 (w.alloc (.cells (xs.map (Value.int .i64)).toArray T)) (some ⟨w.heap.size, 0, none⟩) xs.length xs := by
  have h1 : Arr .i64 T (w.alloc (.cells (xs.map (Value.int .i64)).toArray T)) w.heap.size xs := World.alloc_heap_new w _
  exact h1.nums h
/-- A literal of rows. -/
theorem mat_lit (W : World) (T : TypeId) (vals : List Value) (M : List (List Int)) (n : Nat) (hl : M.length = n) (h : ∀ (j : Nat) (r : List Int), M[j]? = some r → ∃ B c, vals[j]? = some (Value.slice B r.length c) ∧ Nums .i64 W B r.length r) :
    Mat (W.alloc (.cells vals.toArray T)) (some ⟨W.heap.size, 0, none⟩) n M := by
  have h1 : Own T (W.alloc (.cells vals.toArray T)) W.heap.size vals := World.alloc_heap_new W _
  refine ⟨hl, fun _ => ⟨_, rfl, fun j r hr => ?_⟩⟩
  obtain ⟨B, c, a, b⟩ := h j r hr
  rw [add0]
  exact ⟨B, c, h1.cell a, b.keep (Keeps.of_below ((Below.refl _ W).alloc (Nat.le_refl _) _))⟩
set_option maxRecDepth 100000 in
set_option maxHeartbeats 4000000 in
theorem known9_any (w : World) : Calls Try.prog 4 #[] w fun e w' => e = .returned (.bool true) ∧ Below w.heap.size w w' := by
  obtain ⟨a1, a2, a3⟩ := kn1
  obtain ⟨b1, b2, b3⟩ := kn2
  have n7 := nums_box w 3 [7] (by intro x hx; simp at hx; subst hx; constructor <;> omega)
  have hm1 := mat_lit (w.alloc (.cells #[.int .i64 7] 3)) 22 [.slice (some ⟨w.heap.size, 0, none⟩) 1 1] [[7]] 1 rfl (fun j r hr => by
    rcases j with _ | j
    · simp at hr; subst hr; exact ⟨_, 1, rfl, n7⟩
    · simp at hr)
  rw [World.size_alloc] at hm1
  have hA := assign_any _ 1 1 [[7]] _ hm1 (by omega) (by intro r hr; simp at hr; subst hr; simp)
  rw [a1, a2, a3] at hA
  have hB1 : Below w.heap.size w ((w.alloc (.cells #[.int .i64 7] 3)).alloc (.cells #[.slice (some ⟨w.heap.size, 0, none⟩) 1 1] 22)) := ((Below.refl _ w).alloc (Nat.le_refl _) _).alloc (by simp) _
  have HA := Lib.hid hA
  have HB1 := Lib.hid hB1
  clear a1 a2 a3 n7 hm1 hA hB1
  go_enter Try.func4, Try.ntmps4
  go_wp2_with fail
  refine HA.out.mono ?_
  rintro e w1 ⟨v, rfl, ho, hb1⟩
  have HO := Lib.hid ho
  have hb2 := HB1.out.trans (hb1.mono HB1.out.size)
  have HB2 := Lib.hid hb2
  have hz := hb2.size
  obtain ⟨P, c, rfl, -, -, hn, -⟩ := ho.form
  clear hb1 hb2 HB1 HA ho
  have m1 := nums_box w1 3 [1, 5] (by intro x hx; simp at hx; rcases hx with rfl | rfl <;> constructor <;> omega)
  have m2 := nums_box (w1.alloc (.cells #[.int .i64 1, .int .i64 5] 3)) 3 [1, 9] (by intro x hx; simp at hx; rcases hx with rfl | rfl <;> constructor <;> omega)
  rw [World.size_alloc] at m2
  have kk := Keeps.of_below ((Below.refl _ (w1.alloc (.cells #[.int .i64 1, .int .i64 5] 3))).alloc (Nat.le_refl _) (.cells #[.int .i64 1, .int .i64 9] 3))
  have hm2 := mat_lit ((w1.alloc (.cells #[.int .i64 1, .int .i64 5] 3)).alloc (.cells #[.int .i64 1, .int .i64 9] 3)) 22 [.slice (some ⟨w1.heap.size, 0, none⟩) 2 2, .slice (some ⟨w1.heap.size + 1, 0, none⟩) 2 2] [[1, 5], [1, 9]] 2 rfl (fun j r hr => by
    rcases j with _ | j
    · simp at hr; subst hr; exact ⟨_, 2, rfl, m1.keep kk⟩
    · rcases j with _ | j
      · simp at hr; subst hr; exact ⟨_, 2, rfl, m2⟩
      · simp at hr)
  rw [World.size_alloc, World.size_alloc] at hm2
  have hA := assign_any _ 2 2 [[1, 5], [1, 9]] _ hm2 (by omega) (by intro r hr; simp at hr; rcases hr with rfl | rfl <;> simp)
  rw [b1, b2, b3] at hA
  have hB1 : Below w1.heap.size w1 (((w1.alloc (.cells #[.int .i64 1, .int .i64 5] 3)).alloc (.cells #[.int .i64 1, .int .i64 9] 3)).alloc (.cells #[.slice (some ⟨w1.heap.size, 0, none⟩) 2 2, .slice (some ⟨w1.heap.size + 1, 0, none⟩) 2 2] 22)) := (((Below.refl _ w1).alloc (Nat.le_refl _) _).alloc (by simp) _).alloc (by simp; omega) _
  have HA := Lib.hid hA
  have HB1 := Lib.hid hB1
  have HN := Lib.hid hn
  clear b1 b2 b3 m1 m2 hm2 hA hB1 kk hn
  go_wp2_with fail
  refine HA.out.mono ?_
  rintro e w2 ⟨v, rfl, ho, hb1⟩
  have hb3 := HB1.out.trans (hb1.mono HB1.out.size)
  have HB3 := Lib.hid (HB2.out.trans (hb3.mono hz))
  obtain ⟨P2, c2, rfl, -, -, hn2, -⟩ := ho.form
  have hn := HN.out.keep (Keeps.of_below hb3)
  obtain ⟨ad, e1, hc⟩ := hn.2.2 (by simp)
  obtain ⟨ad2, e2, hc2⟩ := hn2.2.2 (by simp)
  subst e1
  subst e2
  have q1 := hc 0 0 rfl
  have q2 := hc2 0 1 rfl
  rw [show ad.add 0 = ad from by simp [Addr.add]] at q1
  rw [show ad2.add 0 = ad2 from by simp [Addr.add]] at q2
  simp only [List.length_cons, List.length_nil]
  clear hb1 hb3 hn hn2 hc hc2 ho HO HN HA HB1
  go_wp2
  go_ret
  exact ⟨rfl, HB3.out⟩
end Go.Proofs.Ytnjalnnbdmmcmaa
