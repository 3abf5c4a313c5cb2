/- Package match's restsOf. -/
import Derived.Test.YtjllmladhjbnaaaDoorMat3
namespace Go.Proofs.YtjllmladhjbnaaaDoor
open Go.RowKit Go.Shelf
attribute [local go_sem] Oper.semAt_some
/-- What is filled from t on. -/
def fillL (M : List (List Int)) (N t : Nat) : List Int := (List.range N).map fun s => if s < t then 0 else restV M s
theorem fillL_len (M : List (List Int)) (N t : Nat) : (fillL M N t).length = N := by simp [fillL]
theorem fillL_at (M : List (List Int)) {N t s : Nat} (h : s < N) (ht : t ≤ s) : (fillL M N t)[s]? = some (restV M s) := by
  unfold fillL
  rw [List.getElem?_map, List.getElem?_range h]
  simp; omega
theorem fillL_set (M : List (List Int)) {N s : Nat} : (fillL M N (s + 1)).set s (restV M s) = fillL M N s := by
  apply List.ext_getElem
  · simp [fillL]
  · intro i h1 h2
    simp only [fillL, List.getElem_set, List.getElem_map, List.getElem_range]
    by_cases h : s = i
    · subst h; simp
    · by_cases h3 : i < s
      · rw [if_neg h, if_pos (by omega), if_pos h3]
      · rw [if_neg h, if_neg (by omega), if_neg h3]
theorem fillL_skip (M : List (List Int)) {N s : Nat} (h : restV M s = 0) : fillL M N (s + 1) = fillL M N s := by
  unfold fillL
  apply List.map_congr_left
  intro i _
  by_cases h1 : i < s
  · rw [if_pos (by omega), if_pos h1]
  · by_cases h2 : i = s
    · subst h2; rw [if_pos (by omega), if_neg (by omega), h]
    · rw [if_neg (by omega), if_neg h1]
theorem fillL_all (M : List (List Int)) (N : Nat) : fillL M N N = List.replicate N 0 := by
  apply List.ext_getElem
  · simp [fillL]
  · intro i h1 h2
    simp only [fillL, List.getElem_map, List.getElem_range, List.getElem_replicate]
    rw [if_pos (by simpa [fillL] using h1)]
theorem fillL_zero (M : List (List Int)) {N t s : Nat} (h : s < N) (ht : s < t) : (fillL M N t)[s]? = some 0 := by
  unfold fillL
  rw [List.getElem?_map, List.getElem?_range h]
  simp; omega
theorem box3 (w : World) (t1 t2 t3 : TypeId) (v1 v2 v3 : Value) : (((w.alloc (.cells #[v1] t1)).alloc (.cells #[v2] t2)).alloc (.cells #[v3] t3)).cell? ⟨w.heap.size, 0, none⟩ = some v1 ∧
    (((w.alloc (.cells #[v1] t1)).alloc (.cells #[v2] t2)).alloc (.cells #[v3] t3)).cell? ⟨w.heap.size + 1, 0, none⟩ = some v2 ∧ (((w.alloc (.cells #[v1] t1)).alloc (.cells #[v2] t2)).alloc (.cells #[v3] t3)).cell? ⟨w.heap.size + 2, 0, none⟩ = some v3 := by
  refine ⟨(((Boxed.new w t1 v1).alloc _).alloc _).cell, ?_, ?_⟩
  · have := ((Boxed.new (w.alloc (.cells #[v1] t1)) t2 v2).alloc (.cells #[v3] t3)).cell
    rwa [World.size_alloc] at this
  · have := (Boxed.new ((w.alloc (.cells #[v1] t1)).alloc (.cells #[v2] t2)) t3 v3).cell
    rwa [World.size_alloc, World.size_alloc] at this
/-- The rests of all sets of columns. -/
def restL (M : List (List Int)) : List Int := fillL M (2 ^ wid M) 0
/-- Costs that may be, as numbers. -/
theorem okM_spec {M : List (List Int)} (h : okM M = true) : wid M ≤ 12 ∧ M.length ≤ wid M ∧ ∀ r ∈ M, r.length = wid M ∧ ∀ x ∈ r, 0 ≤ x ∧ x ≤ 1000000 := by
  unfold okM at h
  simp only [Bool.and_eq_true, decide_eq_true_eq, List.all_eq_true] at h
  obtain ⟨h1, h2, h3⟩ := h
  refine ⟨h1, h2, fun r hr => ?_⟩
  have := h3 r hr
  unfold okRow at this
  simp only [Bool.and_eq_true, decide_eq_true_eq, List.all_eq_true] at this
  refine ⟨this.1, fun x hx => ?_⟩
  have := this.2 x hx
  unfold okC at this
  simpa using this
theorem or_gt {s k m : Nat} (h : k ∈ free m s) (hs : s < 2 ^ m) : s < s ||| 2 ^ k ∧ s ||| 2 ^ k < 2 ^ m := by
  obtain ⟨h1, h2⟩ := mem_free.1 h
  refine ⟨?_, Nat.or_lt_two_pow hs (Nat.pow_lt_pow_right (by omega) h1)⟩
  have a : s ≤ s ||| 2 ^ k := Nat.left_le_or
  have b : s ≠ s ||| 2 ^ k := fun e => by
    have := or_bit s k k
    rw [← e, h2] at this
    simp at this
  omega
theorem pcN_le (s : Nat) : pcN s ≤ 12 := by
  unfold pcN
  exact Nat.le_trans List.countP_le_length (by simp)
end Go.Proofs.YtjllmladhjbnaaaDoor
