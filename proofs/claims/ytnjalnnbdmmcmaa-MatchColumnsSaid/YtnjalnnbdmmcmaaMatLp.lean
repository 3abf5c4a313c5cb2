/- What the laws of match know of choices. -/
import Derived.Test.YtnjalnnbdmmcmaaMat7
namespace Go.Proofs.Ytnjalnnbdmmcmaa
open Go.RowKit Go.Shelf
theorem free_zero (m : Nat) : (free m 0).length = m := by
  unfold free
  rw [List.filter_eq_self.2 (by simp)]
  simp
theorem room_ok {M : List (List Int)} (h : okM M = true) : Room M (wid M) 0 := by
  obtain ⟨h1, h2, h3⟩ := okM_spec h
  exact ⟨fun r hr => (h3 r hr).1, by rw [free_zero]; exact h2⟩
theorem toL_ok {M : List (List Int)} (h : okM M = true) : toL M = (fst1 M 0).map fun (k : Nat) => (k : Int) := by unfold toL; rw [if_pos h]
theorem totL_ok {M : List (List Int)} (h : okM M = true) : totL M = restR M 0 := by unfold totL; rw [if_pos h]
theorem toL_len {M : List (List Int)} (h : okM M = true) : (toL M).length = M.length := by
  rw [toL_ok h, List.length_map]
  exact (fst1_ok M _ 0 (room_ok h)).1.len
theorem toL_le (M : List (List Int)) : (toL M).length ≤ 12 := by
  cases h : okM M with
  | true =>
    rw [toL_len h]
    obtain ⟨h1, h2, _⟩ := okM_spec h
    omega
  | false => unfold toL; rw [h]; simp
/-- Each row's column, and that they are apart. -/
theorem fst1_spec {M : List (List Int)} (h : okM M = true) : (fst1 M 0).length = M.length ∧ (fst1 M 0).Nodup ∧ ∀ k ∈ fst1 M 0, k < wid M := by
  obtain ⟨h1, h2, h3⟩ := (Ok_iff M (wid M) 0 (fst1 M 0) (room_ok h).1).1 (fst1_ok M _ 0 (room_ok h)).1
  exact ⟨h1, h2, fun k hk => (h3 k hk).1⟩
/-- A choice by numbers. -/
theorem Ok_of {M : List (List Int)} {m : Nat} {c : List Nat} (hM : ∀ r ∈ M, r.length = m) (hl : c.length = M.length) (hn : c.Nodup) (hc : ∀ k ∈ c, k < m) : Ok M 0 c :=
  (Ok_iff M m 0 c hM).2 ⟨hl, hn, fun k hk => ⟨hc k hk, by simp⟩⟩
/-- Rows of one length, of numbers in bounds, may be costs. -/
theorem okM_of {M : List (List Int)} {m : Nat} (hm : m ≤ 12) (hl : M.length ≤ m) (h : ∀ r ∈ M, r.length = m ∧ ∀ x ∈ r, 0 ≤ x ∧ x ≤ 1000000) : okM M = true := by
  unfold okM okRow okC
  simp only [Bool.and_eq_true, decide_eq_true_eq, List.all_eq_true]
  cases M with
  | nil => exact ⟨by decide, by decide, by simp⟩
  | cons r t =>
    have hw : wid (r :: t) = m := (h r (List.mem_cons_self ..)).1
    rw [hw]
    exact ⟨hm, hl, fun r hr => h r hr⟩
end Go.Proofs.Ytnjalnnbdmmcmaa
