/- What stands ahead of the rows, byte by byte. No Go text. -/
import Derived.Test.YtnabmbnfmnpcoaaBack
namespace Go.Proofs.Ytnabmbnfmnpcoaa
open Go.RowKit
theorem pad_take {xs : List Int} {k : Nat} (h : k ≤ xs.length) (hk : k ≤ 12) : (pad xs).take k = xs.take k := by
  unfold pad spl
  simp only [List.take_zero, List.nil_append]
  rw [List.take_append_of_le_length (by simp; omega), List.take_take, Nat.min_eq_left hk]
theorem pad_at {xs : List Int} {i : Nat} {x : Int} (h : xs[i]? = some x) (hi : i < 12) : (pad xs)[i]? = some x := by
  have hl : i < xs.length := (List.getElem?_eq_some_iff.1 h).1
  have := congrArg (fun l => l[i]?) (pad_take (xs := xs) (k := i + 1) (by omega) (by omega))
  simp only [List.getElem?_take, show i < i + 1 from by omega, if_true] at this
  rw [this, h]
theorem one_at {l : List Int} {i : Nat} {x : Int} (h : l[i]? = some x) : beVal ((l.drop i).take 1) = x := by
  have hl : i < l.length := (List.getElem?_eq_some_iff.1 h).1
  rw [List.drop_eq_getElem_cons hl]
  obtain ⟨_, h2⟩ := List.getElem?_eq_some_iff.1 h
  simp [beVal, h2]
theorem two_at {l : List Int} {i : Nat} {x y : Int} (h : l[i]? = some x) (h2 : l[i + 1]? = some y) : beVal ((l.drop i).take 2) = x * 256 + y := by
  have hl : i < l.length := (List.getElem?_eq_some_iff.1 h).1
  have hl2 : i + 1 < l.length := (List.getElem?_eq_some_iff.1 h2).1
  rw [List.drop_eq_getElem_cons hl, List.drop_eq_getElem_cons hl2]
  obtain ⟨_, e1⟩ := List.getElem?_eq_some_iff.1 h
  obtain ⟨_, e2⟩ := List.getElem?_eq_some_iff.1 h2
  simp [beVal, e1, e2]
theorem hDims_at {xs : List Int} {d : Nat} (h : xs[4]? = some (d : Int)) : hDims xs = d := by
  rw [hDims, one_at (pad_at h (by omega))]
  simp
theorem hMeas_at {xs : List Int} {d : Nat} {x : Int} (hd : hDims xs = d) (h4 : d ≤ 4) (h : xs[5 + d]? = some x) : hMeas xs = x := by
  rw [hMeas, hd, List.drop_drop, List.drop_drop, one_at (i := 4 + (1 + d))]
  exact pad_at (by rw [show 4 + (1 + d) = 5 + d from by omega]; exact h) (by omega)
theorem hRows_at {xs : List Int} {d : Nat} {x y : Int} (hd : hDims xs = d) (h4 : d ≤ 4) (h : xs[6 + d]? = some x) (h2 : xs[7 + d]? = some y) : hRows xs = x * 256 + y := by
  rw [hRows, hd, List.drop_drop, List.drop_drop, List.drop_drop, two_at (i := 4 + (1 + (d + 1)))]
  · exact pad_at (by rw [show 4 + (1 + (d + 1)) = 6 + d from by omega]; exact h) (by omega)
  · exact pad_at (by rw [show 4 + (1 + (d + 1)) + 1 = 7 + d from by omega]; exact h2) (by omega)
theorem hCards_at {xs : List Int} {d : Nat} (hd : hDims xs = d) (h4 : d ≤ 4) (hn : 5 + d ≤ xs.length) : hCards xs = (xs.drop 5).take d := by
  apply List.ext_getElem?
  intro i
  rw [hCards, hd, List.getElem?_take]
  by_cases hi : i < d
  · rw [if_pos hi, List.getElem?_drop]
    have hx : xs[5 + i]? = some xs[5 + i] := List.getElem?_eq_getElem (by omega)
    rw [hx]
    simp only [chunks, List.getElem?_map, List.getElem?_range hi, Option.map_some, List.drop_drop, id_eq]
    rw [show 4 + 1 + 1 * i = 5 + i from by omega, one_at (pad_at hx (by omega))]
  · rw [if_neg hi, List.getElem?_eq_none (by simp [chunks]; omega)]
theorem hMark_at {xs : List Int} (h : 4 ≤ xs.length) : hMark xs = decide (xs.take 4 = [67, 85, 66, 49]) := by
  rw [hMark, pad_take h (by omega)]
/-- Whether what stands ahead may be read at all. -/
def ahead (xs : List Int) : Bool := decide (5 ≤ xs.length) && (decide (xs.take 4 = [67, 85, 66, 49]) && (decide (hDims xs ≤ 4) && decide (8 + hDims xs ≤ xs.length)))
theorem ahead_no {xs : List Int} (h : ahead xs = false) : decOk xs = false := by
  rw [Bool.eq_false_iff]
  intro hd
  rw [Bool.eq_false_iff] at h
  apply h
  simp only [decOk, headOk, Bool.and_eq_true, decide_eq_true_eq] at hd
  obtain ⟨⟨h1, h2, -, -⟩, h3, -⟩ := hd
  have h8 : 8 + hDims xs ≤ xs.length := by rw [h3, dLen]; omega
  rw [hMark_at (by omega)] at h1
  simp only [ahead, Bool.and_eq_true, decide_eq_true_eq]
  exact ⟨by omega, by simpa using h1, h2, h8⟩
theorem ahead_yes {xs : List Int} (h : ahead xs = true) : 5 ≤ xs.length ∧ xs.take 4 = [67, 85, 66, 49] ∧ hDims xs ≤ 4 ∧ 8 + hDims xs ≤ xs.length := by
  simpa only [ahead, Bool.and_eq_true, decide_eq_true_eq] using h
theorem headOk_ahead {xs : List Int} (h : ahead xs = true) : headOk xs = (checkB (hCards xs) (hMeas xs) && decide (hRows xs ≤ 300)) := by
  obtain ⟨h1, h2, h3, h4⟩ := ahead_yes h
  rw [headOk, hMark_at (by omega), decide_eq_true h2, decide_eq_true h3, Bool.true_and, Bool.true_and]
end Go.Proofs.Ytnabmbnfmnpcoaa
