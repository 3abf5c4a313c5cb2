/- The bytes that the law RecMany writes by hand, said plainly. -/
import Derived.Test.YtbjlbambheogbaaBack
namespace Go.Proofs.Ytbjlbambheogbaa
open Go.RowKit
def many (k : Nat) : List Fact := (List.range k).map fun (i : Nat) => ⟨[(i : Int) % 2], []⟩
def manyB (k n : Nat) : List Int := headB [2] 0 k ++ (many n).flatMap rowB
theorem many_len (k : Nat) : (many k).length = k := by simp [many]
theorem many_snoc (k : Nat) : many (k + 1) = many k ++ [⟨[(k : Int) % 2], []⟩] := by simp [many, List.range_succ]
theorem manyB_snoc (k n : Nat) : manyB k (n + 1) = manyB k n ++ [(n : Int) % 2] := by
  rw [manyB, manyB, many_snoc, List.flatMap_append, ← List.append_assoc]
  congr 1
  simp [rowB, be, List.range_succ]
  omega
theorem manyB_enc (k : Nat) : manyB k k = encB [2] 0 (many k) := by rw [manyB, encB, many_len]
theorem manyB_len (k n : Nat) : (manyB k n).length = 9 + n := by
  induction n with
  | zero => simp [manyB, many, headB_len]
  | succ n ih => rw [manyB_snoc, List.length_append, ih]; simp; omega
theorem many_right (k : Nat) : allRightB [2] 0 (many k) = true := allRightB_yes (by decide) fun r hr => by
  simp only [many, List.mem_map] at hr
  obtain ⟨i, _, rfl⟩ := hr
  simp [rightB, keysB]
  omega
theorem many_small (k : Nat) : Small (many k) := fun r hr => by
  simp only [many, List.mem_map] at hr
  obtain ⟨i, _, rfl⟩ := hr
  simp
theorem manyB_bytes (k n : Nat) : Bytes (manyB k n) := by
  intro x hx
  rw [manyB] at hx
  rcases List.mem_append.1 hx with h | h
  · exact headB_bytes _ _ _ x h
  · simp only [List.mem_flatMap, many, List.mem_map] at h
    obtain ⟨r, ⟨i, _, rfl⟩, h⟩ := h
    simp [rowB, be, List.range_succ] at h
    omega
/-- What stands ahead tells how many: more than may be is refused. -/
theorem many_no (k n : Nat) (hk : 300 < k) (hk2 : k ≤ 306) : decOk (manyB k n) = false := by
  refine decOk_head ?_
  have hp : ∃ c, pad (manyB k n) = headB [2] 0 k ++ c := by
    rw [manyB]
    exact pad_front (by simp [headB_len])
  obtain ⟨c, hc⟩ := hp
  have hr : hRows (manyB k n) = k := by
    have hd : hDims (manyB k n) = 1 := by
      rw [hDims, hc]
      simp [headB, be, List.range_succ, beVal]
    rw [hRows, hd, hc]
    simp [headB, be, List.range_succ, beVal]
    omega
  rw [headOk, hr, decide_eq_false (p := (k : Int) ≤ 300) (by omega), Bool.and_false, Bool.and_false, Bool.and_false]
theorem many_head0 : headB [2] 0 0 = [67, 85, 66, 49, 1, 2, 0, 0, 0] := by decide
theorem many_head (k : Nat) (h : k ≤ 65535) : headB [2] 0 k = [67, 85, 66, 49, 1, 2, 0, (k : Int) / 256, (k : Int) % 256] := by
  simp [headB, be, List.range_succ]
  omega
end Go.Proofs.Ytbjlbambheogbaa
