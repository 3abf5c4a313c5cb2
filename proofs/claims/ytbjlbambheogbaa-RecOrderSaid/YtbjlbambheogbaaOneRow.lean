/- A row of one value 0 and one measure, laid and appended. -/
import Derived.Test.YtbjlbambheogbaaLaw
namespace Go.Proofs.Ytbjlbambheogbaa
open Go.RowKit
def endRow (x : Int) : Fact := ⟨[0], [x]⟩
/-- A row of one value 0 and one measure, laid and appended. -/
theorem one_rowW (wr : World) (Bl Br : Nat) (v : Value) (l : List Fact) (x : Int) (hl : Bl ≤ wr.heap.size) (hz : Br ≤ wr.heap.size) (hR : RowsW wr Bl Br v l) (hn : l.length ≤ 1000000) :
    ∃ v' w', (Builtin.append_ #[25, 25] 25 #[v, .slice (some ⟨wr.heap.size + 1 + 1, 0, none⟩) 1 1]).run Try.prog
      (((wr.alloc (.cells #[.int .i64 0] 3)).alloc (.cells #[.int .i64 x] 3)).alloc (.cells #[.slice (some ⟨wr.heap.size, 0, none⟩) 1 1, .slice (some ⟨wr.heap.size + 1, 0, none⟩) 1 1] 33)) = .ok v' w' ∧ RowsW w' Bl Br v' (l ++ [endRow x]) ∧ Below Bl wr w' := by
  have b1 : Below wr.heap.size wr ((wr.alloc (.cells #[.int .i64 0] 3)).alloc (.cells #[.int .i64 x] 3)) := ((Below.refl _ _).alloc (Nat.le_refl _) _).alloc (by simp) _
  have o1 := own_below (own_lit wr Br 3 [.int .i64 0] wr.heap.size 1 1 rfl hz (by simp [maxLen]) rfl) ((Below.refl _ _).alloc (Nat.le_refl _) (.cells #[.int .i64 x] 3)) (Nat.le_refl _)
  have o2 := own_lit (wr.alloc (.cells #[.int .i64 0] 3)) Br 3 [.int .i64 x] (wr.heap.size + 1) 1 1 (by simp) (by omega) (by simp [maxLen]) rfl
  obtain ⟨v', w', hrun, hR', hb'⟩ := append_rowW _ Bl Br v l (endRow x) (.slice (some ⟨wr.heap.size, 0, none⟩) 1 1) (.slice (some ⟨wr.heap.size + 1, 0, none⟩) 1 1) (wr.heap.size + 1 + 1) (by simp) (hR.below b1 (Nat.le_refl _)) ⟨o1, o2⟩ rfl rfl hn (by simp; omega)
  exact ⟨v', w', hrun, hR', (b1.mono hl).trans hb'⟩

theorem col_rows (xs : List Int) : col (xs.map endRow) 0 = xs := by
  simp [col, endRow, Function.comp_def]
end Go.Proofs.Ytbjlbambheogbaa
