/- Words that the laws of sets share. -/
import Derived.Test.YtjllmladhjbnaaaGreatDoorParN
import Derived.Test.YtjllmladhjbnaaaGreatDoorSize
namespace Go.Proofs.YtjllmladhjbnaaaGreatDoor
open Go.RowKit
theorem set8_bd (n : Int) (q : Nat) (h1 : 1 ≤ q) (h4 : q ≤ 4) : 0 ≤ n % 2 ^ q ∧ n % 2 ^ q ≤ fullB q := by
  unfold fullB
  rcases (by omega : q = 1 ∨ q = 2 ∨ q = 3 ∨ q = 4) with rfl | rfl | rfl | rfl <;> simp <;> omega
theorem shl_wrap (q : Nat) (h4 : q ≤ 4) : wrap64 (2 ^ q) = 2 ^ q := by
  rcases (by omega : q = 0 ∨ q = 1 ∨ q = 2 ∨ q = 3 ∨ q = 4) with rfl | rfl | rfl | rfl | rfl <;> decide +kernel
theorem pow_bd (q : Nat) (h4 : q ≤ 4) : 1 ≤ (2 : Int) ^ q ∧ (2 : Int) ^ q ≤ 16 := by
  rcases (by omega : q = 0 ∨ q = 1 ∨ q = 2 ∨ q = 3 ∨ q = 4) with rfl | rfl | rfl | rfl | rfl <;> decide +kernel
end Go.Proofs.YtjllmladhjbnaaaGreatDoor
