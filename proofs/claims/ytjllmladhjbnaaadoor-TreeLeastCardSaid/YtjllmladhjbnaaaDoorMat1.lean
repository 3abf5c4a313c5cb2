/- Package match's small functions: sets of columns; whether costs may be. -/
import Derived.Lib.QuoteBits
import Derived.Shelf.Abstract
import Derived.IntWalk
import Derived.Test.YtjllmladhjbnaaaDoorPop
import Derived.Test.YtjllmladhjbnaaaDoorInts
namespace Go.Proofs.YtjllmladhjbnaaaDoor
open Go.RowKit Go.Shelf
attribute [local go_sem] Oper.semAt_some
theorem and_nat (a b : Nat) (ha : a < 9223372036854775808) (hb : b < 9223372036854775808) : bits .and .i64 (a : Int) (b : Int) = ((a &&& b : Nat) : Int) := by
  show IntKind.i64.wrap ((BitVec.ofInt 64 (a : Int) &&& BitVec.ofInt 64 (b : Int)).toNat : Int) = _
  rw [BitVec.toNat_and, ofInt_u64 a (by omega), ofInt_u64 b (by omega)]
  exact Lib.wrap_i64_small _ (Nat.lt_of_le_of_lt Nat.and_le_left ha)
theorem or_nat (a b : Nat) (ha : a < 4611686018427387904) (hb : b < 4611686018427387904) : bits .or .i64 (a : Int) (b : Int) = ((a ||| b : Nat) : Int) := by
  show IntKind.i64.wrap ((BitVec.ofInt 64 (a : Int) ||| BitVec.ofInt 64 (b : Int)).toNat : Int) = _
  rw [BitVec.toNat_or, ofInt_u64 a (by omega), ofInt_u64 b (by omega)]
  exact Lib.wrap_i64_small _ (by have := Nat.or_lt_two_pow (n := 62) (x := a) (y := b) (by omega) (by omega); omega)
theorem and_pow (s k : Nat) : (s &&& 2 ^ k) = if s.testBit k then 2 ^ k else 0 := by
  apply Nat.eq_of_testBit_eq
  intro i
  rw [Nat.testBit_and, Nat.testBit_two_pow]
  by_cases h : k = i
  · subst h; cases s.testBit k <;> simp
  · simp [h]; split <;> simp [h]
theorem pow_wrap (k : Nat) (hk : k < 62) : wrap64 (2 ^ k) = ((2 ^ k : Nat) : Int) := by
  have h : 2 ^ k < 2 ^ 62 := Nat.pow_lt_pow_right (by omega) hk
  have e : ((2 ^ k : Nat) : Int) = (2 : Int) ^ k := by push_cast; rfl
  have g := Lib.wrap_i64_small (2 ^ k) (by omega)
  rw [← e]
  exact (Go.IntWalk.i64_left _).symm.trans g
theorem pow_le12 (k : Nat) (hk : k < 14) : 2 ^ k ≤ 8192 := by
  have : 2 ^ k ≤ 2 ^ 13 := Nat.pow_le_pow_right (by omega) (by omega)
  omega
theorem u64_small (s : Nat) (h : s < 1000000) : IntKind.u64.wrap (s : Int) = s := by
  simp only [IntKind.wrap, IntKind.bits, IntKind.signed]
  simp
  omega
/-- A slice of rows of numbers, that reads as M. -/
def Mat (w : World) (A : Option Addr) (n : Nat) (M : List (List Int)) : Prop :=
  M.length = n ∧ (0 < n → ∃ ad, A = some ad ∧ ∀ (j : Nat) (r : List Int), M[j]? = some r → ∃ B c, w.cell? (ad.add j) = some (.slice B r.length c) ∧ Nums .i64 w B r.length r)
theorem Mat.keep {w w' : World} {A : Option Addr} {n : Nat} {M : List (List Int)} (h : Mat w A n M) (hk : Keeps w w') : Mat w' A n M :=
  ⟨h.1, fun hn => by obtain ⟨ad, ha, hc⟩ := h.2 hn; exact ⟨ad, ha, fun j r hr => by obtain ⟨B, c, h1, h2⟩ := hc j r hr; exact ⟨B, c, hk _ _ h1, h2.keep hk⟩⟩⟩
theorem Mat.at_ {w : World} {A : Option Addr} {n : Nat} {M : List (List Int)} (h : Mat w A n M) {k : Nat} (hk : k < n) :
    ∃ ad r B c, A = some ad ∧ M[k]? = some r ∧ w.cell? (ad.add k) = some (.slice B r.length c) ∧ Nums .i64 w B r.length r := by
  obtain ⟨hl, hc⟩ := h
  obtain ⟨ad, ha, hc⟩ := hc (by omega)
  have hx : M[k]? = some M[k] := List.getElem?_eq_getElem (by omega)
  obtain ⟨B, c, h1, h2⟩ := hc _ _ hx
  exact ⟨ad, M[k], B, c, ha, hx, h1, h2⟩
/-- How many columns the first row has. -/
def wid (M : List (List Int)) : Nat := (M[0]?.getD []).length
theorem wid_cons (r : List Int) (M : List (List Int)) : wid (r :: M) = r.length := rfl
end Go.Proofs.YtjllmladhjbnaaaDoor
