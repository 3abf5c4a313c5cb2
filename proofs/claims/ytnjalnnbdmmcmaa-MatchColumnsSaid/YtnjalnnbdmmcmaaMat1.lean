/- Package match's small functions: sets of columns; whether costs may be. -/
import Derived.Lib.QuoteBits
import Derived.Shelf.Abstract
import Derived.IntWalk
import Derived.Test.YtnjalnnbdmmcmaaPop
import Derived.Test.YtnjalnnbdmmcmaaInts
namespace Go.Proofs.Ytnjalnnbdmmcmaa
open Go.RowKit Go.Shelf
attribute [local go_sem] Oper.semAt_some
theorem and_nat (a b : Nat) (ha : a < 9223372036854775808) (hb : b < 9223372036854775808) : bits .and .i64 (a : Int) (b : Int) = ((a &&& b : Nat) : Int) := by
  show IntKind.i64.wrap ((BitVec.ofInt 64 (a : Int) &&& BitVec.ofInt 64 (b : Int)).toNat : Int) = _
  rw [BitVec.toNat_and, ofInt_u64 a (by omega), ofInt_u64 b (by omega)]
  exact Lib.wrap_i64_small _ (Nat.lt_of_le_of_lt Nat.and_le_left ha)
theorem or_nat (a b : Nat) (ha : a < 4611686018427387904) (hb : b < 4611686018427387904) : bits .or .i64 (a : Int) (b : Int) = ((a ||| b : Nat) : Int) := by
  show IntKind.i64.wrap ((BitVec.ofInt 64 (a : Int) ||| BitVec.ofInt 64 (b : Int)).toNat : Int) = _
  rw [BitVec.toNat_or, ofInt_u64 a (by omega), ofInt_u64 b (by omega)]
  exact Lib.wrap_i64_small _ (by have := Nat.or_lt_two_pow (n := 62) (x := a) (y := b) (by omega) (by omega); omega)
theorem and_pow (s k : Nat) : (s &&& 2 ^ k) = if s.testBit k then 2 ^ k else 0 := by
  apply Nat.eq_of_testBit_eq
  intro i
  rw [Nat.testBit_and, Nat.testBit_two_pow]
  by_cases h : k = i
  · subst h; cases s.testBit k <;> simp
  · simp [h]; split <;> simp [h]
theorem pow_wrap (k : Nat) (hk : k < 62) : wrap64 (2 ^ k) = ((2 ^ k : Nat) : Int) := by
  have h : 2 ^ k < 2 ^ 62 := Nat.pow_lt_pow_right (by omega) hk
  have e : ((2 ^ k : Nat) : Int) = (2 : Int) ^ k := by push_cast; rfl
  have g := Lib.wrap_i64_small (2 ^ k) (by omega)
  rw [← e]
  exact (Go.IntWalk.i64_left _).symm.trans g
theorem pow_le12 (k : Nat) (hk : k < 14) : 2 ^ k ≤ 8192 := by
  have : 2 ^ k ≤ 2 ^ 13 := Nat.pow_le_pow_right (by omega) (by omega)
  omega
set_option maxHeartbeats 400000 in
theorem has_any (s k : Nat) (w : World) (hs : s < 1000000) (hk : k < 14) :
    Calls Try.prog 24 #[.int .i64 s, .int .i64 k] w fun e w' => e = .returned (.bool (s.testBit k)) ∧ w = w' := by
  have hp := pow_le12 k hk
  have h1 := pow_wrap k (by omega)
  have h2 := and_nat s (2 ^ k) (by omega) (by omega)
  have h3 : ((((s &&& 2 ^ k : Nat) : Int)) != 0) = s.testBit k := by
    rw [and_pow]
    have : 0 < 2 ^ k := Nat.two_pow_pos k
    cases s.testBit k
    · simp
    · have h0 : 2 ^ k ≠ 0 := by omega
      simp
      exact_mod_cast h0
  have H1 := Lib.hid h1
  have H2 := Lib.hid h2
  have H3 := Lib.hid h3
  clear h1 h2 h3
  go_enter Try.func24, Try.ntmps24
  go_wp2
  go_ret
  rw [H1.out, H2.out, H3.out]
  exact ⟨rfl, rfl⟩
set_option maxHeartbeats 400000 in
theorem pop64 (s : Nat) (w : World) (hs : s < 4096) :
    Calls Try.prog 26 #[.int .u64 s] w fun e w' => e = .returned (.int .i64 (pcN s)) ∧ w = w' := by
  go_enter Try.func26, Try.ntmps26
  go_wp2
  go_ret
  exact ⟨ret_int (popF_all s hs), rfl⟩
set_option maxHeartbeats 400000 in
theorem pop_any (s : Nat) (w : World) (hs : s < 4096) :
    Calls Try.prog 22 #[.int .u64 s] w fun e w' => e = .returned (.int .i64 (pcN s)) ∧ w = w' := by
  have H := Lib.hid (pop64 s w hs)
  go_enter Try.func22, Try.ntmps22
  go_wp2_with fail
  refine H.out.mono ?_
  rintro e w' ⟨rfl, rfl⟩
  go_wp2
  go_ret
  exact ⟨rfl, rfl⟩
theorem u64_small (s : Nat) (h : s < 1000000) : IntKind.u64.wrap (s : Int) = s := by
  simp only [IntKind.wrap, IntKind.bits, IntKind.signed]
  simp
  omega
set_option maxHeartbeats 400000 in
theorem next_any (s : Nat) (w : World) (hs : s < 4096) :
    Calls Try.prog 18 #[.int .i64 s] w fun e w' => e = .returned (.int .i64 (pcN s)) ∧ w = w' := by
  have H := Lib.hid (pop_any s w hs)
  have h1 := u64_small s (by omega)
  go_enter Try.func18, Try.ntmps18
  go_wp2_with fail
  refine H.out.mono ?_
  rintro e w' ⟨rfl, rfl⟩
  go_wp2
  go_ret
  exact ⟨rfl, rfl⟩
set_option maxHeartbeats 400000 in
theorem with_any (s k : Nat) (w : World) (hs : s < 1000000) (hk : k < 14) :
    Calls Try.prog 21 #[.int .i64 s, .int .i64 k] w fun e w' => e = .returned (.int .i64 ((s ||| 2 ^ k : Nat) : Int)) ∧ w = w' := by
  have hp := pow_le12 k hk
  have H1 := Lib.hid (pow_wrap k (by omega))
  have H2 := Lib.hid (or_nat s (2 ^ k) (by omega) (by omega))
  go_enter Try.func21, Try.ntmps21
  go_wp2
  go_ret
  rw [H1.out, H2.out]
  exact ⟨rfl, rfl⟩
set_option maxHeartbeats 400000 in
theorem isCost_any (c : Int) (w : World) :
    Calls Try.prog 17 #[.int .i64 c] w fun e w' => e = .returned (.bool (decide (0 ≤ c) && decide (c ≤ 1000000))) ∧ w = w' := by
  by_cases h1 : 0 ≤ c
  · have d1 : decide (0 ≤ c) = true := by simpa using h1
    rw [d1]
    obtain ⟨b, hb⟩ : ∃ b, b = decide (c ≤ 1000000) := ⟨_, rfl⟩
    rw [Bool.true_and, ← hb]
    have HB := Lib.hid hb
    clear h1 hb
    go_enter Try.func17, Try.ntmps17
    go_wp2
    go_ret
    rw [HB.out]
    exact ⟨rfl, rfl⟩
  · have d1 : decide (0 ≤ c) = false := by simpa using h1
    rw [d1]
    clear h1
    go_enter Try.func17, Try.ntmps17
    go_wp2
    go_ret
    exact ⟨rfl, rfl⟩
/-- A slice of rows of numbers, that reads as M. -/
def Mat (w : World) (A : Option Addr) (n : Nat) (M : List (List Int)) : Prop :=
  M.length = n ∧ (0 < n → ∃ ad, A = some ad ∧ ∀ (j : Nat) (r : List Int), M[j]? = some r → ∃ B c, w.cell? (ad.add j) = some (.slice B r.length c) ∧ Nums .i64 w B r.length r)
theorem Mat.keep {w w' : World} {A : Option Addr} {n : Nat} {M : List (List Int)} (h : Mat w A n M) (hk : Keeps w w') : Mat w' A n M :=
  ⟨h.1, fun hn => by obtain ⟨ad, ha, hc⟩ := h.2 hn; exact ⟨ad, ha, fun j r hr => by obtain ⟨B, c, h1, h2⟩ := hc j r hr; exact ⟨B, c, hk _ _ h1, h2.keep hk⟩⟩⟩
theorem Mat.at_ {w : World} {A : Option Addr} {n : Nat} {M : List (List Int)} (h : Mat w A n M) {k : Nat} (hk : k < n) :
    ∃ ad r B c, A = some ad ∧ M[k]? = some r ∧ w.cell? (ad.add k) = some (.slice B r.length c) ∧ Nums .i64 w B r.length r := by
  obtain ⟨hl, hc⟩ := h
  obtain ⟨ad, ha, hc⟩ := hc (by omega)
  have hx : M[k]? = some M[k] := List.getElem?_eq_getElem (by omega)
  obtain ⟨B, c, h1, h2⟩ := hc _ _ hx
  exact ⟨ad, M[k], B, c, ha, hx, h1, h2⟩
/-- How many columns the first row has. -/
def wid (M : List (List Int)) : Nat := (M[0]?.getD []).length
theorem wid_cons (r : List Int) (M : List (List Int)) : wid (r :: M) = r.length := rfl
set_option maxHeartbeats 400000 in
theorem width_any (A : Option Addr) (n c : Nat) (M : List (List Int)) (w : World) (hM : Mat w A n M) :
    Calls Try.prog 13 #[.slice A n c] w fun e w' => e = .returned (.int .i64 (wid M)) ∧ w = w' := by
  by_cases h0 : 0 < n
  · obtain ⟨ad, r, B, d, rfl, hr, hc, -⟩ := hM.at_ h0
    have hw : wid M = r.length := by unfold wid; rw [hr]; rfl
    rw [hw]
    rw [show ad.add 0 = ad from by simp [Addr.add]] at hc
    have hn : ((n : Int) == 0) = false := by simp; omega
    have hz : (0 : Int) < (n : Int) := by omega
    clear hr hw hM
    go_enter Try.func13, Try.ntmps13
    go_wp2
    go_ret
    exact ⟨rfl, rfl⟩
  · obtain rfl : n = 0 := by omega
    have hw : wid M = 0 := by
      have := hM.1
      rw [List.length_eq_zero_iff] at this
      subst this
      rfl
    rw [hw]
    clear hw hM h0
    go_enter Try.func13, Try.ntmps13
    go_wp2
    go_ret
    exact ⟨rfl, rfl⟩
end Go.Proofs.Ytnjalnnbdmmcmaa
