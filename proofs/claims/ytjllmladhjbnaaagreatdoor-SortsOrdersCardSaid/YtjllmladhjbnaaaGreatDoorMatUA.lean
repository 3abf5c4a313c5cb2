/- Package match's small functions: sets of columns; whether costs may be. -/
import Derived.Lib.QuoteBits
import Derived.Shelf.Abstract
import Derived.IntWalk
import Derived.RangeFuncNested
import Derived.RangeFuncBound
import Derived.RangeFuncCalls
import Derived.RangeFuncLeaves
import Derived.RangeFuncBox
import Derived.Shelf.RegionOpen
import Derived.OwnWalkIn
import Derived.TacticsInMore
import Derived.LoopNIn
import Derived.LoopIn
import Derived.WalkMore
import Derived.Test.YtjllmladhjbnaaaGreatDoorPop
import Derived.Test.YtjllmladhjbnaaaGreatDoorInts
import Derived.Test.YtjllmladhjbnaaaGreatDoorRegN
import Derived.Test.YtjllmladhjbnaaaGreatDoorIsRow
import Derived.Test.YtjllmladhjbnaaaGreatDoorRegP
namespace Go.Proofs.YtjllmladhjbnaaaGreatDoor
open Go.RowKit Go.Shelf
attribute [local go_sem] Oper.semAt_some
theorem and_nat (a b : Nat) (ha : a < 9223372036854775808) (hb : b < 9223372036854775808) : bits .and .i64 (a : Int) (b : Int) = ((a &&& b : Nat) : Int) := by
  show IntKind.i64.wrap ((BitVec.ofInt 64 (a : Int) &&& BitVec.ofInt 64 (b : Int)).toNat : Int) = _
  rw [BitVec.toNat_and, ofInt_u64 a (by omega), ofInt_u64 b (by omega)]
  exact Lib.wrap_i64_small _ (Nat.lt_of_le_of_lt Nat.and_le_left ha)
theorem or_nat (a b : Nat) (ha : a < 4611686018427387904) (hb : b < 4611686018427387904) : bits .or .i64 (a : Int) (b : Int) = ((a ||| b : Nat) : Int) := by
  show IntKind.i64.wrap ((BitVec.ofInt 64 (a : Int) ||| BitVec.ofInt 64 (b : Int)).toNat : Int) = _
  rw [BitVec.toNat_or, ofInt_u64 a (by omega), ofInt_u64 b (by omega)]
  exact Lib.wrap_i64_small _ (by have := Nat.or_lt_two_pow (n := 62) (x := a) (y := b) (by omega) (by omega); omega)
theorem and_pow (s k : Nat) : (s &&& 2 ^ k) = if s.testBit k then 2 ^ k else 0 := by
  apply Nat.eq_of_testBit_eq
  intro i
  rw [Nat.testBit_and, Nat.testBit_two_pow]
  by_cases h : k = i
  · subst h; cases s.testBit k <;> simp
  · simp [h]; split <;> simp [h]
theorem pow_wrap (k : Nat) (hk : k < 62) : wrap64 (2 ^ k) = ((2 ^ k : Nat) : Int) := by
  have h : 2 ^ k < 2 ^ 62 := Nat.pow_lt_pow_right (by omega) hk
  have e : ((2 ^ k : Nat) : Int) = (2 : Int) ^ k := by push_cast; rfl
  have g := Lib.wrap_i64_small (2 ^ k) (by omega)
  rw [← e]
  exact (Go.IntWalk.i64_left _).symm.trans g
theorem pow_le12 (k : Nat) (hk : k < 14) : 2 ^ k ≤ 8192 := by
  have : 2 ^ k ≤ 2 ^ 13 := Nat.pow_le_pow_right (by omega) (by omega)
  omega
set_option maxHeartbeats 400000 in
theorem has_any (s k : Nat) (w : World) (hs : s < 1000000) (hk : k < 14) :
    Calls Tryz.prog 110 #[.int .i64 s, .int .i64 k] w fun e w' => e = .returned (.bool (s.testBit k)) ∧ w = w' := by
  have hp := pow_le12 k hk
  have h1 := pow_wrap k (by omega)
  have h2 := and_nat s (2 ^ k) (by omega) (by omega)
  have h3 : ((((s &&& 2 ^ k : Nat) : Int)) != 0) = s.testBit k := by
    rw [and_pow]
    have : 0 < 2 ^ k := Nat.two_pow_pos k
    cases s.testBit k
    · simp
    · have h0 : 2 ^ k ≠ 0 := by omega
      simp
      exact_mod_cast h0
  have H1 := Lib.hid h1
  have H2 := Lib.hid h2
  have H3 := Lib.hid h3
  clear h1 h2 h3
  go_enter Tryz.func110, Tryz.ntmps110
  go_wp2
  go_ret
  rw [H1.out, H2.out, H3.out]
  exact ⟨rfl, rfl⟩
set_option maxHeartbeats 400000 in
theorem pop64 (s : Nat) (w : World) (hs : s < 4096) :
    Calls Tryz.prog 122 #[.int .u64 s] w fun e w' => e = .returned (.int .i64 (pcN s)) ∧ w = w' := by
  go_enter Tryz.func122, Tryz.ntmps122
  go_wp2
  go_ret
  exact ⟨ret_int (popF_all s hs), rfl⟩
set_option maxHeartbeats 400000 in
theorem pop_any (s : Nat) (w : World) (hs : s < 4096) :
    Calls Tryz.prog 108 #[.int .u64 s] w fun e w' => e = .returned (.int .i64 (pcN s)) ∧ w = w' := by
  have H := Lib.hid (pop64 s w hs)
  go_enter Tryz.func108, Tryz.ntmps108
  go_wp2_with fail
  refine H.out.mono ?_
  rintro e w' ⟨rfl, rfl⟩
  go_wp2
  go_ret
  exact ⟨rfl, rfl⟩
theorem u64_small (s : Nat) (h : s < 1000000) : IntKind.u64.wrap (s : Int) = s := by
  simp only [IntKind.wrap, IntKind.bits, IntKind.signed]
  simp
  omega
set_option maxHeartbeats 400000 in
theorem next_any (s : Nat) (w : World) (hs : s < 4096) :
    Calls Tryz.prog 89 #[.int .i64 s] w fun e w' => e = .returned (.int .i64 (pcN s)) ∧ w = w' := by
  have H := Lib.hid (pop_any s w hs)
  have h1 := u64_small s (by omega)
  go_enter Tryz.func89, Tryz.ntmps89
  go_wp2_with fail
  refine H.out.mono ?_
  rintro e w' ⟨rfl, rfl⟩
  go_wp2
  go_ret
  exact ⟨rfl, rfl⟩
set_option maxHeartbeats 400000 in
theorem with_any (s k : Nat) (w : World) (hs : s < 1000000) (hk : k < 14) :
    Calls Tryz.prog 92 #[.int .i64 s, .int .i64 k] w fun e w' => e = .returned (.int .i64 ((s ||| 2 ^ k : Nat) : Int)) ∧ w = w' := by
  have hp := pow_le12 k hk
  have H1 := Lib.hid (pow_wrap k (by omega))
  have H2 := Lib.hid (or_nat s (2 ^ k) (by omega) (by omega))
  go_enter Tryz.func92, Tryz.ntmps92
  go_wp2
  go_ret
  rw [H1.out, H2.out]
  exact ⟨rfl, rfl⟩
set_option maxHeartbeats 400000 in
theorem isCost_any (c : Int) (w : World) :
    Calls Tryz.prog 88 #[.int .i64 c] w fun e w' => e = .returned (.bool (decide (0 ≤ c) && decide (c ≤ 1000000))) ∧ w = w' := by
  by_cases h1 : 0 ≤ c
  · have d1 : decide (0 ≤ c) = true := by simpa using h1
    rw [d1]
    obtain ⟨b, hb⟩ : ∃ b, b = decide (c ≤ 1000000) := ⟨_, rfl⟩
    rw [Bool.true_and, ← hb]
    have HB := Lib.hid hb
    clear h1 hb
    go_enter Tryz.func88, Tryz.ntmps88
    go_wp2
    go_ret
    rw [HB.out]
    exact ⟨rfl, rfl⟩
  · have d1 : decide (0 ≤ c) = false := by simpa using h1
    rw [d1]
    clear h1
    go_enter Tryz.func88, Tryz.ntmps88
    go_wp2
    go_ret
    exact ⟨rfl, rfl⟩
/-- A slice of rows of numbers, that reads as M. -/
def Mat (w : World) (A : Option Addr) (n : Nat) (M : List (List Int)) : Prop :=
  M.length = n ∧ (0 < n → ∃ ad, A = some ad ∧ ∀ (j : Nat) (r : List Int), M[j]? = some r → ∃ B c, w.cell? (ad.add j) = some (.slice B r.length c) ∧ Nums .i64 w B r.length r)
theorem Mat.keep {w w' : World} {A : Option Addr} {n : Nat} {M : List (List Int)} (h : Mat w A n M) (hk : Keeps w w') : Mat w' A n M :=
  ⟨h.1, fun hn => by obtain ⟨ad, ha, hc⟩ := h.2 hn; exact ⟨ad, ha, fun j r hr => by obtain ⟨B, c, h1, h2⟩ := hc j r hr; exact ⟨B, c, hk _ _ h1, h2.keep hk⟩⟩⟩
theorem Mat.at_ {w : World} {A : Option Addr} {n : Nat} {M : List (List Int)} (h : Mat w A n M) {k : Nat} (hk : k < n) :
    ∃ ad r B c, A = some ad ∧ M[k]? = some r ∧ w.cell? (ad.add k) = some (.slice B r.length c) ∧ Nums .i64 w B r.length r := by
  obtain ⟨hl, hc⟩ := h
  obtain ⟨ad, ha, hc⟩ := hc (by omega)
  have hx : M[k]? = some M[k] := List.getElem?_eq_getElem (by omega)
  obtain ⟨B, c, h1, h2⟩ := hc _ _ hx
  exact ⟨ad, M[k], B, c, ha, hx, h1, h2⟩
/-- How many columns the first row has. -/
def wid (M : List (List Int)) : Nat := (M[0]?.getD []).length
theorem wid_cons (r : List Int) (M : List (List Int)) : wid (r :: M) = r.length := rfl
set_option maxHeartbeats 400000 in
theorem width_any (A : Option Addr) (n c : Nat) (M : List (List Int)) (w : World) (hM : Mat w A n M) :
    Calls Tryz.prog 84 #[.slice A n c] w fun e w' => e = .returned (.int .i64 (wid M)) ∧ w = w' := by
  by_cases h0 : 0 < n
  · obtain ⟨ad, r, B, d, rfl, hr, hc, -⟩ := hM.at_ h0
    have hw : wid M = r.length := by unfold wid; rw [hr]; rfl
    rw [hw]
    rw [show ad.add 0 = ad from by simp [Addr.add]] at hc
    have hn : ((n : Int) == 0) = false := by simp; omega
    have hz : (0 : Int) < (n : Int) := by omega
    clear hr hw hM
    go_enter Tryz.func84, Tryz.ntmps84
    go_wp2
    go_ret
    exact ⟨rfl, rfl⟩
  · obtain rfl : n = 0 := by omega
    have hw : wid M = 0 := by
      have := hM.1
      rw [List.length_eq_zero_iff] at this
      subst this
      rfl
    rw [hw]
    clear hw hM h0
    go_enter Tryz.func84, Tryz.ntmps84
    go_wp2
    go_ret
    exact ⟨rfl, rfl⟩
end Go.Proofs.YtjllmladhjbnaaaGreatDoor
/- Package match's proper: may costs be? -/
namespace Go.Proofs.YtjllmladhjbnaaaGreatDoor
open Go.RowKit Go.Shelf
attribute [local go_sem] Oper.semAt_some
def okC (c : Int) : Bool := decide (0 ≤ c) && decide (c ≤ 1000000)
theorem all_take_snoc {α : Type} {p : α → Bool} {l : List α} {k : Nat} {x : α} (h : l[k]? = some x) : (l.take (k + 1)).all p = ((l.take k).all p && p x) := by
  rw [List.take_add_one, h, List.all_append]
  simp
theorem all_at_false {α : Type} {p : α → Bool} {l : List α} {k : Nat} {x : α} (h : l[k]? = some x) (hp : p x = false) : l.all p = false := by
  rw [List.all_eq_false]
  exact ⟨x, List.mem_of_getElem? h, by simp [hp]⟩
set_option maxHeartbeats 1000000 in
theorem every1_any (B : Option Addr) (n c : Nat) (xs : List Int) (w : World) (hx : Nums .i64 w B n xs) (hnn : n ≤ 1000000) :
    Calls Tryz.prog 87 #[.slice B n c, .func (.func 88) #[] #[]] w fun e w' => e = .returned (.bool (xs.all okC)) ∧ w = w' := by
  go_enter Tryz.func87, Tryz.ntmps87
  go_wp2
  go_loopw [9] (fun i wr => ∃ k : Nat, k ≤ n ∧ i = .int .i64 k ∧ (xs.take k).all okC = true ∧ w = wr) (fun i _ => n - (intOf i).toNat)
  case atStart => exact ⟨0, by omega, rfl, by simp, rfl⟩
  case round =>
    obtain ⟨k, hk, rfl, ht, rfl⟩ := hrel
    have Ht := Lib.hid ht
    clear ht
    by_cases hlt : k < n
    · obtain ⟨ad, x, rfl, hxk, hxi, hcx⟩ := hx.at_ hlt
      have hi := isCost_any x w
      change Calls _ _ _ _ (fun e w' => e = .returned (.bool (okC x)) ∧ w = w') at hi
      have HI := Lib.hid hi
      have hs := all_take_snoc (p := okC) hxk
      rw [Ht.out, Bool.true_and] at hs
      have Hs := Lib.hid hs
      have HF := Lib.hid (fun h => all_at_false (p := okC) hxk h)
      clear hxk hxi hi hs
      cases hb : okC x with
      | true =>
        rw [hb] at HI Hs
        clear hb
        go_wp2_with fail
        refine HI.out.mono ?_
        rintro e w' ⟨rfl, rfl⟩
        go_wp2
        go_roundw
        case rel => exact ⟨k + 1, by omega, by go_num, Hs.out, trivial⟩
        case measure => simp [intOf]; omega
      | false =>
        have HF := Lib.hid (HF.out hb)
        rw [hb] at HI
        clear hb
        go_wp2_with fail
        refine HI.out.mono ?_
        rintro e w' ⟨rfl, rfl⟩
        go_wp2
        go_ret
        exact ⟨by rw [HF.out]; rfl, rfl⟩
    · obtain rfl : k = n := by omega
      go_wp2
      go_ret
      have := Ht.out
      rw [List.take_of_length_le (Nat.le_of_eq hx.len)] at this
      exact ⟨by rw [this]; rfl, rfl⟩
def okRow (m : Nat) (r : List Int) : Bool := decide (r.length = m) && r.all okC
set_option maxHeartbeats 1000000 in
theorem proper1_any (B : Option Addr) (n c m g : Nat) (xs : List Int) (w : World) (hx : Nums .i64 w B n xs) (hg : w.cell? ⟨g, 0, none⟩ = some (.int .i64 m)) (hnn : n ≤ 1000000) :
    Calls Tryz.prog 86 #[.slice B n c, .pointer (some ⟨g, 0, none⟩)] w fun e w' => e = .returned (.bool (okRow m xs)) ∧ w = w' := by
  have H := Lib.hid (every1_any B n c xs w hx hnn)
  unfold okRow
  rw [hx.len]
  obtain ⟨b, hb⟩ : ∃ b, b = xs.all okC := ⟨_, rfl⟩
  rw [← hb] at H ⊢
  clear hb hx
  by_cases h : n = m
  · have e : ((n : Int) == (m : Int)) = true := by simp [h]
    rw [decide_eq_true h, Bool.true_and]
    clear h
    go_enter Tryz.func86, Tryz.ntmps86
    go_wp2_with fail
    refine H.out.mono ?_
    rintro e w' ⟨rfl, rfl⟩
    go_wp2
    go_ret
    exact ⟨rfl, rfl⟩
  · have e : ((n : Int) == (m : Int)) = false := by simp; omega
    rw [decide_eq_false h, Bool.false_and]
    clear h
    go_enter Tryz.func86, Tryz.ntmps86
    go_wp2
    go_ret
    exact ⟨rfl, rfl⟩
set_option maxHeartbeats 1000000 in
theorem every2_any (A : Option Addr) (n c m g : Nat) (M : List (List Int)) (w : World) (hM : Mat w A n M) (hg : w.cell? ⟨g, 0, none⟩ = some (.int .i64 m)) (hnn : n ≤ 1000000) (hr : ∀ r ∈ M, r.length ≤ 1000000) :
    Calls Tryz.prog 85 #[.slice A n c, .func (.func 86) #[] #[.pointer (some ⟨g, 0, none⟩)]] w fun e w' => e = .returned (.bool (M.all (okRow m))) ∧ w = w' := by
  have HG := Lib.hid hg
  have HR := Lib.hid hr
  clear hg hr
  go_enter Tryz.func85, Tryz.ntmps85
  go_wp2
  go_loopw [9] (fun i wr => ∃ k : Nat, k ≤ n ∧ i = .int .i64 k ∧ (M.take k).all (okRow m) = true ∧ w = wr) (fun i _ => n - (intOf i).toNat)
  case atStart => exact ⟨0, by omega, rfl, by simp, rfl⟩
  case round =>
    obtain ⟨k, hk, rfl, ht, rfl⟩ := hrel
    have Ht := Lib.hid ht
    clear ht
    by_cases hlt : k < n
    · obtain ⟨ad, r, B, d, rfl, hxk, hcx, hn⟩ := hM.at_ hlt
      have HI := Lib.hid (proper1_any B r.length d m g r w hn HG.out (HR.out r (List.mem_of_getElem? hxk)))
      have hs := all_take_snoc (p := okRow m) hxk
      rw [Ht.out, Bool.true_and] at hs
      have Hs := Lib.hid hs
      have HF := Lib.hid (fun h => all_at_false (p := okRow m) hxk h)
      clear hxk hn hs
      cases hb : okRow m r with
      | true =>
        rw [hb] at HI Hs
        clear hb
        go_wp2_with fail
        refine HI.out.mono ?_
        rintro e w' ⟨rfl, rfl⟩
        go_wp2
        go_roundw
        case rel => exact ⟨k + 1, by omega, by go_num, Hs.out, trivial⟩
        case measure => simp [intOf]; omega
      | false =>
        have HF := Lib.hid (HF.out hb)
        rw [hb] at HI
        clear hb
        go_wp2_with fail
        refine HI.out.mono ?_
        rintro e w' ⟨rfl, rfl⟩
        go_wp2
        go_ret
        exact ⟨by rw [HF.out]; rfl, rfl⟩
    · obtain rfl : k = n := by omega
      go_wp2
      go_ret
      have := Ht.out
      rw [List.take_of_length_le (Nat.le_of_eq hM.1)] at this
      exact ⟨by rw [this]; rfl, rfl⟩
/-- Costs that may be. -/
def okM (M : List (List Int)) : Bool := decide (wid M ≤ 12) && (decide (M.length ≤ wid M) && M.all (okRow (wid M)))
set_option maxHeartbeats 1000000 in
theorem proper_any (A : Option Addr) (n c : Nat) (M : List (List Int)) (w : World) (hM : Mat w A n M) (hnn : n ≤ 1000000) (hr : ∀ r ∈ M, r.length ≤ 1000000) :
    Calls Tryz.prog 68 #[.slice A n c] w fun e w' => e = .returned (.bool (okM M)) ∧ Below w.heap.size w w' := by
  have HW := Lib.hid (width_any A n c M w hM)
  have hb := (Below.refl _ w).alloc (Nat.le_refl _) (.cells #[.int .i64 (wid M)] 3)
  have HB := Lib.hid hb
  have HE := Lib.hid (every2_any A n c (wid M) w.heap.size M _ (hM.keep (Keeps.of_below hb)) (by simp) hnn hr)
  unfold okM
  rw [hM.1]
  obtain ⟨m, hm⟩ : ∃ m, m = wid M := ⟨_, rfl⟩
  obtain ⟨b, hb⟩ : ∃ b, b = M.all (okRow m) := ⟨_, rfl⟩
  rw [← hm] at HW HE HB ⊢
  rw [← hb] at HE ⊢
  clear hb hm hM hr
  by_cases h1 : m ≤ 12
  · have d1 : decide ((m : Int) ≤ 12) = true := by simp; omega
    rw [decide_eq_true h1, Bool.true_and]
    by_cases h2 : n ≤ m
    · have d2 : decide (n ≤ m) = true := by simpa using h2
      rw [d2, Bool.true_and]
      clear h1 h2
      go_enter Tryz.func68, Tryz.ntmps68
      go_wp2_with fail
      refine HW.out.mono ?_
      rintro e w' ⟨rfl, rfl⟩
      go_wp2_with fail
      refine HE.out.mono ?_
      rintro e w' ⟨rfl, rfl⟩
      go_wp2
      go_ret
      exact ⟨rfl, HB.out⟩
    · have d2 : decide (n ≤ m) = false := by simpa using h2
      rw [d2, Bool.false_and]
      clear h1 h2
      go_enter Tryz.func68, Tryz.ntmps68
      go_wp2_with fail
      refine HW.out.mono ?_
      rintro e w' ⟨rfl, rfl⟩
      go_wp2
      go_ret
      exact ⟨rfl, HB.out⟩
  · have d1 : decide ((m : Int) ≤ 12) = false := by simp; omega
    rw [decide_eq_false h1, Bool.false_and]
    clear h1
    go_enter Tryz.func68, Tryz.ntmps68
    go_wp2_with fail
    refine HW.out.mono ?_
    rintro e w' ⟨rfl, rfl⟩
    go_wp2
    go_ret
    exact ⟨rfl, HB.out⟩
end Go.Proofs.YtjllmladhjbnaaaGreatDoor
/- Package match's offers: the free columns, rising, each with what it comes to. -/
namespace Go.Proofs.YtjllmladhjbnaaaGreatDoor
open Go.RowKit Go.Shelf
attribute [local go_sem] Oper.semAt_some
/-- A free column. -/
abbrev Fr (m s : Nat) := { k : Nat // k ∈ free m s }
/-- What column k comes to. -/
def valK (row : List Int) (V : Nat → Int) (k : Nat) : Int := cst row k + V k
theorem free_succ (m s : Nat) : free (m + 1) s = if s.testBit m then free m s else free m s ++ [m] := by
  unfold free
  rw [List.range_succ, List.filter_append, List.filter_cons, List.filter_nil]
  cases s.testBit m <;> simp
theorem free_le (m s : Nat) : (free m s).length ≤ m := by
  unfold free
  exact Nat.le_trans (List.length_filter_le _ _) (by simp)
theorem free_mono {a b s : Nat} (h : a ≤ b) : (free a s).length ≤ (free b s).length := by
  induction h with
  | refl => exact Nat.le_refl _
  | step _ ih =>
    rename_i n h
    rw [free_succ]
    split
    · exact ih
    · rw [List.length_append]; omega
/-- The boxes of offers: what they hold. -/
structure Off (w : World) (b1 b2 b3 G N m s : Nat) (row : List Int) (V : Nat → Int) : Prop where
  row : ∃ R cr, w.cell? ⟨b1, 0, none⟩ = some (.slice R m cr) ∧ Nums .i64 w R m row
  set : w.cell? ⟨b2, 0, none⟩ = some (.int .i64 s)
  rest : w.cell? ⟨b3, 0, none⟩ = some (.slice (some ⟨G, 0, none⟩) N N)
  val : ∀ k ∈ free m s, s ||| 2 ^ k < N ∧ w.cell? ⟨G, s ||| 2 ^ k, none⟩ = some (.int .i64 (V k)) ∧ 0 ≤ V k ∧ V k ≤ 12000000
theorem Off.keep {w w' : World} {b1 b2 b3 G N m s : Nat} {row : List Int} {V : Nat → Int} (h : Off w b1 b2 b3 G N m s row V) (hk : Keeps w w') : Off w' b1 b2 b3 G N m s row V :=
  ⟨by obtain ⟨R, cr, h1, h2⟩ := h.row; exact ⟨R, cr, hk _ _ h1, h2.keep hk⟩, hk _ _ h.set, hk _ _ h.rest, fun k hk' => by obtain ⟨a, b, c⟩ := h.val k hk'; exact ⟨a, hk _ _ b, c⟩⟩
theorem grown_drew (W : World) : W.grownBy W.drew none := ⟨rfl, rfl, rfl, Nat.le_refl _, fun _ _ _ => rfl⟩
set_option maxRecDepth 100000 in
set_option maxHeartbeats 4000000 in
theorem offers1_in (n : Nat) (hn : 1 ≤ n) (l b1 b2 b3 G N m s : Nat) (row : List Int) (V : Nat → Int) (hm : m ≤ 12) (hs : s < 100000) (hrow : ∀ x ∈ row, 0 ≤ x ∧ x ≤ 1000000) (J Jx : List (Fr m s) → World → Prop)
    (W0 W : World) (hO : Off W0 b1 b2 b3 G N m s row V) (hB0 : Below W0.heap.size W0 W) (hA : AbidesFrom W.heap.size J)
    (hY : ∀ pre x W1, J pre W1 → pre.length < (free m s).length → YieldAt Fence.wide (n - 1) Tryz.prog l #[.int .i64 (x.1 : Int), .int .i64 (valK row V x.1)] W1 fun e W' =>
      (e = .returned (.bool true) ∧ J (pre ++ [x]) W' ∧ Below W0.heap.size W1 W') ∨ (e = .returned (.bool false) ∧ Jx (pre ++ [x]) W'))
    (h0 : J [] W) :
    CallsIn Fence.wide n Tryz.prog 109 #[.func (.yield l) #[] #[], .pointer (some ⟨b1, 0, none⟩), .pointer (some ⟨b2, 0, none⟩), .pointer (some ⟨b3, 0, none⟩)] W fun e W' => (∃ v, e = .returned v) ∧
      ((∃ ys : List (Fr m s), ys.map (·.1) = free m s ∧ J ys W') ∨ (∃ pre : List (Fr m s), (∃ k, pre.map (·.1) = free k s) ∧ Jx pre W')) := by
  have HO := Lib.hid hO
  have HR := Lib.hid hrow
  have HY := Lib.hid hY
  obtain ⟨R, cr, c0, hN0⟩ := hO.row
  have c1 := Keeps.of_below hB0 _ _ c0
  have HN := Lib.hid hN0
  clear hO hrow hY c0 hN0
  refine callsIn_of_wp Tryz.func109 rfl trivial ?_ rfl
  simp only [Tryz.ntmps109, List.size_toArray, List.length_cons, List.length_nil, Nat.reduceAdd, Nat.reduceSub, Array.replicate_succ, Array.replicate_zero, List.push_toArray, List.append_toArray, List.nil_append, List.cons_append]
  gi_wp2
  gi_loopw [9] (fun p wr => ∃ (k : Nat) (pre : List (Fr m s)), p = .int .i64 k ∧ k ≤ m ∧ pre.map (·.1) = free k s ∧ J pre wr ∧ Below W0.heap.size W0 wr ∧ W.heap.size ≤ wr.heap.size)
    (fun p _ => m - (intOf p).toNat)
  case atStart => exact ⟨0, [], rfl, Nat.zero_le _, rfl, h0, hB0, Nat.le_refl _⟩
  case round =>
    obtain ⟨k, pre, rfl, hk, hpre, hJ, hB, hz⟩ := hrel
    rename World => wr
    have hO := HO.out.keep (Keeps.of_below hB)
    clear c1 hB0
    have HB := Lib.hid hB
    have Hpre := Lib.hid hpre
    have HJ := Lib.hid hJ
    have hJd : J pre wr.drew := hA _ _ _ _ hJ (grown_drew wr) (fun r e => by cases e)
    have hBd := below_drewN hB 1
    change Below W0.heap.size W0 wr.drew at hBd
    have HJd := Lib.hid hJd
    have HBd := Lib.hid hBd
    clear hpre hJ hJd hBd h0
    by_cases hlt : k < m
    · have hkz : (k : Int) < (m : Int) := by omega
      obtain ⟨rd, x, rfl, hx, hxi, hcx⟩ := (HN.out.keep (Keeps.of_below HB.out)).at_ hlt
      have i0 : (0 : Int) ≤ (k : Int) := by omega
      have HC2 := Lib.hid (show wr.drew.cell? ⟨b2, 0, none⟩ = some (.int .i64 (s : Int)) from hO.set)
      have HX := Lib.hid hx
      clear hx hxi
      cases htb : s.testBit k with
      | true =>
        have hHAS := has_any s k wr.drew (by omega) (by omega)
        rw [htb] at hHAS
        have HAS := Lib.hid hHAS
        have hf := free_succ k s
        rw [if_pos htb] at hf
        have HF := Lib.hid hf
        clear hO htb hHAS hf
        gi_wp2
        refine region_N (S := fun W' => W'.cell? ⟨b2, 0, none⟩ = some (.int .i64 (s : Int))) (kill := []) (by kernel_rfl) HC2.out (fun hHeld => ?_)
        refine anyN_take (i := 0) (v := ?va0) (by kernel_rfl) rfl (by kernel_rfl) (by kernel_rfl) (by kernel_rfl) (by kernel_rfl) (by kernel_rfl) (fun _ _ _ h => h) (fun _ => rfl) (Or.inl ⟨by rfl, ?ya0⟩) hHeld ?ra0
        case ya0 => (intro W hW; go_simp; first | done | with_reducible rfl)
        try simp only [List.getElem_toArray, List.getElem_cons_zero, Act.put, List.setIfInBounds_toArray, List.set_cons_zero, List.set_cons_succ]
        refine anyN_take (i := 1) (v := ?va1) (by kernel_rfl) rfl (by kernel_rfl) (by kernel_rfl) (by kernel_rfl) (by kernel_rfl) (by kernel_rfl) (fun _ _ _ h => h) (fun _ => rfl) (Or.inl ⟨by rfl, ?ya1⟩) hHeld ?ra1
        case ya1 => (intro W hW; go_simp; first | done | with_reducible rfl)
        try simp only [List.getElem_toArray, List.getElem_cons_succ, List.getElem_cons_zero, Act.put, List.setIfInBounds_toArray, List.set_cons_zero, List.set_cons_succ]
        refine anyN_ready (rs := [2]) (by kernel_rfl) (by simp) ?_
        refine AllN.cons (by kernel_rfl) rfl (by rfl) (fun K hK => ?_) (AllN.nil)
        refine ⟨fun _ _ => trivial, ?_⟩
        go_simp
        refine (callsIn_wide.2 HAS.out).mono ?_
        rintro e w' ⟨rfl, rfl⟩
        refine hK.out _ _ (fun _ => HC2.out) ?_
        clear hK K
        try simp only [List.getElem_toArray, List.getElem_cons_succ, List.getElem_cons_zero, Act.put, List.setIfInBounds_toArray, List.set_cons_zero, List.set_cons_succ]
        refine anyN_take (i := 3) (v := ?va3) (by kernel_rfl) rfl (by kernel_rfl) (by kernel_rfl) (by kernel_rfl) (by kernel_rfl) (by kernel_rfl) (fun _ _ _ h => h) (fun _ => rfl) (Or.inl ⟨by rfl, ?ya3⟩) hHeld ?ra3
        case ya3 => (intro W hW; go_simp; first | done | with_reducible rfl)
        try simp only [List.getElem_toArray, List.getElem_cons_succ, List.getElem_cons_zero, Act.put, List.setIfInBounds_toArray, List.set_cons_zero, List.set_cons_succ]
        refine anyN_take (i := 4) (v := ?va4) (by kernel_rfl) rfl (by kernel_rfl) (by kernel_rfl) (by kernel_rfl) (by kernel_rfl) (by kernel_rfl) (fun _ _ _ h => h) (fun _ => rfl) (Or.inl ⟨by rfl, ?ya4⟩) hHeld ?ra4
        case ya4 => (intro W hW; go_simp; first | done | with_reducible rfl)
        try simp only [List.getElem_toArray, List.getElem_cons_succ, List.getElem_cons_zero, Act.put, List.setIfInBounds_toArray, List.set_cons_zero, List.set_cons_succ]
        refine anyN_take (i := 5) (v := undef) (by kernel_rfl) rfl (by kernel_rfl) (by kernel_rfl) (by kernel_rfl) (by kernel_rfl) (by kernel_rfl) (fun _ _ _ h => h) (fun _ => rfl) (Or.inr ⟨by rfl, rfl⟩) hHeld ?ra5
        try simp only [List.getElem_toArray, List.getElem_cons_succ, List.getElem_cons_zero, Act.put, List.setIfInBounds_toArray, List.set_cons_zero, List.set_cons_succ]
        refine anyN_take (i := 6) (v := undef) (by kernel_rfl) rfl (by kernel_rfl) (by kernel_rfl) (by kernel_rfl) (by kernel_rfl) (by kernel_rfl) (fun _ _ _ h => h) (fun _ => rfl) (Or.inr ⟨by rfl, rfl⟩) hHeld ?ra6
        try simp only [List.getElem_toArray, List.getElem_cons_succ, List.getElem_cons_zero, Act.put, List.setIfInBounds_toArray, List.set_cons_zero, List.set_cons_succ]
        refine anyN_take (i := 7) (v := undef) (by kernel_rfl) rfl (by kernel_rfl) (by kernel_rfl) (by kernel_rfl) (by kernel_rfl) (by kernel_rfl) (fun _ _ _ h => h) (fun _ => rfl) (Or.inr ⟨by rfl, rfl⟩) hHeld ?ra7
        try simp only [List.getElem_toArray, List.getElem_cons_succ, List.getElem_cons_zero, Act.put, List.setIfInBounds_toArray, List.set_cons_zero, List.set_cons_succ]
        refine anyN_take (i := 8) (v := undef) (by kernel_rfl) rfl (by kernel_rfl) (by kernel_rfl) (by kernel_rfl) (by kernel_rfl) (by kernel_rfl) (fun _ _ _ h => h) (fun _ => rfl) (Or.inr ⟨by rfl, rfl⟩) hHeld ?ra8
        try simp only [List.getElem_toArray, List.getElem_cons_succ, List.getElem_cons_zero, Act.put, List.setIfInBounds_toArray, List.set_cons_zero, List.set_cons_succ]
        refine anyN_take (i := 9) (v := undef) (by kernel_rfl) rfl (by kernel_rfl) (by kernel_rfl) (by kernel_rfl) (by kernel_rfl) (by kernel_rfl) (fun _ _ _ h => h) (fun _ => rfl) (Or.inr ⟨by rfl, rfl⟩) hHeld ?ra9
        try simp only [List.getElem_toArray, List.getElem_cons_succ, List.getElem_cons_zero, Act.put, List.setIfInBounds_toArray, List.set_cons_zero, List.set_cons_succ]
        refine anyN_take (i := 10) (v := undef) (by kernel_rfl) rfl (by kernel_rfl) (by kernel_rfl) (by kernel_rfl) (by kernel_rfl) (by kernel_rfl) (fun _ _ _ h => h) (fun _ => rfl) (Or.inr ⟨by rfl, rfl⟩) hHeld ?ra10
        try simp only [List.getElem_toArray, List.getElem_cons_succ, List.getElem_cons_zero, Act.put, List.setIfInBounds_toArray, List.set_cons_zero, List.set_cons_succ]
        refine anyN_ready (rs := [11]) (by kernel_rfl) (by simp) ?_
        refine AllN.skip rfl (by rfl) (fun _ => trivial) (fun _ => HC2.out) ?_ (AllN.nil)
        try simp only [List.getElem_toArray, List.getElem_cons_succ, List.getElem_cons_zero, Act.put, List.setIfInBounds_toArray, List.set_cons_zero, List.set_cons_succ]
        refine anyN_take (i := 12) (v := undef) (by kernel_rfl) rfl (by kernel_rfl) (by kernel_rfl) (by kernel_rfl) (by kernel_rfl) (by kernel_rfl) (fun _ _ _ h => h) (fun _ => rfl) (Or.inr ⟨by rfl, rfl⟩) hHeld ?ra12
        try simp only [List.getElem_toArray, List.getElem_cons_succ, List.getElem_cons_zero, Act.put, List.setIfInBounds_toArray, List.set_cons_zero, List.set_cons_succ]
        refine anyN_take (i := 13) (v := undef) (by kernel_rfl) rfl (by kernel_rfl) (by kernel_rfl) (by kernel_rfl) (by kernel_rfl) (by kernel_rfl) (fun _ _ _ h => h) (fun _ => rfl) (Or.inr ⟨by rfl, rfl⟩) hHeld ?ra13
        try simp only [List.getElem_toArray, List.getElem_cons_succ, List.getElem_cons_zero, Act.put, List.setIfInBounds_toArray, List.set_cons_zero, List.set_cons_succ]
        refine anyN_take (i := 14) (v := undef) (by kernel_rfl) rfl (by kernel_rfl) (by kernel_rfl) (by kernel_rfl) (by kernel_rfl) (by kernel_rfl) (fun _ _ _ h => h) (fun _ => rfl) (Or.inr ⟨by rfl, rfl⟩) hHeld ?ra14
        try simp only [List.getElem_toArray, List.getElem_cons_succ, List.getElem_cons_zero, Act.put, List.setIfInBounds_toArray, List.set_cons_zero, List.set_cons_succ]
        refine anyN_ready (rs := [15]) (by kernel_rfl) (by simp) ?_
        refine AllN.skip rfl (by rfl) (fun _ => trivial) (fun _ => HC2.out) ?_ (AllN.nil)
        try simp only [List.getElem_toArray, List.getElem_cons_succ, List.getElem_cons_zero, Act.put, List.setIfInBounds_toArray, List.set_cons_zero, List.set_cons_succ]
        refine anyN_take (i := 16) (v := undef) (by kernel_rfl) rfl (by kernel_rfl) (by kernel_rfl) (by kernel_rfl) (by kernel_rfl) (by kernel_rfl) (fun _ _ _ h => h) (fun _ => rfl) (Or.inr ⟨by rfl, rfl⟩) hHeld ?ra16
        try simp only [List.getElem_toArray, List.getElem_cons_succ, List.getElem_cons_zero, Act.put, List.setIfInBounds_toArray, List.set_cons_zero, List.set_cons_succ]
        refine anyN_take (i := 17) (v := ?va17) (by kernel_rfl) rfl (by kernel_rfl) (by kernel_rfl) (by kernel_rfl) (by kernel_rfl) (by kernel_rfl) (fun _ _ _ h => h) (fun _ => rfl) (Or.inl ⟨by rfl, ?ya17⟩) hHeld ?ra17
        case ya17 => (intro W hW; go_simp; first | done | with_reducible rfl)
        try simp only [List.getElem_toArray, List.getElem_cons_succ, List.getElem_cons_zero, Act.put, List.setIfInBounds_toArray, List.set_cons_zero, List.set_cons_succ]
        refine anyN_done (by kernel_rfl) ?_ _
        gi_wp2
        go_roundw
        case rel => exact ⟨k + 1, pre, by go_num, by omega, by rw [HF.out]; exact Hpre.out, HJd.out, HBd.out, hz⟩
        case measure => simp [intOf]; omega
      | false =>
        have hfk : k ∈ free m s := mem_free.2 ⟨hlt, htb⟩
        have hHAS := has_any s k wr.drew (by omega) (by omega)
        rw [htb] at hHAS
        have HAS := Lib.hid hHAS
        have HWI := Lib.hid (with_any s k wr.drew (by omega) (by omega))
        obtain ⟨v1, v2, v3, v4⟩ := hO.val k hfk
        have hO3 := hO.rest
        obtain ⟨q, hq⟩ : ∃ q, q = s ||| 2 ^ k := ⟨_, rfl⟩
        obtain ⟨v, hv⟩ : ∃ v, v = V k := ⟨_, rfl⟩
        rw [← hq] at HWI v1 v2
        rw [← hv] at v2 v3 v4
        have HCC : Hid (wr.drew.cell? ⟨b2, 0, none⟩ = some (.int .i64 (s : Int)) ∧ wr.drew.cell? ⟨b3, 0, none⟩ = some (.slice (some ⟨G, 0, none⟩) N N) ∧ wr.drew.cell? ⟨G, q, none⟩ = some (.int .i64 v)) := Lib.hid ⟨HC2.out, hO3, v2⟩
        have hxr := HR.out x (List.mem_of_getElem? HX.out)
        have hval : valK row V k = x + v := by unfold valK cst; rw [HX.out, hv]; rfl
        have hplen : pre.length < (free m s).length := by
          have e := congrArg List.length Hpre.out
          rw [List.length_map] at e
          have h1 := free_mono (s := s) (show k + 1 ≤ m by omega)
          rw [free_succ, if_neg (by rw [htb]; simp), List.length_append, List.length_singleton] at h1
          omega
        obtain ⟨fn, tmps, assign, body, hy, hR⟩ := HY.out pre ⟨k, hfk⟩ wr.drew HJd.out hplen
        dsimp only at hy hR
        rw [hval] at hy
        have hf := free_succ k s
        rw [if_neg (by rw [htb]; simp)] at hf
        have HF := Lib.hid hf
        have hq0 : (0 : Int) ≤ (q : Int) := by omega
        have hqN : (q : Int) < (N : Int) := by omega
        have hsum : IntKind.i64.wrap (x + v) = x + v := IntWalk.i64_in _ (by omega)
        clear hO htb hHAS hf hval hv v2 v3 v4 hxr hO3 hq
        gi_wp2
        refine region_N (S := fun W' => W'.cell? ⟨b2, 0, none⟩ = some (.int .i64 (s : Int)) ∧ W'.cell? ⟨b3, 0, none⟩ = some (.slice (some ⟨G, 0, none⟩) N N) ∧ W'.cell? ⟨G, q, none⟩ = some (.int .i64 v)) (kill := [15, 16, 17]) (by kernel_rfl) HCC.out (fun hHeld => ?_)
        refine anyN_take (i := 0) (v := ?vb0) (by kernel_rfl) rfl (by kernel_rfl) (by kernel_rfl) (by kernel_rfl) (by kernel_rfl) (by kernel_rfl) (fun _ _ _ h => h) (fun _ => rfl) (Or.inl ⟨by rfl, ?yb0⟩) hHeld ?rb0
        case yb0 => (intro W hW; obtain ⟨hA, hB, hC⟩ := hW; go_simp; first | done | with_reducible rfl)
        try simp only [List.getElem_toArray, List.getElem_cons_zero, Act.put, List.setIfInBounds_toArray, List.set_cons_zero, List.set_cons_succ]
        refine anyN_take (i := 1) (v := ?vb1) (by kernel_rfl) rfl (by kernel_rfl) (by kernel_rfl) (by kernel_rfl) (by kernel_rfl) (by kernel_rfl) (fun _ _ _ h => h) (fun _ => rfl) (Or.inl ⟨by rfl, ?yb1⟩) hHeld ?rb1
        case yb1 => (intro W hW; obtain ⟨hA, hB, hC⟩ := hW; go_simp; first | done | with_reducible rfl)
        try simp only [List.getElem_toArray, List.getElem_cons_succ, List.getElem_cons_zero, Act.put, List.setIfInBounds_toArray, List.set_cons_zero, List.set_cons_succ]
        refine anyN_ready (rs := [2]) (by kernel_rfl) (by simp) ?_
        refine AllN.cons (by kernel_rfl) rfl (by rfl) (fun K hK => ?_) (AllN.nil)
        refine ⟨fun _ _ => trivial, ?_⟩
        go_simp
        refine (callsIn_wide.2 HAS.out).mono ?_
        rintro e w' ⟨rfl, rfl⟩
        refine hK.out _ _ (fun _ => HCC.out) ?_
        clear hK K
        try simp only [List.getElem_toArray, List.getElem_cons_succ, List.getElem_cons_zero, Act.put, List.setIfInBounds_toArray, List.set_cons_zero, List.set_cons_succ]
        refine anyN_take (i := 3) (v := ?vb3) (by kernel_rfl) rfl (by kernel_rfl) (by kernel_rfl) (by kernel_rfl) (by kernel_rfl) (by kernel_rfl) (fun _ _ _ h => h) (fun _ => rfl) (Or.inl ⟨by rfl, ?yb3⟩) hHeld ?rb3
        case yb3 => (intro W hW; obtain ⟨hA, hB, hC⟩ := hW; go_simp; first | done | with_reducible rfl)
        try simp only [List.getElem_toArray, List.getElem_cons_succ, List.getElem_cons_zero, Act.put, List.setIfInBounds_toArray, List.set_cons_zero, List.set_cons_succ]
        refine anyN_take (i := 4) (v := ?vb4) (by kernel_rfl) rfl (by kernel_rfl) (by kernel_rfl) (by kernel_rfl) (by kernel_rfl) (by kernel_rfl) (fun _ _ _ h => h) (fun _ => rfl) (Or.inl ⟨by rfl, ?yb4⟩) hHeld ?rb4
        case yb4 => (intro W hW; obtain ⟨hA, hB, hC⟩ := hW; go_simp; first | done | with_reducible rfl)
        try simp only [List.getElem_toArray, List.getElem_cons_succ, List.getElem_cons_zero, Act.put, List.setIfInBounds_toArray, List.set_cons_zero, List.set_cons_succ]
        refine anyN_take (i := 5) (v := ?vb5) (by kernel_rfl) rfl (by kernel_rfl) (by kernel_rfl) (by kernel_rfl) (by kernel_rfl) (by kernel_rfl) (fun _ _ _ h => h) (fun _ => rfl) (Or.inl ⟨by rfl, ?yb5⟩) hHeld ?rb5
        case yb5 => (intro W hW; obtain ⟨hA, hB, hC⟩ := hW; go_simp; first | done | with_reducible rfl)
        try simp only [List.getElem_toArray, List.getElem_cons_succ, List.getElem_cons_zero, Act.put, List.setIfInBounds_toArray, List.set_cons_zero, List.set_cons_succ]
        refine anyN_take (i := 6) (v := ?vb6) (by kernel_rfl) rfl (by kernel_rfl) (by kernel_rfl) (by kernel_rfl) (by kernel_rfl) (by kernel_rfl) (fun _ _ _ h => h) (fun _ => rfl) (Or.inl ⟨by rfl, ?yb6⟩) hHeld ?rb6
        case yb6 => (intro W hW; obtain ⟨hA, hB, hC⟩ := hW; go_simp; first | done | with_reducible rfl)
        try simp only [List.getElem_toArray, List.getElem_cons_succ, List.getElem_cons_zero, Act.put, List.setIfInBounds_toArray, List.set_cons_zero, List.set_cons_succ]
        refine anyN_take (i := 7) (v := ?vb7) (by kernel_rfl) rfl (by kernel_rfl) (by kernel_rfl) (by kernel_rfl) (by kernel_rfl) (by kernel_rfl) (fun _ _ _ h => h) (fun _ => rfl) (Or.inl ⟨by rfl, ?yb7⟩) hHeld ?rb7
        case yb7 => (intro W hW; obtain ⟨hA, hB, hC⟩ := hW; go_simp; first | done | with_reducible rfl)
        try simp only [List.getElem_toArray, List.getElem_cons_succ, List.getElem_cons_zero, Act.put, List.setIfInBounds_toArray, List.set_cons_zero, List.set_cons_succ]
        refine anyN_take (i := 8) (v := ?vb8) (by kernel_rfl) rfl (by kernel_rfl) (by kernel_rfl) (by kernel_rfl) (by kernel_rfl) (by kernel_rfl) (fun _ _ _ h => h) (fun _ => rfl) (Or.inl ⟨by rfl, ?yb8⟩) hHeld ?rb8
        case yb8 => (intro W hW; obtain ⟨hA, hB, hC⟩ := hW; go_simp; first | done | with_reducible rfl)
        try simp only [List.getElem_toArray, List.getElem_cons_succ, List.getElem_cons_zero, Act.put, List.setIfInBounds_toArray, List.set_cons_zero, List.set_cons_succ]
        refine anyN_take (i := 9) (v := ?vb9) (by kernel_rfl) rfl (by kernel_rfl) (by kernel_rfl) (by kernel_rfl) (by kernel_rfl) (by kernel_rfl) (fun _ _ _ h => h) (fun _ => rfl) (Or.inl ⟨by rfl, ?yb9⟩) hHeld ?rb9
        case yb9 => (intro W hW; obtain ⟨hA, hB, hC⟩ := hW; go_simp; first | done | with_reducible rfl)
        try simp only [List.getElem_toArray, List.getElem_cons_succ, List.getElem_cons_zero, Act.put, List.setIfInBounds_toArray, List.set_cons_zero, List.set_cons_succ]
        refine anyN_take (i := 10) (v := ?vb10) (by kernel_rfl) rfl (by kernel_rfl) (by kernel_rfl) (by kernel_rfl) (by kernel_rfl) (by kernel_rfl) (fun _ _ _ h => h) (fun _ => rfl) (Or.inl ⟨by rfl, ?yb10⟩) hHeld ?rb10
        case yb10 => (intro W hW; obtain ⟨hA, hB, hC⟩ := hW; go_simp; first | done | with_reducible rfl)
        try simp only [List.getElem_toArray, List.getElem_cons_succ, List.getElem_cons_zero, Act.put, List.setIfInBounds_toArray, List.set_cons_zero, List.set_cons_succ]
        refine anyN_ready (rs := [11]) (by kernel_rfl) (by simp) ?_
        refine AllN.cons (by kernel_rfl) rfl (by rfl) (fun K hK => ?_) (AllN.nil)
        refine ⟨fun _ _ => trivial, ?_⟩
        go_simp
        refine (callsIn_wide.2 HWI.out).mono ?_
        rintro e w' ⟨rfl, rfl⟩
        refine hK.out _ _ (fun _ => HCC.out) ?_
        clear hK K
        try simp only [List.getElem_toArray, List.getElem_cons_succ, List.getElem_cons_zero, Act.put, List.setIfInBounds_toArray, List.set_cons_zero, List.set_cons_succ]
        refine anyN_take (i := 12) (v := ?vb12) (by kernel_rfl) rfl (by kernel_rfl) (by kernel_rfl) (by kernel_rfl) (by kernel_rfl) (by kernel_rfl) (fun _ _ _ h => h) (fun _ => rfl) (Or.inl ⟨by rfl, ?yb12⟩) hHeld ?rb12
        case yb12 => (intro W hW; obtain ⟨hA, hB, hC⟩ := hW; go_simp; first | done | with_reducible rfl)
        try simp only [List.getElem_toArray, List.getElem_cons_succ, List.getElem_cons_zero, Act.put, List.setIfInBounds_toArray, List.set_cons_zero, List.set_cons_succ]
        refine anyN_take (i := 13) (v := ?vb13) (by kernel_rfl) rfl (by kernel_rfl) (by kernel_rfl) (by kernel_rfl) (by kernel_rfl) (by kernel_rfl) (fun _ _ _ h => h) (fun _ => rfl) (Or.inl ⟨by rfl, ?yb13⟩) hHeld ?rb13
        case yb13 => (intro W hW; obtain ⟨hA, hB, hC⟩ := hW; go_simp; first | done | with_reducible rfl)
        try simp only [List.getElem_toArray, List.getElem_cons_succ, List.getElem_cons_zero, Act.put, List.setIfInBounds_toArray, List.set_cons_zero, List.set_cons_succ]
        refine anyN_take (i := 14) (v := ?vb14) (by kernel_rfl) rfl (by kernel_rfl) (by kernel_rfl) (by kernel_rfl) (by kernel_rfl) (by kernel_rfl) (fun _ _ _ h => h) (fun _ => rfl) (Or.inl ⟨by rfl, ?yb14⟩) hHeld ?rb14
        case yb14 => (intro W hW; obtain ⟨hA, hB, hC⟩ := hW; go_simp; first | done | with_reducible rfl)
        try simp only [List.getElem_toArray, List.getElem_cons_succ, List.getElem_cons_zero, Act.put, List.setIfInBounds_toArray, List.set_cons_zero, List.set_cons_succ]
        refine anyN_ready (rs := [15]) (by kernel_rfl) (by simp) ?_
        refine AllN.cons (by kernel_rfl) rfl (by rfl) (fun K hK => ?_) (AllN.nil)
        refine ⟨fun _ _ => trivial, ?_⟩
        go_simp
        refine hR.mono ?_
        rintro e W3 (⟨rfl, hJ3, hk3⟩ | ⟨rfl, hJx3⟩)
        · have HJ3 := Lib.hid hJ3
          have HB3 := Lib.hid (HBd.out.trans hk3)
          have hz3 := hk3.size
          clear hJ3 hk3 hy
          refine hK.out _ _ (fun h => absurd (by decide) h) ?_
          clear hK K
          try simp only [List.getElem_toArray, List.getElem_cons_succ, List.getElem_cons_zero, Act.put, List.setIfInBounds_toArray, List.set_cons_zero, List.set_cons_succ]
          refine anyN_late (i := 16) (v := ?vc16) (by kernel_rfl) rfl (by kernel_rfl) (by kernel_rfl) (by kernel_rfl) (by kernel_rfl) (by decide) (fun _ _ _ h => h) (fun _ => rfl) (Or.inl ⟨by rfl, ?yc16⟩) ?rc16
          case yc16 => (intro W hW; go_simp; first | done | with_reducible rfl)
          try simp only [List.getElem_toArray, List.getElem_cons_succ, List.getElem_cons_zero, Act.put, List.setIfInBounds_toArray, List.set_cons_zero, List.set_cons_succ]
          refine anyN_late (i := 17) (v := ?vc17) (by kernel_rfl) rfl (by kernel_rfl) (by kernel_rfl) (by kernel_rfl) (by kernel_rfl) (by decide) (fun _ _ _ h => h) (fun _ => rfl) (Or.inl ⟨by rfl, ?yc17⟩) ?rc17
          case yc17 => (intro W hW; go_simp; first | done | with_reducible rfl)
          try simp only [List.getElem_toArray, List.getElem_cons_succ, List.getElem_cons_zero, Act.put, List.setIfInBounds_toArray, List.set_cons_zero, List.set_cons_succ]
          refine anyN_done (by kernel_rfl) ?_ _
          gi_wp2
          go_roundw
          case rel => exact ⟨k + 1, pre ++ [⟨k, hfk⟩], by go_num, by omega, by rw [HF.out, List.map_append, Hpre.out]; rfl, HJ3.out, HB3.out, Nat.le_trans hz hz3⟩
          case measure => simp [intOf]; omega
        · have HJ3 := Lib.hid hJx3
          clear hJx3 hy
          refine hK.out _ _ (fun h => absurd (by decide) h) ?_
          clear hK K
          try simp only [List.getElem_toArray, List.getElem_cons_succ, List.getElem_cons_zero, Act.put, List.setIfInBounds_toArray, List.set_cons_zero, List.set_cons_succ]
          refine anyN_late (i := 16) (v := ?vd16) (by kernel_rfl) rfl (by kernel_rfl) (by kernel_rfl) (by kernel_rfl) (by kernel_rfl) (by decide) (fun _ _ _ h => h) (fun _ => rfl) (Or.inl ⟨by rfl, ?yd16⟩) ?rd16
          case yd16 => (intro W hW; go_simp; first | done | with_reducible rfl)
          try simp only [List.getElem_toArray, List.getElem_cons_succ, List.getElem_cons_zero, Act.put, List.setIfInBounds_toArray, List.set_cons_zero, List.set_cons_succ]
          refine anyN_late (i := 17) (v := ?vd17) (by kernel_rfl) rfl (by kernel_rfl) (by kernel_rfl) (by kernel_rfl) (by kernel_rfl) (by decide) (fun _ _ _ h => h) (fun _ => rfl) (Or.inl ⟨by rfl, ?yd17⟩) ?rd17
          case yd17 => (intro W hW; go_simp; first | done | with_reducible rfl)
          try simp only [List.getElem_toArray, List.getElem_cons_succ, List.getElem_cons_zero, Act.put, List.setIfInBounds_toArray, List.set_cons_zero, List.set_cons_succ]
          refine anyN_done (by kernel_rfl) ?_ _
          gi_wp2
          refine bodyPost_ret (results_none rfl _ _ _) rfl ?_
          exact ⟨⟨_, rfl⟩, .inr ⟨pre ++ [⟨k, hfk⟩], ⟨k + 1, by rw [HF.out, List.map_append, Hpre.out]; rfl⟩, HJ3.out⟩⟩
    · obtain rfl : k = m := by omega
      have hkz : decide ((k : Int) < (k : Int)) = false := by simp
      clear hO
      gi_wp2
      go_end0
      exact ⟨⟨_, rfl⟩, .inl ⟨pre, Hpre.out, HJ.out⟩⟩
theorem offers_stops (n : Nat) (hn : 1 ≤ n) (b1 b2 b3 G N m s : Nat) (row : List Int) (V : Nat → Int) (hm : m ≤ 12) (hs : s < 100000) (hrow : ∀ x ∈ row, 0 ≤ x ∧ x ≤ 1000000) (w : World) (hO : Off w b1 b2 b3 G N m s row V) :
    SeqStopsK Fence.wide n Tryz.prog 109 #[.pointer (some ⟨b1, 0, none⟩), .pointer (some ⟨b2, 0, none⟩), .pointer (some ⟨b3, 0, none⟩)] (fun x : Fr m s => #[Value.int .i64 (x.1 : Int), Value.int .i64 (valK row V x.1)]) (Below w.heap.size) (fun ys => ys.map (·.1) = free m s) (fun pre => ∃ k, pre.map (·.1) = free k s) (free m s).length w := fun l J Jx W hW hA _ hY h0 =>
  offers1_in n hn l b1 b2 b3 G N m s row V hm hs hrow J Jx w W hO hW hA hY h0
set_option maxHeartbeats 1000000 in
theorem offers_any (Vr Vc : Value) (s : Int) (hr : (∃ a n c, Vr = .slice a n c) ∧ (∃ a n c, Vc = .slice a n c)) (w : World) :
    Calls Tryz.prog 91 #[Vr, Vc, .int .i64 s] w fun e w' => e = .returned (.func (.func 109) #[] #[.pointer (some ⟨w.heap.size + 1, 0, none⟩), .pointer (some ⟨w.heap.size + 2, 0, none⟩), .pointer (some ⟨w.heap.size, 0, none⟩)]) ∧ w' = ((w.alloc (.cells #[Vr] 96)).alloc (.cells #[Vc] 22)).alloc (.cells #[.int .i64 s] 108) := by
  obtain ⟨⟨a, n, c, rfl⟩, ⟨a', n', c', rfl⟩⟩ := hr
  go_enter Tryz.func91, Tryz.ntmps91
  go_wp2
  go_ret
  exact ⟨rfl, rfl⟩
end Go.Proofs.YtjllmladhjbnaaaGreatDoor
/- Package match's least: the least of what free columns come to. -/
namespace Go.Proofs.YtjllmladhjbnaaaGreatDoor
open Go.RowKit Go.Shelf
attribute [local go_sem] Oper.semAt_some
set_option maxRecDepth 100000 in
set_option maxHeartbeats 4000000 in
theorem least_any (b1 b2 b3 G N m s : Nat) (row : List Int) (V : Nat → Int) (hm : m ≤ 12) (hs : s < 100000) (hrow : ∀ x ∈ row, 0 ≤ x ∧ x ≤ 1000000) (w : World) (hO : Off w b1 b2 b3 G N m s row V) :
    Calls Tryz.prog 90 #[.func (.func 109) #[] #[.pointer (some ⟨b1, 0, none⟩), .pointer (some ⟨b2, 0, none⟩), .pointer (some ⟨b3, 0, none⟩)]] w fun e w' => e = .returned (.int .i64 (leastI ((free m s).map (valK row V)))) ∧ Below w.heap.size w w' := by
  refine callsIn_wide (n := 9).1 ?_
  have HO := Lib.hid hO
  have HR := Lib.hid hrow
  obtain ⟨f, hf⟩ : ∃ f : List (Fr m s) → Int, f = fun pre => leastI (pre.map fun x => valK row V x.1) := ⟨_, rfl⟩
  have HF := Lib.hid hf
  have hf0 : f [] = 0 := by rw [hf]; rfl
  clear hO hrow hf
  refine callsIn_of_wp_marks Tryz.func90 rfl trivial ?_ rfl
  simp only [Tryz.ntmps90, List.size_toArray, List.length_cons, List.length_nil, Nat.reduceAdd, Nat.reduceSub, Array.replicate_succ, Array.replicate_zero, List.push_toArray, List.append_toArray, List.nil_append, List.cons_append]
  gi_wp2
  have b0 := (Boxed.new w 3 (.int .i64 0)).alloc (.cells #[.bool true] 4)
  have b1' := Boxed.new (w.alloc (.cells #[.int .i64 0] 3)) 4 (.bool true)
  simp only [World.size_alloc] at b1'
  have hB : Below w.heap.size w ((w.alloc (.cells #[.int .i64 0] 3)).alloc (.cells #[.bool true] 4)) := ((Below.refl _ w).alloc (Nat.le_refl _) _).alloc (by simp) _
  have hz : ((w.alloc (.cells #[.int .i64 0] 3)).alloc (.cells #[.bool true] 4)).heap.size = w.heap.size + 2 := by simp
  generalize (w.alloc (.cells #[.int .i64 0] 3)).alloc (.cells #[.bool true] 4) = w4 at b0 b1' hB hz ⊢
  refine wpIn_rangeFunc_ownG rfl (by omega) (gf := 109) (lb := #[.pointer (some ⟨b1, 0, none⟩), .pointer (some ⟨b2, 0, none⟩), .pointer (some ⟨b3, 0, none⟩)]) rfl trivial (enters_of Tryz.func109 (by kernel_rfl) rfl)
    (offers_stops 8 (by omega) b1 b2 b3 G N m s row V hm hs HR.out w HO.out) belowK_t (belowK_b (by omega)) hB (fun _ => rfl)
    (fun pre W => (Boxed W w.heap.size 3 (.int .i64 (f pre)) ∧ Boxed W (w.heap.size + 1) 4 (.bool pre.isEmpty)) ∧ Below w.heap.size w W)
    (fun _ _ _ => False)
    (OwnFrom.and (OwnFrom.and (Own.from (boxed_own _ _ (fun pre : List (Fr m s) => .int .i64 (f pre))) _) (Own.from (boxed_own _ _ (fun pre : List (Fr m s) => .bool pre.isEmpty)) _)) (ownFrom_below (by omega) (by omega)))
    (fun _ _ _ _ _ hs _ _ => hs)
    ⟨⟨by rw [hf0]; exact b0, b1'⟩, hB⟩
    (fun x => { tmps := #[.func (.func 109) #[] #[.pointer (some ⟨b1, 0, none⟩), .pointer (some ⟨b2, 0, none⟩), .pointer (some ⟨b3, 0, none⟩)], undef, .pointer (some ⟨w.heap.size, 0, none⟩), .pointer (some ⟨w.heap.size + 1, 0, none⟩), undef, .int .i64 (valK row V x.1), .func (.func 109) #[] #[.pointer (some ⟨b1, 0, none⟩), .pointer (some ⟨b2, 0, none⟩), .pointer (some ⟨b3, 0, none⟩)], .int .i64 (x.1 : Int), .int .i64 (valK row V x.1), undef, undef, undef, undef, undef, undef, undef, undef], defers := [] }) ?assign ?body ?done ?stop
  case assign =>
    intro l x W K hK
    gi_wp2
    exact hK
  case done =>
    rintro D ys W hD hys ⟨⟨hv, -⟩, hBW⟩ hK
    have hc := hv.cell
    have hfz := hv.frozen
    have HBW := Lib.hid hBW
    have HK := Lib.hid hK
    have Hys := Lib.hid hys
    have HV := Lib.hid hv
    clear hys hBW hv
    gi_wp2
    have hD2 : (W.setCell ⟨w.heap.size, 0, none⟩ (.int .i64 (f ys))).heap[D]? = some (.deferred (some [])) := (Below.heap_setCell _ _ _ _ (by show D ≠ w.heap.size; omega)).trans HK.out
    refine ⟨by simp, .inl ⟨_, _, rfl, run_takeDeferred hD2, ?_⟩⟩
    have hc2 : ((W.setCell ⟨w.heap.size, 0, none⟩ (.int .i64 (f ys))).putObj D (.deferred none)).cell? ⟨w.heap.size, 0, none⟩ = some (.int .i64 (f ys)) :=
      Boxed.cell ((World.putObj_heap_other (by omega)).trans (HV.out.set (.int .i64 (f ys))))
    refine ⟨.int .i64 (f ys), ?_, ?_, ?_⟩
    · simp [results, go_sem, hc2]
    · have e := HF.out
      have h2 := Hys.out
      subst e
      dsimp only
      have h3 : ys.map (fun x => valK row V x.1) = (ys.map (·.1)).map (valK row V) := by rw [List.map_map]; rfl
      exact ret_int (congrArg leastI (h3.trans (congrArg (List.map (valK row V)) h2)))
    · exact (HBW.out.setCell (p := ⟨w.heap.size, 0, none⟩) (Nat.le_refl _) _).trans (belowK_b (w := w) (Nat.le_refl _) _ D _ _ (by omega) hD2 rfl rfl)
  case stop =>
    rintro D c pre W _ _ h _
    exact h.elim
  case body =>
    rintro l pre x W ⟨⟨g0, g1⟩, hBW⟩ hlt
    have hc0 := g0.cell
    have hc1 := g1.cell
    have hf0 := g0.frozen
    have hf1 := g1.frozen
    have hfs : f (pre ++ [x]) = if pre = [] then valK row V x.1 else if valK row V x.1 < f pre then valK row V x.1 else f pre := by
      rw [HF.out]
      dsimp only
      rw [List.map_append, List.map_cons, List.map_nil, leastI_snoc]
      simp only [List.map_eq_nil_iff]
    have HFS := Lib.hid hfs
    have Hg0 := Lib.hid g0
    have Hg1 := Lib.hid g1
    have HBW := Lib.hid hBW
    have hWz := hBW.size
    have fin : ∀ (A : Act) (y : Int), f (pre ++ [x]) = y → ownPostG w4.heap.size (Below w.heap.size) (fun pre W => (Boxed W w.heap.size 3 (.int .i64 (f pre)) ∧ Boxed W (w.heap.size + 1) 4 (.bool pre.isEmpty)) ∧ Below w.heap.size w W) (fun _ _ _ => False) (pre ++ [x]) W   .normal A ((W.setCell ⟨w.heap.size, 0, none⟩ (.int .i64 y)).setCell ⟨w.heap.size + 1, 0, none⟩ (.bool false)) := by
      intro A y hy
      have hs : Below w.heap.size W ((W.setCell ⟨w.heap.size, 0, none⟩ (.int .i64 y)).setCell ⟨w.heap.size + 1, 0, none⟩ (.bool false)) := ((Below.refl _ W).setCell (p := ⟨w.heap.size, 0, none⟩) (Nat.le_refl _) _).setCell (p := ⟨w.heap.size + 1, 0, none⟩) (by show w.heap.size ≤ w.heap.size + 1; omega) _
      refine ⟨((KeepsOthers.setCell _ _ _).trans (KeepsOthers.setCell _ _ _)).from _, hs, ⟨?_, ?_⟩, HBW.out.trans hs⟩
      · rw [hy]; exact (Hg0.out.set _).other (by omega) _
      · have e : (pre ++ [x]).isEmpty = false := by simp
        rw [e]
        exact (Hg1.out.other (by omega) _).set _
    have FIN := Lib.hid fin
    clear fin hfs g0 g1 hBW hWz
    by_cases hp : pre = []
    · have he : pre.isEmpty = true := by rw [hp]; rfl
      rw [he] at hc1
      have hy : f (pre ++ [x]) = valK row V x.1 := by rw [HFS.out, if_pos hp]
      have HFN := Lib.hid (fun A => FIN.out A _ hy)
      clear hp he hy FIN HFS
      gi_wp2
      exact HFN.out _
    · have he : pre.isEmpty = false := by cases pre with | nil => exact absurd rfl hp | cons a t => rfl
      rw [he] at hc1
      by_cases hv : valK row V x.1 < f pre
      · have hy : f (pre ++ [x]) = valK row V x.1 := by rw [HFS.out, if_neg hp, if_pos hv]
        have HFN := Lib.hid (fun A => FIN.out A _ hy)
        have hd : decide (valK row V x.1 < f pre) = true := by simpa using hv
        clear hp he hy FIN HFS hv
        gi_wp2
        exact HFN.out _
      · have hy : f (pre ++ [x]) = f pre := by rw [HFS.out, if_neg hp, if_neg hv]
        have hd : decide (valK row V x.1 < f pre) = false := by simpa using hv
        have HY := Lib.hid hy
        clear hp hy FIN HFS hv
        have HE := Lib.hid he
        clear he
        gi_wp2
        refine ⟨(KeepsOthers.refl _).from _, Below.refl _ _, ⟨?_, ?_⟩, HBW.out⟩
        · rw [HY.out]; exact Hg0.out
        · have e : (pre ++ [x]).isEmpty = false := by simp
          rw [e, ← HE.out]
          exact Hg1.out
end Go.Proofs.YtjllmladhjbnaaaGreatDoor
/- Package match's restsOf. -/
namespace Go.Proofs.YtjllmladhjbnaaaGreatDoor
open Go.RowKit Go.Shelf
attribute [local go_sem] Oper.semAt_some
/-- What is filled from t on. -/
def fillL (M : List (List Int)) (N t : Nat) : List Int := (List.range N).map fun s => if s < t then 0 else restV M s
theorem fillL_len (M : List (List Int)) (N t : Nat) : (fillL M N t).length = N := by simp [fillL]
theorem fillL_at (M : List (List Int)) {N t s : Nat} (h : s < N) (ht : t ≤ s) : (fillL M N t)[s]? = some (restV M s) := by
  unfold fillL
  rw [List.getElem?_map, List.getElem?_range h]
  simp; omega
theorem fillL_set (M : List (List Int)) {N s : Nat} : (fillL M N (s + 1)).set s (restV M s) = fillL M N s := by
  apply List.ext_getElem
  · simp [fillL]
  · intro i h1 h2
    simp only [fillL, List.getElem_set, List.getElem_map, List.getElem_range]
    by_cases h : s = i
    · subst h; simp
    · by_cases h3 : i < s
      · rw [if_neg h, if_pos (by omega), if_pos h3]
      · rw [if_neg h, if_neg (by omega), if_neg h3]
theorem fillL_skip (M : List (List Int)) {N s : Nat} (h : restV M s = 0) : fillL M N (s + 1) = fillL M N s := by
  unfold fillL
  apply List.map_congr_left
  intro i _
  by_cases h1 : i < s
  · rw [if_pos (by omega), if_pos h1]
  · by_cases h2 : i = s
    · subst h2; rw [if_pos (by omega), if_neg (by omega), h]
    · rw [if_neg (by omega), if_neg h1]
theorem fillL_all (M : List (List Int)) (N : Nat) : fillL M N N = List.replicate N 0 := by
  apply List.ext_getElem
  · simp [fillL]
  · intro i h1 h2
    simp only [fillL, List.getElem_map, List.getElem_range, List.getElem_replicate]
    rw [if_pos (by simpa [fillL] using h1)]
theorem fillL_zero (M : List (List Int)) {N t s : Nat} (h : s < N) (ht : s < t) : (fillL M N t)[s]? = some 0 := by
  unfold fillL
  rw [List.getElem?_map, List.getElem?_range h]
  simp; omega
theorem box3 (w : World) (t1 t2 t3 : TypeId) (v1 v2 v3 : Value) : (((w.alloc (.cells #[v1] t1)).alloc (.cells #[v2] t2)).alloc (.cells #[v3] t3)).cell? ⟨w.heap.size, 0, none⟩ = some v1 ∧
    (((w.alloc (.cells #[v1] t1)).alloc (.cells #[v2] t2)).alloc (.cells #[v3] t3)).cell? ⟨w.heap.size + 1, 0, none⟩ = some v2 ∧ (((w.alloc (.cells #[v1] t1)).alloc (.cells #[v2] t2)).alloc (.cells #[v3] t3)).cell? ⟨w.heap.size + 2, 0, none⟩ = some v3 := by
  refine ⟨(((Boxed.new w t1 v1).alloc _).alloc _).cell, ?_, ?_⟩
  · have := ((Boxed.new (w.alloc (.cells #[v1] t1)) t2 v2).alloc (.cells #[v3] t3)).cell
    rwa [World.size_alloc] at this
  · have := (Boxed.new ((w.alloc (.cells #[v1] t1)).alloc (.cells #[v2] t2)) t3 v3).cell
    rwa [World.size_alloc, World.size_alloc] at this
/-- The rests of all sets of columns. -/
def restL (M : List (List Int)) : List Int := fillL M (2 ^ wid M) 0
/-- Costs that may be, as numbers. -/
theorem okM_spec {M : List (List Int)} (h : okM M = true) : wid M ≤ 12 ∧ M.length ≤ wid M ∧ ∀ r ∈ M, r.length = wid M ∧ ∀ x ∈ r, 0 ≤ x ∧ x ≤ 1000000 := by
  unfold okM at h
  simp only [Bool.and_eq_true, decide_eq_true_eq, List.all_eq_true] at h
  obtain ⟨h1, h2, h3⟩ := h
  refine ⟨h1, h2, fun r hr => ?_⟩
  have := h3 r hr
  unfold okRow at this
  simp only [Bool.and_eq_true, decide_eq_true_eq, List.all_eq_true] at this
  refine ⟨this.1, fun x hx => ?_⟩
  have := this.2 x hx
  unfold okC at this
  simpa using this
theorem or_gt {s k m : Nat} (h : k ∈ free m s) (hs : s < 2 ^ m) : s < s ||| 2 ^ k ∧ s ||| 2 ^ k < 2 ^ m := by
  obtain ⟨h1, h2⟩ := mem_free.1 h
  refine ⟨?_, Nat.or_lt_two_pow hs (Nat.pow_lt_pow_right (by omega) h1)⟩
  have a : s ≤ s ||| 2 ^ k := Nat.left_le_or
  have b : s ≠ s ||| 2 ^ k := fun e => by
    have := or_bit s k k
    rw [← e, h2] at this
    simp at this
  omega
theorem pcN_le (s : Nat) : pcN s ≤ 12 := by
  unfold pcN
  exact Nat.le_trans List.countP_le_length (by simp)
set_option maxRecDepth 100000 in
set_option maxHeartbeats 4000000 in
theorem restsOf_any (A : Option Addr) (n c : Nat) (M : List (List Int)) (w : World) (hM : Mat w A n M) (hok : okM M = true) :
    Calls Tryz.prog 69 #[.slice A n c] w fun e w' => ∃ G, e = .returned (.slice (some ⟨G, 0, none⟩) (2 ^ wid M) (2 ^ wid M)) ∧ Arr .i64 3 w' G (restL M) ∧ w.heap.size ≤ G ∧ Below w.heap.size w w' := by
  obtain ⟨k1, k2, k3⟩ := okM_spec hok
  have HW := Lib.hid (width_any A n c M w hM)
  have HK := Lib.hid k3
  have hlen := hM.1
  have HM := Lib.hid hM
  unfold restL
  obtain ⟨m, hm⟩ : ∃ m, m = wid M := ⟨_, rfl⟩
  rw [← hm] at k1 k2 HW HK ⊢
  rw [hlen] at k2
  obtain ⟨N, hN⟩ : ∃ N, N = 2 ^ m := ⟨_, rfl⟩
  have n1 : 1 ≤ N := by rw [hN]; exact Nat.one_le_two_pow
  have n2 : N ≤ 4096 := by
    rw [hN]
    have : 2 ^ m ≤ 2 ^ 12 := Nat.pow_le_pow_right (by omega) k1
    omega
  have hsh : wrap64 (2 ^ m) = (N : Int) := by rw [pow_wrap m (by omega), hN]
  rw [← hN]
  obtain ⟨i0, hi, hz0, hz1, hz2⟩ := info_parts infoI
  have hmk := make_ints (P := Tryz.prog) 96 3 i0 Tryz.underlying96 hi hz0 hz1 hz2 N (by omega) w
  have HMK := Lib.hid hmk
  have harr := Arr.made w 3 N
  rw [← fillL_all M N] at harr
  have hb2 : Below w.heap.size w (w.alloc (.cells (madeCells #[.int .i64 0] N) 3)) := (Below.refl _ w).alloc (Nat.le_refl _) _
  obtain ⟨w2, hw2⟩ : ∃ w2, w2 = w.alloc (.cells (madeCells #[.int .i64 0] N) 3) := ⟨_, rfl⟩
  rw [← hw2] at hmk harr hb2
  obtain ⟨G, hG⟩ : ∃ G, G = w.heap.size := ⟨_, rfl⟩
  rw [← hG] at hmk harr
  have hGw : w.heap.size ≤ G := by omega
  have Harr := Lib.hid harr
  have Hb2 := Lib.hid hb2
  have HNp := Lib.hid hN
  have HL := Lib.hid hlen
  clear hw2 harr hb2 hG HMK i0 hi hz0 hz1 hz2 hN hm hlen hM k3 hok
  go_enter Tryz.func69, Tryz.ntmps69
  go_wp2_with fail
  refine HW.out.mono ?_
  rintro e w' ⟨rfl, rfl⟩
  go_wp2
  rw [hsh]
  go_loopw [4] (fun p wr => ∃ t : Nat, p = .int .i64 ((t : Int) - 1) ∧ t ≤ N ∧ Arr .i64 3 wr G (fillL M N t) ∧ Below w.heap.size w wr) (fun p _ => (intOf p + 1).toNat)
  case atStart => exact ⟨N, rfl, Nat.le_refl _, Harr.out, Hb2.out⟩
  case round =>
    obtain ⟨t, rfl, ht, harr, hb⟩ := hrel
    rename World => wr
    have HA := Lib.hid harr
    have HB := Lib.hid hb
    have hGl := harr.lt
    clear harr hb
    cases t with
    | zero =>
      have hneg : ¬ (0 ≤ (((0 : Nat) : Int) - 1)) := by omega
      go_wp2
      go_ret
      exact ⟨G, rfl, HA.out, hGw, HB.out⟩
    | succ s =>
      rw [show (((s + 1 : Nat) : Int) - 1) = (s : Int) by omega]
      have hs0 : (0 : Int) ≤ (s : Int) := by omega
      have hNX := Lib.hid (next_any s wr (by omega))
      have hpc := pcN_le s
      by_cases hrow : pcN s < n
      · obtain ⟨ad, r, B, d, rfl, hr, hcx, hnr⟩ := (HM.out.keep (Keeps.of_below HB.out)).at_ hrow
        obtain ⟨rl, rb⟩ := HK.out r (List.mem_of_getElem? hr)
        have hrv := restV_row hr (by omega)
        rw [rl] at hrv hcx hnr
        have hd : decide (((pcN s : Nat) : Int) < (n : Int)) = true := decide_eq_true (by omega)
        have hsN : s < N := by omega
        have HF := Lib.hid (offers_any (.slice (some ⟨G, 0, none⟩) N N) (.slice B m d) (s : Int) ⟨⟨_, _, _, rfl⟩, ⟨_, _, _, rfl⟩⟩ wr)
        have hbO : Below wr.heap.size wr (((wr.alloc (.cells #[.slice (some ⟨G, 0, none⟩) N N] 96)).alloc (.cells #[.slice B m d] 22)).alloc (.cells #[.int .i64 (s : Int)] 108)) := (((Below.refl _ wr).alloc (Nat.le_refl _) _).alloc (by simp) _).alloc (by simp; omega) _
        have hO : Off (((wr.alloc (.cells #[.slice (some ⟨G, 0, none⟩) N N] 96)).alloc (.cells #[.slice B m d] 22)).alloc (.cells #[.int .i64 (s : Int)] 108)) (wr.heap.size + 1) (wr.heap.size + 2) wr.heap.size G N m s r (fun k => restV M (s ||| 2 ^ k)) := by
          have kO := Keeps.of_below hbO
          obtain ⟨x3, x1, x2⟩ := box3 wr 96 22 108 (.slice (some ⟨G, 0, none⟩) N N) (.slice B m d) (.int .i64 (s : Int))
          refine ⟨⟨B, d, x1, hnr.keep kO⟩, x2, x3, fun k hk => ?_⟩
          obtain ⟨o1, o2⟩ := or_gt hk (by rw [← HNp.out]; exact hsN)
          rw [← HNp.out] at o2
          have hv := restV_in M (s ||| 2 ^ k) (fun r hr => (HK.out r hr).2) (by rw [HL.out]; omega)
          exact ⟨o2, kO _ _ (HA.out.cell (fillL_at M o2 (by omega))), hv⟩
        have HLE := Lib.hid (least_any _ _ _ G N m s r _ k1 (by omega) rb _ hO)
        obtain ⟨w4, hw4⟩ : ∃ w4, w4 = ((wr.alloc (.cells #[.slice (some ⟨G, 0, none⟩) N N] 96)).alloc (.cells #[.slice B m d] 22)).alloc (.cells #[.int .i64 (s : Int)] 108) := ⟨_, rfl⟩
        rw [← hw4] at HF HLE hbO
        have HBO := Lib.hid hbO
        obtain ⟨g0, hg0⟩ : ∃ g0, g0 = wr.heap.size := ⟨_, rfl⟩
        rw [← hg0] at HF HLE
        obtain ⟨v, hv⟩ : ∃ v, v = restV M s := ⟨_, rfl⟩
        have hve : leastI ((free m s).map (valK r fun k => restV M (s ||| 2 ^ k))) = v := by rw [hv, hrv]; rfl
        rw [hve] at HLE
        have HV := Lib.hid hv
        clear hr rb hrv hnr hO hw4 hbO hg0 hv hve rl
        go_wp2_with fail
        refine hNX.out.mono ?_
        rintro e w' ⟨rfl, rfl⟩
        go_wp2_with fail
        refine HF.out.mono ?_
        rintro e w' ⟨rfl, rfl⟩
        go_wp2_with fail
        refine HLE.out.mono ?_
        rintro e w5 ⟨rfl, hb5⟩
        have hb6 : Below wr.heap.size wr w5 := HBO.out.trans (hb5.mono HBO.out.size)
        have ha5 := HA.out.below hb6 hGl
        have HA5 := Lib.hid ha5
        have hc5 := ha5.cell (fillL_zero M hsN (show s < s + 1 by omega))
        have hfz := ha5.frozen s
        clear hb5 ha5
        have hb7 := HB.out.trans (hb6.mono HB.out.size)
        have HB7 := Lib.hid hb7
        have hsNz : (s : Int) < (N : Int) := by omega
        clear hb6 hb7
        go_wp2
        go_roundw
        case rel => exact ⟨s, rfl, by omega, by rw [← fillL_set, ← HV.out]; exact HA5.out.set_ _ _, HB7.out.setCell hGw _⟩
        case measure => simp [intOf]
      · have hd : decide (((pcN s : Nat) : Int) < (n : Int)) = false := decide_eq_false (by omega)
        have hz := fillL_skip M (N := N) (restV_none (M := M) (s := s) (by rw [HL.out]; omega))
        have HZ := Lib.hid hz
        clear hz
        go_wp2_with fail
        refine hNX.out.mono ?_
        rintro e w' ⟨rfl, rfl⟩
        go_wp2
        go_roundw
        case rel => exact ⟨s, rfl, by omega, by rw [← HZ.out]; exact HA.out, HB.out⟩
        case measure => simp [intOf]
end Go.Proofs.YtjllmladhjbnaaaGreatDoor
/- Package match's first: the first of the least choices. -/
namespace Go.Proofs.YtjllmladhjbnaaaGreatDoor
open Go.RowKit Go.Shelf
attribute [local go_sem] Oper.semAt_some
theorem below_put9 {n₀ l : Nat} {W : World} {o : Obj} (o' : Obj) (hl : n₀ ≤ l) (h : W.heap[l]? = some o) : Below n₀ W (W.putObj l o') :=
  (Below.refl n₀ W).grown (grownBy_putObj' W l o') (by have := (Array.getElem?_eq_some_iff.1 h).1; omega) (fun k e => by cases e; omega)
/-- Rounds' deferred calls: none in each. -/
def mkD (r : Nat) : Deferred := { target := .collected r, args := #[] }
theorem leaves_many {F : Fence} {n : Nat} {P : Program} {fn : Func} {tmps : Array Value} {R : Ending → World → Prop} {B : Nat} : ∀ (rs : List Nat) (W : World), rs.Nodup → (∀ r ∈ rs, B ≤ r ∧ W.heap[r]? = some (.deferred (some []))) →
    (∀ W', Below B W W' → (∀ (k : Nat) (o : Obj), W.heap[k]? = some o → o.isCells = true → W'.heap[k]? = some o) → LeavesIn F n P fn tmps R [] .returning W') → LeavesInM F n P fn tmps R (rs.map mkD) .returning W
  | [], W, _, _, h => h W (Below.refl _ _) (fun _ _ h _ => h)
  | r :: rs, W, hn, hr, h => by
    obtain ⟨hB, hd⟩ := hr r (List.mem_cons_self ..)
    rw [List.nodup_cons] at hn
    refine ⟨by simp, .inl ⟨r, _, rfl, run_takeDeferred hd, ?_⟩⟩
    have hb := below_put9 (n₀ := B) (.deferred none) hB hd
    refine leaves_many rs _ hn.2 (fun x hx => ⟨(hr x (List.mem_cons_of_mem _ hx)).1, (World.putObj_heap_other (fun e => hn.1 (by rw [← e]; exact hx))).trans (hr x (List.mem_cons_of_mem _ hx)).2⟩) (fun W' hb' hk => h W' (hb.trans hb') (fun k o ho hc => ?_))
    refine hk k o ((World.putObj_heap_other (fun e => ?_)).trans ho) hc
    rw [e] at ho
    rw [hd] at ho
    injection ho with ho
    rw [← ho] at hc
    cases hc
section
variable {F : Fence} {n : Nat} {P : Program} {Q : Exit → Act → World → Prop} {a : Act} {w : World}
theorem stepR_scope {b : Frame} {k : List Item} {cs : List Frame} {c : Code} : step P (lone (b.atR a (.code (.scope c) :: k)) cs w) = .next (lone (b.atR a (.code c :: .inScope c :: k)) cs w) :=
  step_lone_go (by simp [stepG, stepG.exec, Frame.atR])
theorem stepR_inScope {b : Frame} {k : List Item} {cs : List Frame} {c : Code} : step P (lone (b.atR a (.inScope c :: k)) cs w) = .next (lone (b.atR a k) cs w) :=
  step_lone_go (by simp [stepG, stepG.exec, Frame.atR])
/-- A scope, inside a fence, through which the run goes without a goto. -/
theorem wpIn_scope_straight {c : Code} (h : c.wpIn F n P (Exit.noGoto Q) a w) : (Code.scope c).wpIn F n P Q a w := by
  intro b k cs hro hb hr
  have h0 : (lone (b.atR a (.code (.scope c) :: k)) cs w).fenced P F := fenced_calm hb hr rfl
  obtain ⟨e, a₁, w₁, hq, harr⟩ := h b (.inScope c :: k) cs hro hb hr
  cases e with
  | normal => exact ⟨.normal, a₁, w₁, hq, .head h0 stepR_scope (StepsIn.trans harr (.one (fenced_calm hb hr rfl) stepR_inScope))⟩
  | exit id =>
    have hx : exitTo id (.inScope c :: k) = exitTo id k := by simp [exitTo]
    exact ⟨.exit id, a₁, w₁, hq, fun k' hk => .head h0 stepR_scope (harr.1 k' (by rw [hx]; exact hk)),
      fun hr' hk => let ⟨k₁, h1, h2⟩ := harr.2 hr' (by rw [hx]; exact hk); ⟨k₁, h1, .head h0 stepR_scope h2⟩⟩
  | goto l => exact hq.elim
  | ret => exact ⟨_, a₁, w₁, hq, .of_steps (.one h0 stepR_scope) harr⟩
  | panic ch => exact ⟨_, a₁, w₁, hq, .of_steps (.one h0 stepR_scope) harr⟩
  | outgrown => exact ⟨_, a₁, w₁, hq, .of_steps (.one h0 stepR_scope) harr⟩
end
/-- Where first stands: which columns are taken, what has come, whose rounds are over. -/
structure FS (w W : World) (G N s : Nat) (T : List Nat) (rs : List Nat) : Prop where
  b0 : Boxed W w.heap.size 96 (.slice (some ⟨G, 0, none⟩) N N)
  b1 : ∃ P cc, Boxed W (w.heap.size + 1) 22 (.slice P T.length cc) ∧ OI (w.heap.size + 3) W (.slice P T.length cc) (T.map fun (k : Nat) => (k : Int))
  b2 : Boxed W (w.heap.size + 2) 108 (.int .i64 (s : Int))
  below : Below w.heap.size w W
  nd : rs.Nodup
  ds : ∀ r ∈ rs, w.heap.size + 3 ≤ r ∧ W.heap[r]? = some (.deferred (some []))
theorem FS.own {w W W' : World} {G N s B : Nat} {T rs : List Nat} {row : Option Nat} (h : FS w W G N s T rs) (hB : w.heap.size + 3 ≤ B) (hrs : ∀ r ∈ rs, r < B) (hg : W.grownBy W' row) (hr : ∀ r, row = some r → B ≤ r ∧ ∃ o : Obj, W.heap[r]? = some o ∧ o.isCells = false) : FS w W' G N s T rs := by
  have ne : ∀ k, k < B → some k ≠ row := fun k hk e => by have := (hr k e.symm).1; omega
  obtain ⟨P, cc, h1, h2⟩ := h.b1
  obtain ⟨v, g1, g2, g3⟩ := (holdsRow_own (w.heap.size + 3) (w.heap.size + 1) 22 3 1 (fun _ : Unit => (T.map fun (k : Nat) => (k : Int)).length) (fun _ => ints (T.map fun (k : Nat) => (k : Int))) (fun _ v => v = .slice P T.length cc)) () W W' row ⟨_, h1, h2.1, rfl⟩ hg (fun r e => (hr r e).2)
  subst g3
  exact ⟨h.b0.kept hg (ne _ (by omega)), ⟨P, cc, g1, g2, h2.2⟩, h.b2.kept hg (ne _ (by omega)), h.below.grown hg h.below.size (fun k e => by have := (hr k e).1; omega), h.nd,
    fun r hm => ⟨(h.ds r hm).1, (hg.block r (Array.getElem?_eq_some_iff.1 (h.ds r hm).2).1 (ne r (hrs r hm))).trans (h.ds r hm).2⟩⟩
theorem FS.alloc {w W : World} {G N s : Nat} {T rs : List Nat} (h : FS w W G N s T rs) (hz : w.heap.size + 3 ≤ W.heap.size) (o : Obj) : FS w (W.alloc o) G N s T rs :=
  h.own (B := W.heap.size) hz (fun r hr => (Array.getElem?_eq_some_iff.1 (h.ds r hr).2).1) (World.grownBy_alloc W o none) (fun r e => by cases e)
theorem cast_map (T : List Nat) (x : Nat) : ((T ++ [x]).map fun (k : Nat) => (k : Int)) = (T.map fun (k : Nat) => (k : Int)) ++ [(x : Int)] := by simp
theorem OI.keepC {B : Nat} {w w' : World} {v : Value} {xs : List Int} (h : OI B w v xs) (hk : ∀ (k : Nat) (o : Obj), w.heap[k]? = some o → o.isCells = true → w'.heap[k]? = some o) : OI B w' v xs := by
  refine ⟨own_stay h.1 fun k hkk => ?_, h.2⟩
  rcases h.1.2 with ⟨rfl, _⟩ | ⟨g, cap, cur, rfl, hg, hh, hr⟩
  · cases hkk
  · obtain rfl : g = k := by simpa [Value.ownBlock] using hkk
    exact (hk _ _ hh rfl).trans hh.symm
theorem OI.other {B g i : Nat} {w : World} {v : Value} {xs : List Int} (h : OI B w v xs) (u : Value) (hne : v.ownBlock ≠ some g) : OI B (w.setCell ⟨g, i, none⟩ u) v xs :=
  ⟨own_stay h.1 fun k hk => Below.heap_setCell _ _ _ _ fun e => hne (by rw [hk, e]), h.2⟩
/-- One number is appended to a row of the call's own. -/
theorem append_intC (wr : World) (B : Nat) (v : Value) (xs : List Int) (x : Int) (h : wr.ownsRow B 3 1 v xs.length (ints xs)) (hn : xs.length ≤ 1000000) (hB : B ≤ wr.heap.size) :
    ∃ v' w', (Builtin.append_ #[22, 22] 22 #[v, .slice (some ⟨wr.heap.size, 0, none⟩) 1 1]).run Tryz.prog (wr.alloc (.cells #[.int .i64 x] 3)) = .ok v' w' ∧ w'.ownsRow B 3 1 v' (xs.length + 1) (ints (xs ++ [x])) ∧ (wr.alloc (.cells #[.int .i64 x] 3)).grownBy w' v.ownBlock := by
  obtain ⟨i0, hi, hz0, hz1, hz2⟩ := info_parts infoI
  obtain ⟨v', w', hrun, ho, hgr, _, _⟩ := run_append_own_at (P := Tryz.prog) (wr.alloc (.cells #[.int .i64 x] 3)) B 22 22 3 i0 _ 1 8 Tryz.underlying22 hi hz0 hz1 hz2 rfl (by omega) v xs.length (ints xs) (h.alloc _)
    ⟨wr.heap.size, 0, none⟩ 1 1 [.int .i64 x] rfl (fun j u hu => by
      rw [add0, show (wr.alloc (.cells #[.int .i64 x] 3)).cell? ⟨wr.heap.size, j, none⟩ = #[.int .i64 x][j]? from cell_of_row _ _ _ _ 3 (0, 0) (heap_alloc_new wr _)]
      simpa using hu)
    (by intro u hu; simp at hu; subst hu; rfl) (by simp [maxLen]; omega) (by omega) (by simp; omega)
  exact ⟨v', w', hrun, by simpa [ints] using ho, hgr⟩
theorem FS.push {w W w1 : World} {G N s s' x cc g' cap' : Nat} {P : Option Addr} {T rs : List Nat} (h : FS w W G N s T rs) (hb1 : Boxed W (w.heap.size + 1) 22 (.slice P T.length cc)) (ho : OI (w.heap.size + 3) W (.slice P T.length cc) (T.map fun (k : Nat) => (k : Int)))
    (hx : x ≤ 1000000) (ho' : w1.ownsRow (w.heap.size + 3) 3 1 (.slice (some ⟨g', 0, none⟩) (T.length + 1) cap') (T.length + 1) (ints ((T.map fun (k : Nat) => (k : Int)) ++ [(x : Int)]))) {tmp : Obj} (hgr : (W.drew.alloc tmp).grownBy w1 (Value.slice P T.length cc).ownBlock) (hz : w.heap.size + 3 ≤ W.heap.size) :
    FS w ((w1.setCell ⟨w.heap.size + 1, 0, none⟩ (.slice (some ⟨g', 0, none⟩) (T.length + 1) cap')).setCell ⟨w.heap.size + 2, 0, none⟩ (.int .i64 (s' : Int))) G N s' (T ++ [x]) rs ∧
    KeepsOthers W ((w1.setCell ⟨w.heap.size + 1, 0, none⟩ (.slice (some ⟨g', 0, none⟩) (T.length + 1) cap')).setCell ⟨w.heap.size + 2, 0, none⟩ (.int .i64 (s' : Int))) ∧
    w1.cell? ⟨w.heap.size + 1, 0, none⟩ = some (.slice P T.length cc) ∧ w1.frozen? ⟨w.heap.size + 1, 0, none⟩ = false ∧ w1.cell? ⟨w.heap.size + 2, 0, none⟩ = some (.int .i64 (s : Int)) ∧ w1.frozen? ⟨w.heap.size + 2, 0, none⟩ = false := by
  have hod : W.drew.ownsRow (w.heap.size + 3) 3 1 (.slice P T.length cc) (T.map fun (k : Nat) => (k : Int)).length (ints (T.map fun (k : Nat) => (k : Int))) := ho.1
  obtain ⟨hv1, hv2, -, hk2, hb2⟩ := Boxed.appended (W := W.drew) (n₀ := w.heap.size) hb1 (by decide) (own_mono hod (show w.heap.size ≤ w.heap.size + 3 by omega)) (by show w.heap.size ≤ W.heap.size; omega) (by omega) (own_mono ho' (show w.heap.size ≤ w.heap.size + 3 by omega)) hgr
  have ne2 : some (w.heap.size + 2) ≠ (Value.slice P T.length cc).ownBlock := Boxed.not_row (W := W.drew) h.b2 (by decide) hod
  have ne0 : some w.heap.size ≠ (Value.slice P T.length cc).ownBlock := Boxed.not_row (W := W.drew) h.b0 (by decide) hod
  have x0 : Boxed w1 w.heap.size 96 (.slice (some ⟨G, 0, none⟩) N N) := (Boxed.alloc (W := W.drew) h.b0 tmp).kept hgr ne0
  have x2 : Boxed w1 (w.heap.size + 2) 108 (.int .i64 (s : Int)) := (Boxed.alloc (W := W.drew) h.b2 tmp).kept hgr ne2
  have hbl : Below w.heap.size w W.drew := h.below.drew
  have hlt := (ho'.lt g' (by simp [Value.ownBlock])).1
  refine ⟨⟨(x0.other (by omega) _).other (by omega) _, ⟨some ⟨g', 0, none⟩, cap', ?_, ?_, ?_⟩, (x2.other (by omega) _).set _, ?_, h.nd, fun r hr => ⟨(h.ds r hr).1, ?_⟩⟩, ?_, hv1.cell, hv1.frozen, x2.cell, x2.frozen⟩
  · rw [List.length_append, List.length_singleton]
    exact hv2.other (by omega) _
  · rw [cast_map]
    have := own_stay (w' := (w1.setCell ⟨w.heap.size + 1, 0, none⟩ (.slice (some ⟨g', 0, none⟩) (T.length + 1) cap')).setCell ⟨w.heap.size + 2, 0, none⟩ (.int .i64 (s' : Int))) ho' (fun j hj => by
      have hj2 := (ho'.lt j hj).1
      exact (Below.heap_setCell _ _ _ _ (by show j ≠ w.heap.size + 2; omega)).trans (Below.heap_setCell _ _ _ _ (by show j ≠ w.heap.size + 1; omega)))
    simpa using this
  · intro y hy
    rw [cast_map] at hy
    rcases List.mem_append.1 hy with g | g
    · exact ho.2 y g
    · rw [List.mem_singleton.1 g]; constructor <;> omega
  · exact (hbl.trans hb2).setCell (p := ⟨w.heap.size + 2, 0, none⟩) (by show w.heap.size ≤ w.heap.size + 2; omega) _
  · exact ((KeepsOthers.drew W).trans (hk2.trans (KeepsOthers.setCell _ _ _))).same _ _ (h.ds r hr).2 rfl
  · exact (KeepsOthers.drew W).trans (hk2.trans (KeepsOthers.setCell _ _ _))
set_option maxRecDepth 100000 in
set_option maxHeartbeats 8000000 in
theorem first_any (A : Option Addr) (n c G N : Nat) (M : List (List Int)) (w : World) (hM : Mat w A n M) (hok : okM M = true) (hN : N = 2 ^ wid M) (hG : Arr .i64 3 w G (restL M)) :
    Calls Tryz.prog 70 #[.slice (some ⟨G, 0, none⟩) N N, .slice A n c] w fun e w' => ∃ v, e = .returned v ∧ OI w.heap.size w' v ((fst1 M 0).map fun (k : Nat) => (k : Int)) ∧ Below w.heap.size w w' := by
  refine callsIn_wide (n := 9).1 ?_
  obtain ⟨k1, k2, k3⟩ := okM_spec hok
  unfold restL at hG
  obtain ⟨m, hm⟩ : ∃ m, m = wid M := ⟨_, rfl⟩
  rw [← hm] at k1 k2 k3 hN hG
  rw [← hN] at hG
  have HK := Lib.hid k3
  have HL := Lib.hid hM.1
  have HM := Lib.hid hM
  have HG := Lib.hid hG
  have HNp := Lib.hid hN
  have hGw := hG.lt
  have n2 : N ≤ 4096 := by
    rw [hN]
    have : 2 ^ m ≤ 2 ^ 12 := Nat.pow_le_pow_right (by omega) k1
    omega
  have n1 : 1 ≤ N := by rw [hN]; exact Nat.one_le_two_pow
  have hn12 : n ≤ 12 := by have := hM.1; omega
  have hnm : n ≤ m := by have := hM.1; omega
  clear k2 k3 hok hG hN hm hM
  refine callsIn_of_wp_marks Tryz.func70 rfl trivial ?_ rfl
  simp only [Tryz.ntmps70, List.size_toArray, List.length_cons, List.length_nil, Nat.reduceAdd, Nat.reduceSub, Array.replicate_succ, Array.replicate_zero, List.push_toArray, List.append_toArray, List.nil_append, List.cons_append]
  gi_wp2
  refine wpIn_scope_straight ?_
  gi_wp2
  refine wpIn_label ?_
  gi_wp2
  rw [show w.heap.size + 1 + 1 = w.heap.size + 2 from rfl]
  have hbw : Below w.heap.size w (((w.alloc (.cells #[.slice (some ⟨G, 0, none⟩) N N] 96)).alloc (.cells #[.slice none 0 0] 22)).alloc (.cells #[.int .i64 0] 108)) := (((Below.refl _ w).alloc (Nat.le_refl _) _).alloc (by simp) _).alloc (by simp; omega) _
  have hfs0 : FS w (((w.alloc (.cells #[.slice (some ⟨G, 0, none⟩) N N] 96)).alloc (.cells #[.slice none 0 0] 22)).alloc (.cells #[.int .i64 0] 108)) G N 0 [] [] := by
    refine ⟨((Boxed.new w 96 (.slice (some ⟨G, 0, none⟩) N N)).alloc _).alloc _, ⟨none, 0, ?_, OI.nil _ _⟩, ?_, hbw, List.nodup_nil, fun r h => by cases h⟩
    · have := (Boxed.new (w.alloc (.cells #[.slice (some ⟨G, 0, none⟩) N N] 96)) 22 (.slice none 0 0)).alloc (.cells #[.int .i64 0] 108)
      rwa [World.size_alloc] at this
    · have := Boxed.new ((w.alloc (.cells #[.slice (some ⟨G, 0, none⟩) N N] 96)).alloc (.cells #[.slice none 0 0] 22)) 108 (.int .i64 0)
      rwa [World.size_alloc, World.size_alloc] at this
  have HF0 := Lib.hid hfs0
  clear hbw hfs0
  refine wpIn_loop (fun a W => ∃ (k s : Nat) (T rs : List Nat) (u7 u13 u14 u15 u16 u17 u18 u19 u35 : Value), a = { tmps := #[.slice (some ⟨G, 0, none⟩) N N, .slice A n c, .pointer (some ⟨w.heap.size, 0, none⟩), undef, .pointer (some ⟨w.heap.size + 1, 0, none⟩), .pointer (some ⟨w.heap.size + 2, 0, none⟩), undef, u7, undef, undef, .slice A n c, .int .i64 (n : Int), .int .i64 (k : Int), u13, u14, u15, u16, u17, u18, u19, undef, undef, undef, undef, undef, undef, undef, undef, undef, undef, undef, undef, undef, undef, undef, u35, undef], defers := rs.map mkD } ∧ k ≤ n ∧ s < N ∧ pcN s = k ∧ T.length = k ∧ T ++ fst1 (M.drop k) s = fst1 M 0 ∧ Room (M.drop k) m s ∧ FS w W G N s T rs) (fun a _ => n - (intOf (a.tmps.getD 12 undef)).toNat) ?st ?rd
  case st =>
    exact ⟨0, 0, [], [], undef, undef, undef, undef, undef, undef, undef, undef, undef, rfl, Nat.zero_le _, by omega, by decide +kernel, rfl, rfl, ⟨fun r hr => (HK.out r hr).1, by
      have e : (free m 0).length = m := by unfold free; rw [List.filter_eq_self.2 (by simp)]; simp
      rw [e, List.drop_zero, HL.out]; exact hnm⟩, HF0.out⟩
  case rd =>
    rintro a W ⟨k, s, T, rs, u7, u13, u14, u15, u16, u17, u18, u19, u35, rfl, hk, hs, hpc, hTl, hTf, hroom, hfs⟩
    have HF := Lib.hid hfs
    have HR := Lib.hid hroom
    have HT := Lib.hid hTf
    have HTL := Lib.hid hTl
    have HPC := Lib.hid hpc
    clear hfs hroom hTf hTl hpc HF0
    have hWz : w.heap.size + 3 ≤ W.heap.size := by have := HF.out.b2.lt; omega
    by_cases hlt : k < n
    · have hltz : (k : Int) < (n : Int) := by omega
      obtain ⟨ad, r, B, d, rfl, hr, hcx, hnr⟩ := (HM.out.keep (Keeps.of_below HF.out.below)).at_ hlt
      obtain ⟨rl, rb⟩ := HK.out r (List.mem_of_getElem? hr)
      rw [rl] at hcx hnr
      have i0 : (0 : Int) ≤ (k : Int) := by omega
      have hAr := HG.out.below HF.out.below hGw
      have hdrop : M.drop k = r :: M.drop (k + 1) := by
        obtain ⟨h1, rfl⟩ := List.getElem?_eq_some_iff.1 hr
        exact List.drop_eq_getElem_cons h1
      have hR := HR.out
      rw [hdrop] at hR
      obtain ⟨x0, hx0, e0, hfirst, hfst⟩ := fst1_cons hR
      have hval : ∀ x, x ∈ free m s → valK r (fun k => restV M (s ||| 2 ^ k)) x = cst r x + restR (M.drop (k + 1)) (s ||| 2 ^ x) := fun x hx => by
        obtain ⟨f1, f2⟩ := mem_free.1 hx
        show cst r x + restR (M.drop (pcN (s ||| 2 ^ x))) (s ||| 2 ^ x) = _
        rw [pcN_or f2 (by omega), HPC.out]
      have hrest : restV M s = restR (r :: M.drop (k + 1)) s := by unfold restV; rw [HPC.out, hdrop]
      have HO1 := Lib.hid (offers_any (.slice (some ⟨G, 0, none⟩) N N) (.slice B m d) (s : Int) ⟨⟨_, _, _, rfl⟩, ⟨_, _, _, rfl⟩⟩ W)
      have hbO : Below W.heap.size W (((W.alloc (.cells #[.slice (some ⟨G, 0, none⟩) N N] 96)).alloc (.cells #[.slice B m d] 22)).alloc (.cells #[.int .i64 (s : Int)] 108)) := (((Below.refl _ W).alloc (Nat.le_refl _) _).alloc (by simp) _).alloc (by simp; omega) _
      have hz4 : (((W.alloc (.cells #[.slice (some ⟨G, 0, none⟩) N N] 96)).alloc (.cells #[.slice B m d] 22)).alloc (.cells #[.int .i64 (s : Int)] 108)).heap.size = W.heap.size + 3 := by simp
      have hO : Off (((W.alloc (.cells #[.slice (some ⟨G, 0, none⟩) N N] 96)).alloc (.cells #[.slice B m d] 22)).alloc (.cells #[.int .i64 (s : Int)] 108)) (W.heap.size + 1) (W.heap.size + 2) W.heap.size G N m s r (fun k => restV M (s ||| 2 ^ k)) := by
        have kO := Keeps.of_below hbO
        obtain ⟨x3, x1, x2⟩ := box3 W 96 22 108 (.slice (some ⟨G, 0, none⟩) N N) (.slice B m d) (.int .i64 (s : Int))
        refine ⟨⟨B, d, x1, hnr.keep kO⟩, x2, x3, fun k hk => ?_⟩
        obtain ⟨o1, o2⟩ := or_gt hk (by rw [← HNp.out]; exact hs)
        rw [← HNp.out] at o2
        have hv := restV_in M (s ||| 2 ^ k) (fun r hr => (HK.out r hr).2) (by rw [HL.out]; omega)
        exact ⟨o2, kO _ _ (hAr.cell (fillL_at M o2 (by omega))), hv⟩
      have hR0 := hAr.cell (fillL_at M (t := 0) hs (Nat.zero_le _))
      have hfs4 : FS w (((W.alloc (.cells #[.slice (some ⟨G, 0, none⟩) N N] 96)).alloc (.cells #[.slice B m d] 22)).alloc (.cells #[.int .i64 (s : Int)] 108)) G N s T rs := ((HF.out.alloc hWz _).alloc (by simp; omega) _).alloc (by simp; omega) _
      have hrs4 : ∀ r ∈ rs, r < (((W.alloc (.cells #[.slice (some ⟨G, 0, none⟩) N N] 96)).alloc (.cells #[.slice B m d] 22)).alloc (.cells #[.int .i64 (s : Int)] 108)).heap.size := fun r hr => by have := (Array.getElem?_eq_some_iff.1 (HF.out.ds r hr).2).1; omega
      obtain ⟨w4, hw4⟩ : ∃ w4, w4 = ((W.alloc (.cells #[.slice (some ⟨G, 0, none⟩) N N] 96)).alloc (.cells #[.slice B m d] 22)).alloc (.cells #[.int .i64 (s : Int)] 108) := ⟨_, rfl⟩
      have hR4 := Keeps.of_below hbO _ _ hR0
      rw [← hw4] at HO1 hbO hO hz4 hfs4 hrs4 hR4
      have HO := Lib.hid hO
      have HFS4 := Lib.hid hfs4
      have HR4' := Lib.hid (fun W' (hb : Below w.heap.size w W') => (HG.out.below hb hGw).cell (fillL_at M (t := 0) hs (Nat.zero_le _)))
      obtain ⟨V, hV⟩ : ∃ V : Nat → Int, V = fun k => restV M (s ||| 2 ^ k) := ⟨_, rfl⟩
      rw [← hV] at HO hval
      obtain ⟨R0, hR0e⟩ : ∃ R0, R0 = restV M s := ⟨_, rfl⟩
      rw [← hR0e] at HR4' hrest
      have HVAL := Lib.hid hval
      have HRST := Lib.hid hrest
      have HFI := Lib.hid hfirst
      have HE0 := Lib.hid e0
      have HFST := Lib.hid hfst
      have HDROP := Lib.hid hdrop
      have HRB := Lib.hid rb
      have HRR := Lib.hid hR
      have q0 := HF.out.b0.cell
      have q2 := HF.out.b2.cell
      clear hr rb rl hAr hdrop hR e0 hfirst hfst hval hrest hO hfs4 hR0 hR4 hw4 hV hR0e hnr
      gi_wp2_with (refine ⟨trivial, ?_⟩; gi_at_call 91; refine (callsIn_wide.2 HO1.out).mono ?_; rintro e w' ⟨rfl, rfl⟩)
      refine wpIn_rangeFunc_ownG rfl (by omega) (gf := 109) (lb := #[.pointer (some ⟨W.heap.size + 1, 0, none⟩), .pointer (some ⟨W.heap.size + 2, 0, none⟩), .pointer (some ⟨W.heap.size, 0, none⟩)]) rfl trivial (enters_of Tryz.func109 (by kernel_rfl) rfl)
        (offers_stops 8 (by omega) _ _ _ G N m s r V k1 (by omega) HRB.out w' HO.out) belowK_t (belowK_b (Nat.le_refl _)) (Below.refl _ _) (fun _ => rfl)
        (fun pre W' => (∀ y ∈ pre, valK r V y.1 ≠ R0) ∧ FS w W' G N s T rs)
        (fun c pre W' => c = .exit 1 ∧ ∃ pre' x, pre = pre' ++ [x] ∧ (∀ y ∈ pre', valK r V y.1 ≠ R0) ∧ valK r V x.1 = R0 ∧ FS w W' G N (s ||| 2 ^ x.1) (T ++ [x.1]) rs)
        (fun pre X Y row ⟨h1, h2⟩ hg hr => ⟨h1, h2.own (by omega) hrs4 hg hr⟩)
        (fun c pre X Y row ⟨h0, pre', x, h1, h2, h3, h4⟩ hg hr => ⟨h0, pre', x, h1, h2, h3, h4.own (by omega) hrs4 hg hr⟩)
        ⟨(fun y hy => by cases hy), HFS4.out⟩
        (fun x => { tmps := #[.slice (some ⟨G, 0, none⟩) N N, .slice (some ad) n c, .pointer (some ⟨w.heap.size, 0, none⟩), undef, .pointer (some ⟨w.heap.size + 1, 0, none⟩), .pointer (some ⟨w.heap.size + 2, 0, none⟩), undef, .slice B m d, .int .i64 (x.1 : Int), .int .i64 (valK r V x.1), .slice (some ad) n c, .int .i64 (n : Int), .int .i64 (k : Int), .bool true, .pointer (some (ad.add k)), .slice B m d, .slice (some ⟨G, 0, none⟩) N N, .slice B m d, .int .i64 (s : Int), .func (.func 109) #[] #[.pointer (some ⟨W.heap.size + 1, 0, none⟩), .pointer (some ⟨W.heap.size + 2, 0, none⟩), .pointer (some ⟨W.heap.size, 0, none⟩)], .int .i64 (x.1 : Int), .int .i64 (valK r V x.1), undef, undef, undef, undef, undef, undef, undef, undef, undef, undef, undef, undef, undef, u35, undef], defers := [] }) ?assign ?body ?done ?stop
      case assign =>
        intro l x W' K hK
        gi_wp2
        exact hK
      case done =>
        rintro D ys W' hD hys ⟨h1, h2⟩ hK
        exfalso
        have hmem : x0 ∈ ys.map (·.1) := by rw [hys]; exact hx0
        obtain ⟨y, hy, rfl⟩ := List.mem_map.1 hmem
        exact h1 y hy (by rw [HVAL.out _ hx0, HE0.out, HRST.out])
      case stop =>
        rintro D c pre W' hD ⟨kk, hsp⟩ ⟨rfl, pre', x, rfl, h1, h2, h3⟩ hK
        have hxf : x.1 ∈ free kk s := by rw [← hsp]; simp
        have hxx : x.1 = x0 := by
          rcases Nat.lt_trichotomy x.1 x0 with hl | hl | hl
          · exact absurd (by rw [← HVAL.out _ x.2, h2, HRST.out]) (HFI.out _ x.2 hl)
          · exact hl
          · have hm0 : x0 ∈ free kk s := mem_free.2 ⟨by have := (mem_free.1 hxf).1; omega, (mem_free.1 hx0).2⟩
            rw [← hsp, List.map_append, List.mem_append] at hm0
            rcases hm0 with hm0 | hm0
            · obtain ⟨y, hy, e⟩ := List.mem_map.1 hm0
              exact absurd (by rw [e, HVAL.out _ hx0, HE0.out, HRST.out]) (h1 y hy)
            · simp only [List.map_cons, List.map_nil, List.mem_singleton] at hm0
              omega
        rw [hxx] at h3
        obtain ⟨f1, f2⟩ := mem_free.1 hx0
        have hnew : FS w W' G N (s ||| 2 ^ x0) (T ++ [x0]) (D :: rs) := ⟨h3.b0, h3.b1, h3.b2, h3.below, List.nodup_cons.2 ⟨fun hm => by have := hrs4 D hm; omega, h3.nd⟩, fun r hr => by
          rcases List.mem_cons.1 hr with rfl | hr
          · exact ⟨by omega, hK⟩
          · exact h3.ds r hr⟩
        have HNEW := Lib.hid hnew
        have HXX := Lib.hid (show fst1 (r :: M.drop (k + 1)) s = x0 :: fst1 (M.drop (k + 1)) (s ||| 2 ^ x0) from HFST.out)
        have hs' : s ||| 2 ^ x0 < N := by
          have := (or_gt hx0 (by rw [← HNp.out]; exact hs)).2
          rw [← HNp.out] at this
          exact this
        clear hsp hxf hxx h1 h2 h3 hnew q0 q2
        gi_wp2
        exact ⟨⟨k + 1, s ||| 2 ^ x0, T ++ [x0], D :: rs, _, _, _, _, _, _, _, _, _, rfl, by omega, hs', by rw [pcN_or f2 (by omega), HPC.out], by rw [List.length_append, HTL.out]; rfl,
          by rw [← HT.out, HDROP.out, HXX.out, List.append_assoc]; rfl, HRR.out.step hx0, HNEW.out⟩, by simp [intOf]; omega⟩
      case body =>
        rintro l pre x W' ⟨h1, h2⟩ hlen
        have q0 := h2.b0.cell
        have q2 := h2.b2.cell
        have hR0 : W'.cell? ⟨G, s, none⟩ = some (.int .i64 R0) := HR4'.out _ h2.below
        have sN : (s : Int) < (N : Int) := by omega
        have s0 : (0 : Int) ≤ (s : Int) := by omega
        have H2 := Lib.hid h2
        have H1 := Lib.hid h1
        clear h1 h2
        by_cases hv : valK r V x.1 = R0
        · have hb : (valK r V x.1 == R0) = true := by simp [hv]
          have HVE := Lib.hid hv
          obtain ⟨P, cc, hb1, ho⟩ := H2.out.b1
          have hWz' : w.heap.size + 3 ≤ W'.heap.size := by have := H2.out.b2.lt; omega
          obtain ⟨v', w1, hrun, ho', hgr⟩ := append_intC W'.drew (w.heap.size + 3) (.slice P T.length cc) (T.map fun (k : Nat) => (k : Int)) (x.1 : Int) ho.1 (by rw [List.length_map, HTL.out]; omega) hWz'
          rw [List.length_map] at ho'
          obtain ⟨g', cap', e'⟩ := ownsRow_succ ho'
          subst e'
          obtain ⟨p1, p2, p3, p4, p5, p6⟩ := H2.out.push (s' := s ||| 2 ^ x.1) hb1 ho (x := x.1) (by have := (mem_free.1 x.2).1; omega) ho' hgr hWz'
          have HP1 := Lib.hid p1
          have HP2 := Lib.hid p2
          have HCC : Hid (W'.drew.cell? ⟨w.heap.size + 1, 0, none⟩ = some (.slice P T.length cc) ∧ W'.drew.cell? ⟨w.heap.size + 2, 0, none⟩ = some (.int .i64 (s : Int))) := Lib.hid ⟨hb1.cell, q2⟩
          have kA := Keeps.of_below ((Below.refl _ W'.drew).alloc (Nat.le_refl _) (.cells #[.int .i64 (x.1 : Int)] 3))
          have HS2 : Hid ((W'.drew.alloc (.cells #[.int .i64 (x.1 : Int)] 3)).cell? ⟨w.heap.size + 1, 0, none⟩ = some (.slice P T.length cc) ∧ (W'.drew.alloc (.cells #[.int .i64 (x.1 : Int)] 3)).cell? ⟨w.heap.size + 2, 0, none⟩ = some (.int .i64 (s : Int))) := Lib.hid ⟨kA _ _ HCC.out.1, kA _ _ HCC.out.2⟩
          have HS3 : Hid (w1.cell? ⟨w.heap.size + 1, 0, none⟩ = some (.slice P T.length cc) ∧ w1.cell? ⟨w.heap.size + 2, 0, none⟩ = some (.int .i64 (s : Int))) := Lib.hid ⟨p3, p5⟩
          have HWI := Lib.hid (fun W => with_any s x.1 W (by omega) (by have := (mem_free.1 x.2).1; omega))
          have Hrun := Lib.hid hrun
          clear hv hrun ho ho' hgr p1 p2 kA hb1
          gi_wp2
          refine region_N (S := fun W' => W'.cell? ⟨w.heap.size + 1, 0, none⟩ = some (.slice P T.length cc) ∧ W'.cell? ⟨w.heap.size + 2, 0, none⟩ = some (.int .i64 (s : Int))) (kill := [7, 8]) (by kernel_rfl) HCC.out (fun hHeld => ?_)
          refine anyN_take (i := 0) (v := ?vb0) (by kernel_rfl) rfl (by kernel_rfl) (by kernel_rfl) (by kernel_rfl) (by kernel_rfl) (by kernel_rfl) (fun _ _ _ h => h) (fun _ => rfl) (Or.inl ⟨by rfl, ?yb0⟩) hHeld ?rb0
          case yb0 => (intro W hW; obtain ⟨hA, hB⟩ := hW; go_simp; first | done | with_reducible rfl)
          try simp only [List.getElem_toArray, List.getElem_cons_zero, Act.put, List.setIfInBounds_toArray, List.set_cons_zero, List.set_cons_succ]
          refine anyN_take (i := 1) (v := ?vb1) (by kernel_rfl) rfl (by kernel_rfl) (by kernel_rfl) (by kernel_rfl) (by kernel_rfl) (by kernel_rfl) (fun _ _ _ h => h) (fun _ => rfl) (Or.inl ⟨by rfl, ?yb1⟩) hHeld ?rb1
          case yb1 => (intro W hW; obtain ⟨hA, hB⟩ := hW; go_simp; first | done | with_reducible rfl)
          try simp only [List.getElem_toArray, List.getElem_cons_succ, List.getElem_cons_zero, Act.put, List.setIfInBounds_toArray, List.set_cons_zero, List.set_cons_succ]
          refine anyN_take (i := 4) (v := ?vb4) (by kernel_rfl) rfl (by kernel_rfl) (by kernel_rfl) (by kernel_rfl) (by kernel_rfl) (by kernel_rfl) (fun _ _ _ h => h) (fun _ => rfl) (Or.inl ⟨by rfl, ?yb4⟩) hHeld ?rb4
          case yb4 => (intro W hW; obtain ⟨hA, hB⟩ := hW; go_simp; first | done | with_reducible rfl)
          try simp only [List.getElem_toArray, List.getElem_cons_succ, List.getElem_cons_zero, Act.put, List.setIfInBounds_toArray, List.set_cons_zero, List.set_cons_succ]
          refine anyN_take (i := 5) (v := ?vb5) (by kernel_rfl) rfl (by kernel_rfl) (by kernel_rfl) (by kernel_rfl) (by kernel_rfl) (by kernel_rfl) (fun _ _ _ h => h) (fun _ => rfl) (Or.inl ⟨by rfl, ?yb5⟩) hHeld ?rb5
          case yb5 => (intro W hW; obtain ⟨hA, hB⟩ := hW; go_simp; first | done | with_reducible rfl)
          try simp only [List.getElem_toArray, List.getElem_cons_succ, List.getElem_cons_zero, Act.put, List.setIfInBounds_toArray, List.set_cons_zero, List.set_cons_succ]
          refine anyN_ready (rs := [2]) (by kernel_rfl) (by simp) ?_
          refine AllN.cons (by kernel_rfl) rfl (by rfl) (fun K hK => ?_) (AllN.nil)
          refine ⟨fun _ _ => trivial, ?_⟩
          go_simp
          refine hK.out _ _ (fun _ => HS2.out) ?_
          clear hK K
          try simp only [List.getElem_toArray, List.getElem_cons_succ, List.getElem_cons_zero, Act.put, List.setIfInBounds_toArray, List.set_cons_zero, List.set_cons_succ]
          refine anyN_ready (rs := [3]) (by kernel_rfl) (by simp) ?_
          refine AllN.cons (by kernel_rfl) rfl (by rfl) (fun K hK => ?_) (AllN.nil)
          refine ⟨fun _ _ => trivial, ?_⟩
          refine uponI_append (.tmp 28) (.tmp 30) 22 rfl _ _ _ rfl rfl Hrun.out ?_
          refine hK.out _ _ (fun _ => HS3.out) ?_
          clear hK K
          try simp only [List.getElem_toArray, List.getElem_cons_succ, List.getElem_cons_zero, Act.put, List.setIfInBounds_toArray, List.set_cons_zero, List.set_cons_succ]
          refine anyN_ready (rs := [6]) (by kernel_rfl) (by simp) ?_
          refine AllN.cons (by kernel_rfl) rfl (by rfl) (fun K hK => ?_) (AllN.nil)
          refine ⟨fun _ _ => trivial, ?_⟩
          go_simp
          refine (CallsIn.inRound l (callsIn_wide.2 (HWI.out w1))).mono ?_
          rintro e w' ⟨rfl, rfl⟩
          refine hK.out _ _ (fun _ => HS3.out) ?_
          clear hK K
          try simp only [List.getElem_toArray, List.getElem_cons_succ, List.getElem_cons_zero, Act.put, List.setIfInBounds_toArray, List.set_cons_zero, List.set_cons_succ]
          refine anyN_ready (rs := [7]) (by kernel_rfl) (by simp) ?_
          refine AllN.cons (by kernel_rfl) rfl (by rfl) (fun K hK => ?_) (AllN.nil)
          refine ⟨fun _ _ => trivial, ?_⟩
          go_simp
          refine hK.out _ _ (fun h => absurd (by decide) h) ?_
          clear hK K
          try simp only [List.getElem_toArray, List.getElem_cons_succ, List.getElem_cons_zero, Act.put, List.setIfInBounds_toArray, List.set_cons_zero, List.set_cons_succ]
          refine anyN_ready (rs := [8]) (by kernel_rfl) (by simp) ?_
          refine AllN.cons (by kernel_rfl) rfl (by rfl) (fun K hK => ?_) (AllN.nil)
          refine ⟨fun _ _ => trivial, ?_⟩
          go_simp
          refine hK.out _ _ (fun h => absurd (by decide) h) ?_
          clear hK K
          try simp only [List.getElem_toArray, List.getElem_cons_succ, List.getElem_cons_zero, Act.put, List.setIfInBounds_toArray, List.set_cons_zero, List.set_cons_succ]
          refine anyN_done (by kernel_rfl) ?_ _
          gi_wp2
          exact ⟨HP2.out.from _, rfl, pre, x, rfl, H1.out, HVE.out, HP1.out⟩
        · have hb : (valK r V x.1 == R0) = false := by simpa using hv
          have hv' : ∀ y ∈ pre ++ [x], valK r V y.1 ≠ R0 := fun y hy => by
            rcases List.mem_append.1 hy with h | h
            · exact H1.out y h
            · rw [List.mem_singleton.1 h]; exact hv
          have HV' := Lib.hid hv'
          clear hv hv'
          gi_wp2
          exact ⟨KeepsFrom.refl _ _, Below.refl _ _, HV'.out, H2.out⟩
    · obtain rfl : k = n := by omega
      have hnlt : decide ((k : Int) < (k : Int)) = false := by simp
      obtain ⟨P, cc, hb1, ho⟩ := HF.out.b1
      have hc1 := hb1.cell
      have hfz := hb1.frozen
      have hT2 : T = fst1 M 0 := by
        have := HT.out
        rw [List.drop_eq_nil_of_le (Nat.le_of_eq HL.out)] at this
        simpa [fst1] using this
      have HT2 := Lib.hid hT2
      have HB1 := Lib.hid hb1
      have HOI := Lib.hid ho
      clear hT2 hb1 ho
      gi_wp2
      rw [Exit.noGoto_ret]
      have HX := Lib.hid (HB1.out.set (.slice P T.length cc))
      have HOX := Lib.hid (HOI.out.other (g := w.heap.size + 1) (i := 0) (.slice P T.length cc) (fun e => Boxed.not_row HB1.out (by decide) HOI.out.1 e.symm))
      have HBX := Lib.hid (HF.out.below.setCell (p := ⟨w.heap.size + 1, 0, none⟩) (by show w.heap.size ≤ w.heap.size + 1; omega) (.slice P T.length cc))
      refine leaves_many (B := w.heap.size) rs _ HF.out.nd (fun r hr => ⟨by have := (HF.out.ds r hr).1; omega, (KeepsOthers.setCell _ _ _).same _ _ (HF.out.ds r hr).2 rfl⟩) (fun W' hb hk => ?_)
      have hc2 := Boxed.cell (W := W') (hk _ _ HX.out rfl)
      refine ⟨_, ?_, .slice P T.length cc, rfl, ?_, HBX.out.trans hb⟩
      · simp [results, go_sem, hc2]
      · rw [← HT2.out]
        exact (OI.keepC HOX.out hk).mono (by omega)
end Go.Proofs.YtjllmladhjbnaaaGreatDoor
/- Package match's Assign. -/
namespace Go.Proofs.YtjllmladhjbnaaaGreatDoor
open Go.RowKit Go.Shelf
attribute [local go_sem] Oper.semAt_some
/-- Who goes with whom; at which total. -/
def toL (M : List (List Int)) : List Int := if okM M then (fst1 M 0).map fun (k : Nat) => (k : Int) else []
def totL (M : List (List Int)) : Int := if okM M then restR M 0 else 0
theorem restV_zero (M : List (List Int)) : restV M 0 = restR M 0 := by
  have h : pcN 0 = 0 := by decide +kernel
  unfold restV
  rw [h, List.drop_zero]
set_option maxRecDepth 100000 in
set_option maxHeartbeats 4000000 in
theorem assign_any (A : Option Addr) (n c : Nat) (M : List (List Int)) (w : World) (hM : Mat w A n M) (hnn : n ≤ 1000000) (hr : ∀ r ∈ M, r.length ≤ 1000000) :
    Calls Tryz.prog 41 #[.slice A n c] w fun e w' => ∃ v, e = .returned (.tuple #[v, .int .i64 (totL M), .bool (okM M)]) ∧ OI w.heap.size w' v (toL M) ∧ Below w.heap.size w w' := by
  have HP := Lib.hid (proper_any A n c M w hM hnn hr)
  have HM := Lib.hid hM
  unfold toL totL
  clear hM hr
  cases hok : okM M with
  | false =>
    rw [hok] at HP
    clear hok
    go_enter Tryz.func41, Tryz.ntmps41
    go_wp2_with fail
    refine HP.out.mono ?_
    rintro e w' ⟨rfl, hb⟩
    have HB := Lib.hid hb
    clear hb
    go_wp2
    exact bodyPost_ret (v := .tuple #[.slice none 0 0, .int .i64 0, .bool false]) (by simp [results, Tryz.results41, go_sem]) rfl ⟨_, rfl, OI.nil _ _, HB.out⟩
  | true =>
    have HOK := Lib.hid hok
    rw [hok] at HP
    clear hok
    go_enter Tryz.func41, Tryz.ntmps41
    go_wp2_with fail
    refine HP.out.mono ?_
    rintro e w1 ⟨rfl, hb1⟩
    have HB1 := Lib.hid hb1
    have HR := Lib.hid (restsOf_any A n c M w1 (HM.out.keep (Keeps.of_below hb1)) HOK.out)
    have hz1 := hb1.size
    clear hb1
    go_wp2_with fail
    refine HR.out.mono ?_
    rintro e w2 ⟨G, rfl, hG, hGl, hb2⟩
    have HB2 := Lib.hid (HB1.out.trans (hb2.mono hz1))
    have hz2 := hb2.size
    obtain ⟨N, hN⟩ : ∃ N, N = 2 ^ wid M := ⟨_, rfl⟩
    have n1 : 1 ≤ N := by rw [hN]; exact Nat.one_le_two_pow
    have hc0 := hG.cell (fillL_at M (N := 2 ^ wid M) (t := 0) (s := 0) (by rw [← hN]; omega) (Nat.le_refl _))
    rw [restV_zero] at hc0
    have HG := Lib.hid hG
    have HF := Lib.hid (first_any A n c G N M w2.drew (show Mat w2.drew A n M from HM.out.keep (Keeps.of_below HB2.out.drew)) HOK.out hN (show Arr .i64 3 w2.drew G (restL M) from hG))
    rw [← hN]
    have HC0 := Lib.hid (show w2.drew.cell? ⟨G, 0, none⟩ = some (.int .i64 (restR M 0)) from hc0)
    have n1z : 0 < N := by omega
    clear hb2 hG hc0 hN
    go_wp2
    refine wp_region_held_drew (S := fun W => W.cell? ⟨G, 0, none⟩ = some (.int .i64 (restR M 0))) (by kernel_rfl) HC0.out (fun hHeld => ?_)
    refine wpAnyH_take (i := 0) (v := ?va0) rfl (by kernel_rfl) (by kernel_rfl) (by kernel_rfl) (fun _ _ _ h => h) (Or.inl ⟨by rfl, ?ya0⟩) hHeld ?ra0
    case ya0 => (intro W hW; go_simp; first | done | with_reducible rfl)
    try simp only [List.getElem_toArray, List.getElem_cons_zero, Act.put, List.setIfInBounds_toArray, List.set_cons_zero, List.set_cons_succ]
    refine wpAnyH_take (i := 1) (v := ?va1) rfl (by kernel_rfl) (by kernel_rfl) (by kernel_rfl) (fun _ _ _ h => h) (Or.inl ⟨by rfl, ?ya1⟩) hHeld ?ra1
    case ya1 => (intro W hW; go_simp; first | done | with_reducible rfl)
    try simp only [List.getElem_toArray, List.getElem_cons_succ, List.getElem_cons_zero, Act.put, List.setIfInBounds_toArray, List.set_cons_zero, List.set_cons_succ]
    refine wpAnyH_take (i := 3) (v := ?va3) rfl (by kernel_rfl) (by kernel_rfl) (by kernel_rfl) (fun _ _ _ h => h) (Or.inl ⟨by rfl, ?ya3⟩) hHeld ?ra3
    case ya3 => (intro W hW; go_simp; first | done | with_reducible rfl)
    try simp only [List.getElem_toArray, List.getElem_cons_succ, List.getElem_cons_zero, Act.put, List.setIfInBounds_toArray, List.set_cons_zero, List.set_cons_succ]
    refine wpAnyH_take (i := 4) (v := ?va4) rfl (by kernel_rfl) (by kernel_rfl) (by kernel_rfl) (fun _ _ _ h => h) (Or.inl ⟨by rfl, ?ya4⟩) hHeld ?ra4
    case ya4 => (intro W hW; go_simp; first | done | with_reducible rfl)
    try simp only [List.getElem_toArray, List.getElem_cons_succ, List.getElem_cons_zero, Act.put, List.setIfInBounds_toArray, List.set_cons_zero, List.set_cons_succ]
    refine wpAnyH_take (i := 5) (v := ?va5) rfl (by kernel_rfl) (by kernel_rfl) (by kernel_rfl) (fun _ _ _ h => h) (Or.inl ⟨by rfl, ?ya5⟩) hHeld ?ra5
    case ya5 => (intro W hW; go_simp; first | done | with_reducible rfl)
    try simp only [List.getElem_toArray, List.getElem_cons_succ, List.getElem_cons_zero, Act.put, List.setIfInBounds_toArray, List.set_cons_zero, List.set_cons_succ]
    refine wpAnyH_ready (rs := [2]) (by kernel_rfl) (by simp) ?_
    refine AllReadyH.cons rfl (fun K hK => ?_) (AllReadyH.nil)
    go_simp
    refine HF.out.mono ?_
    rintro e w3 ⟨v, rfl, ho, hb3⟩
    have HO := Lib.hid ho
    have HH3 := Lib.hid ((Keeps.of_below hb3) _ _ HC0.out)
    have HB3 := Lib.hid ((HB2.out.drew).trans (hb3.mono (show w.heap.size ≤ w2.heap.size by omega)))
    clear hb3 ho
    refine hK.out _ _ (HH3.out) (fun hHeld => ?_)
    clear hK K
    try simp only [List.getElem_toArray, List.getElem_cons_succ, List.getElem_cons_zero, Act.put, List.setIfInBounds_toArray, List.set_cons_zero, List.set_cons_succ]
    refine wpAnyH_take (i := 6) (v := ?va6) rfl (by kernel_rfl) (by kernel_rfl) (by kernel_rfl) (fun _ _ _ h => h) (Or.inl ⟨by rfl, ?ya6⟩) hHeld ?ra6
    case ya6 => (intro W hW; go_simp; first | done | with_reducible rfl)
    try simp only [List.getElem_toArray, List.getElem_cons_succ, List.getElem_cons_zero, Act.put, List.setIfInBounds_toArray, List.set_cons_zero, List.set_cons_succ]
    refine wpAnyH_take (i := 7) (v := ?va7) rfl (by kernel_rfl) (by kernel_rfl) (by kernel_rfl) (fun _ _ _ h => h) (Or.inl ⟨by rfl, ?ya7⟩) hHeld ?ra7
    case ya7 => (intro W hW; go_simp; first | done | with_reducible rfl)
    try simp only [List.getElem_toArray, List.getElem_cons_succ, List.getElem_cons_zero, Act.put, List.setIfInBounds_toArray, List.set_cons_zero, List.set_cons_succ]
    refine wpAnyH_take (i := 8) (v := ?va8) rfl (by kernel_rfl) (by kernel_rfl) (by kernel_rfl) (fun _ _ _ h => h) (Or.inl ⟨by rfl, ?ya8⟩) hHeld ?ra8
    case ya8 => (intro W hW; go_simp; first | done | with_reducible rfl)
    try simp only [List.getElem_toArray, List.getElem_cons_succ, List.getElem_cons_zero, Act.put, List.setIfInBounds_toArray, List.set_cons_zero, List.set_cons_succ]
    refine wpAnyH_done (by kernel_rfl) ?_ _
    go_wp2
    exact bodyPost_ret (v := .tuple #[v, .int .i64 (restR M 0), .bool true]) (by simp [results, Tryz.results41, go_sem]) rfl ⟨_, rfl, HO.out.mono (show w.heap.size ≤ w2.heap.size by omega), HB3.out⟩
end Go.Proofs.YtjllmladhjbnaaaGreatDoor
/- What the laws of match know of choices. -/
namespace Go.Proofs.YtjllmladhjbnaaaGreatDoor
open Go.RowKit Go.Shelf
theorem free_zero (m : Nat) : (free m 0).length = m := by
  unfold free
  rw [List.filter_eq_self.2 (by simp)]
  simp
theorem room_ok {M : List (List Int)} (h : okM M = true) : Room M (wid M) 0 := by
  obtain ⟨h1, h2, h3⟩ := okM_spec h
  exact ⟨fun r hr => (h3 r hr).1, by rw [free_zero]; exact h2⟩
theorem toL_ok {M : List (List Int)} (h : okM M = true) : toL M = (fst1 M 0).map fun (k : Nat) => (k : Int) := by unfold toL; rw [if_pos h]
theorem totL_ok {M : List (List Int)} (h : okM M = true) : totL M = restR M 0 := by unfold totL; rw [if_pos h]
theorem toL_len {M : List (List Int)} (h : okM M = true) : (toL M).length = M.length := by
  rw [toL_ok h, List.length_map]
  exact (fst1_ok M _ 0 (room_ok h)).1.len
theorem toL_le (M : List (List Int)) : (toL M).length ≤ 12 := by
  cases h : okM M with
  | true =>
    rw [toL_len h]
    obtain ⟨h1, h2, _⟩ := okM_spec h
    omega
  | false => unfold toL; rw [h]; simp
/-- Each row's column, and that they are apart. -/
theorem fst1_spec {M : List (List Int)} (h : okM M = true) : (fst1 M 0).length = M.length ∧ (fst1 M 0).Nodup ∧ ∀ k ∈ fst1 M 0, k < wid M := by
  obtain ⟨h1, h2, h3⟩ := (Ok_iff M (wid M) 0 (fst1 M 0) (room_ok h).1).1 (fst1_ok M _ 0 (room_ok h)).1
  exact ⟨h1, h2, fun k hk => (h3 k hk).1⟩
/-- A choice by numbers. -/
theorem Ok_of {M : List (List Int)} {m : Nat} {c : List Nat} (hM : ∀ r ∈ M, r.length = m) (hl : c.length = M.length) (hn : c.Nodup) (hc : ∀ k ∈ c, k < m) : Ok M 0 c :=
  (Ok_iff M m 0 c hM).2 ⟨hl, hn, fun k hk => ⟨hc k hk, by simp⟩⟩
/-- Rows of one length, of numbers in bounds, may be costs. -/
theorem okM_of {M : List (List Int)} {m : Nat} (hm : m ≤ 12) (hl : M.length ≤ m) (h : ∀ r ∈ M, r.length = m ∧ ∀ x ∈ r, 0 ≤ x ∧ x ≤ 1000000) : okM M = true := by
  unfold okM okRow okC
  simp only [Bool.and_eq_true, decide_eq_true_eq, List.all_eq_true]
  cases M with
  | nil => exact ⟨by decide, by decide, by simp⟩
  | cons r t =>
    have hw : wid (r :: t) = m := (h r (List.mem_cons_self ..)).1
    rw [hw]
    exact ⟨hm, hl, fun r hr => h r hr⟩
end Go.Proofs.YtjllmladhjbnaaaGreatDoor
/- Costs that a law lays: rows of the call's own, no two of one block. -/
namespace Go.Proofs.YtjllmladhjbnaaaGreatDoor
open Go.RowKit Go.Shelf
attribute [local go_sem] Oper.semAt_some
theorem infoS1 : (Tryz.prog.info? 22).map (fun i => (i.zero, i.size, i.bytes)) = some (some (.slice none 0 0), 1, 24) := by kernel_rfl
/-- Rows of the call's own. -/
structure OM (B : Nat) (w : World) (v : Value) (M : List (List Int)) (us : List Value) : Prop where
  own : w.ownsRow B 22 1 v M.length us
  row : ∀ (j : Nat) (u : Value) (r : List Int), us[j]? = some u → M[j]? = some r → OI B w u r
  ap : ∀ (i j : Nat) (u u' : Value), i ≠ j → us[i]? = some u → us[j]? = some u' → ∀ b, u.ownBlock = some b → u'.ownBlock ≠ some b
section
variable {B : Nat} {w w' : World} {v : Value} {M : List (List Int)} {us : List Value}
theorem OM.len (h : OM B w v M us) : us.length = M.length := by have := h.own.1; omega
theorem OM.nil (B : Nat) (w : World) : OM B w (.slice none 0 0) [] [] := ⟨World.ownsRow_nil _ _ _ _, fun j u r h => by simp at h, fun i j u u' _ h => by simp at h⟩
theorem OM.below (h : OM B w v M us) (hb : Below w.heap.size w w') : OM B w' v M us := ⟨own_below h.own hb (Nat.le_refl _), fun j u r a b => (h.row j u r a b).below hb, h.ap⟩
theorem OM.mat (h : OM B w v M us) : ∃ A c, v = .slice A M.length c ∧ Mat w A M.length M := by
  obtain ⟨A, c, rfl, h1, h2, h3⟩ := own_form h.own
  refine ⟨A, c, rfl, rfl, fun hn => ?_⟩
  obtain ⟨g, rfl, hg, hc⟩ := h3 hn
  refine ⟨_, rfl, fun j r hr => ?_⟩
  obtain ⟨u, hu⟩ : ∃ u, us[j]? = some u := ⟨_, List.getElem?_eq_getElem (by rw [h.len]; exact (List.getElem?_eq_some_iff.1 hr).1)⟩
  obtain ⟨P, c', rfl, -, -, hn', -⟩ := (h.row j u r hu hr).form
  rw [add0]
  exact ⟨P, c', hc j _ hu, hn'⟩
theorem om_append {u : Value} {r : List Int} (h : OM B w v M us) (hu : OI B w u r) (hap : ∀ (j : Nat) (u' : Value), us[j]? = some u' → ∀ b, u.ownBlock = some b → u'.ownBlock ≠ some b) (hn : M.length ≤ 1000) (hB : B ≤ w.heap.size) :
    ∃ v' w', (Builtin.append_ #[35, 35] 35 #[v, .slice (some ⟨w.heap.size, 0, none⟩) 1 1]).run Tryz.prog (w.alloc (.cells #[u] 22)) = .ok v' w' ∧ OM B w' v' (M ++ [r]) (us ++ [u]) ∧ Below B w w' := by
  obtain ⟨P, cu, hue, -, -, -, -⟩ := hu.form
  obtain ⟨i0, hi, hz0, hz1, hz2⟩ := info_parts infoS1
  obtain ⟨v', w', hrun, ho, hgr, _, _⟩ := run_append_own_at (P := Tryz.prog) (w.alloc (.cells #[u] 22)) B 35 35 22 i0 _ 1 24 Tryz.underlying35 hi hz0 hz1 hz2 rfl (by omega) v M.length us (h.own.alloc _)
    ⟨w.heap.size, 0, none⟩ 1 1 [u] rfl (fun j x hx => by
      rw [add0, show (w.alloc (.cells #[u] 22)).cell? ⟨w.heap.size, j, none⟩ = #[u][j]? from cell_of_row _ _ _ _ 22 (0, 0) (heap_alloc_new w _)]
      simpa using hx)
    (by intro x hx; simp at hx; subst hx; rw [hue]; rfl) (by simp [maxLen]; omega) (by omega) (by simp; omega)
  have keep : ∀ {x : Value} {xs : List Int}, OI B w x xs → OI B w' x xs := fun hx => by
    exact ⟨(hx.1.alloc _).kept hgr (own_apart hx.1 h.own (by decide)), hx.2⟩
  refine ⟨v', w', hrun, ⟨by rw [List.length_append]; exact ho, fun j x y hx hy => ?_, fun i j x x' hij hx hx' => ?_⟩, ((Below.refl B w).alloc hB _).grown hgr (by simp; omega) (fun k e => (h.own.lt k e).1)⟩
  · rcases Nat.lt_or_ge j us.length with hj | hj
    · rw [List.getElem?_append_left hj] at hx
      rw [List.getElem?_append_left (by rw [← h.len]; exact hj)] at hy
      exact keep (h.row j x y hx hy)
    · rw [List.getElem?_append_right hj] at hx
      rw [List.getElem?_append_right (by rw [← h.len]; exact hj)] at hy
      rw [h.len] at hx
      cases hjj : j - M.length with
      | zero => rw [hjj] at hx hy; simp at hx hy; subst hx; subst hy; exact keep hu
      | succ q => rw [hjj] at hx; simp at hx
  · have last : ∀ {q : Nat} {z : Value}, us.length ≤ q → (us ++ [u])[q]? = some z → z = u ∧ q = us.length := fun {q z} hq hz => by
      rw [List.getElem?_append_right hq] at hz
      cases hqq : q - us.length with
      | zero => rw [hqq] at hz; simp at hz; exact ⟨hz.symm, by omega⟩
      | succ q => rw [hqq] at hz; simp at hz
    rcases Nat.lt_or_ge i us.length with hi' | hi'
    · rcases Nat.lt_or_ge j us.length with hj | hj
      · rw [List.getElem?_append_left hi'] at hx
        rw [List.getElem?_append_left hj] at hx'
        exact h.ap i j x x' hij hx hx'
      · obtain ⟨rfl, -⟩ := last hj hx'
        rw [List.getElem?_append_left hi'] at hx
        exact fun b hb e => hap i x hx b e hb
    · obtain ⟨rfl, h1⟩ := last hi' hx
      rcases Nat.lt_or_ge j us.length with hj | hj
      · rw [List.getElem?_append_left hj] at hx'
        exact hap j x' hx'
      · obtain ⟨-, h2⟩ := last hj hx'
        omega
end
/-- A row of later blocks goes with all. -/
theorem OM.apart_new {B B' : Nat} {w w' : World} {v u : Value} {M : List (List Int)} {us : List Value} {r : List Int} (h : OM B w v M us) (hu : OI B' w' u r) (hB : w.heap.size ≤ B') : ∀ (j : Nat) (u' : Value), us[j]? = some u' → ∀ b, u.ownBlock = some b → u'.ownBlock ≠ some b := by
  intro j u' hj b hb e
  obtain ⟨r', hr'⟩ : ∃ r', M[j]? = some r' := ⟨_, List.getElem?_eq_getElem (by rw [← h.len]; exact (List.getElem?_eq_some_iff.1 hj).1)⟩
  have h1 := ((h.row j u' r' hj hr').1.lt b e).2
  have h2 := (hu.1.lt b hb).1
  omega
theorem oi_push {B : Nat} {wr : World} {v : Value} {xs : List Int} (x : Int) (h : OI B wr v xs) (hx : inK .i64 x) (hn : xs.length ≤ 1000000) (hB : B ≤ wr.heap.size) :
    ∃ v' w', (Builtin.append_ #[22, 22] 22 #[v, .slice (some ⟨wr.heap.size, 0, none⟩) 1 1]).run Tryz.prog (wr.alloc (.cells #[.int .i64 x] 3)) = .ok v' w' ∧ OI B w' v' (xs ++ [x]) ∧ Below B wr w' := by
  obtain ⟨v', w', hrun, ho, hgr⟩ := append_intC wr B v xs x h.1 hn hB
  refine ⟨v', w', hrun, ⟨by simpa using ho, fun y hy => ?_⟩, ((Below.refl B wr).alloc hB _).grown hgr (by simp; omega) (fun k e => (h.1.lt k e).1)⟩
  rcases List.mem_append.1 hy with g | g
  · exact h.2 y g
  · rw [List.mem_singleton.1 g]; exact hx
end Go.Proofs.YtjllmladhjbnaaaGreatDoor
/- A slice of the call's own is written. -/
namespace Go.Proofs.YtjllmladhjbnaaaGreatDoor
open Go.RowKit Go.Shelf
theorem OI.put {B g n c i : Nat} {w : World} {xs : List Int} (h : OI B w (.slice (some ⟨g, 0, none⟩) n c) xs) (y : Int) (hy : inK .i64 y) : OI B (w.setCell ⟨g, i, none⟩ (.int .i64 y)) (.slice (some ⟨g, 0, none⟩) n c) (xs.set i y) := by
  obtain ⟨h1, h2⟩ := h
  have hn : n = xs.length := by
    obtain ⟨P, c', e, _⟩ := own_form h1
    injection e
  subst hn
  refine ⟨?_, fun x hx => ?_⟩
  · have e : ints (xs.set i y) = (ints xs).set i (.int .i64 y) := by simp [ints, List.map_set]
    rw [e, List.length_set]
    refine ⟨by rw [List.length_set]; exact h1.1, ?_⟩
    rcases h1.2 with ⟨e0, _⟩ | ⟨g', cap', cur, e0, hg, hh, a1, a2, a3, a4⟩
    · cases e0
    · injection e0 with e1 e2 e3
      injection e1 with e1
      injection e1 with e1
      subst e1 e3
      refine .inr ⟨g, c, cur.setIfInBounds i (.int .i64 y), rfl, hg, ?_, a1, a2, by simpa using a3, ?_⟩
      · simp [World.setCell, Array.getElem?_modify, hh]
      · rw [Array.toList_setIfInBounds, List.take_set, a4]
  · rcases List.mem_or_eq_of_mem_set hx with h0 | h0
    · exact h2 x h0
    · subst h0; exact hy
/-- One of its numbers: where it lies, that it may be written. -/
theorem OI.cell {B : Nat} {w : World} {v : Value} {xs : List Int} (h : OI B w v xs) {i : Nat} {x : Int} (hx : xs[i]? = some x) :
    ∃ g c, v = .slice (some ⟨g, 0, none⟩) xs.length c ∧ B ≤ g ∧ g < w.heap.size ∧ w.cell? ⟨g, i, none⟩ = some (.int .i64 x) ∧ w.frozen? ⟨g, i, none⟩ = false := by
  have hl := (List.getElem?_eq_some_iff.1 hx).1
  rcases h.1.2 with ⟨_, e0⟩ | ⟨g, cap, cur, rfl, hg, hh, a1, a2, a3, a4⟩
  · omega
  · obtain ⟨P, c, e1, -, -, hn, -⟩ := h.form
    injection e1 with e1 _ e3
    subst e1 e3
    obtain ⟨ad, e2, hc⟩ := hn.2.2 (by omega)
    injection e2 with e2
    subst e2
    have hcc := hc i x hx
    rw [add0] at hcc
    exact ⟨g, cap, rfl, hg, h.1.lt g rfl |>.2, hcc, by simp [World.frozen?, hh]⟩
end Go.Proofs.YtjllmladhjbnaaaGreatDoor
/- Rows of the call's own are written. -/
namespace Go.Proofs.YtjllmladhjbnaaaGreatDoor
open Go.RowKit Go.Shelf
theorem only_own {w : World} {b : Nat} {e : TypeId} {s n g i : Nat} {u v : Value} {xs : List Value} (h : w.ownsRow b e s v n xs) (hne : v.ownBlock ≠ some g) : (w.setCell ⟨g, i, none⟩ u).ownsRow b e s v n xs :=
  own_stay h fun k hk => Below.heap_setCell _ _ _ _ fun e => hne (by rw [hk, e])
/-- One number of one row is written. -/
theorem OM.put {B : Nat} {w : World} {v : Value} {M : List (List Int)} {us : List Value} {i j g c : Nat} {r : List Int} (h : OM B w v M us) (hu : us[i]? = some (.slice (some ⟨g, 0, none⟩) r.length c)) (hr : M[i]? = some r) (y : Int) (hy : inK .i64 y) :
    OM B (w.setCell ⟨g, j, none⟩ (.int .i64 y)) v (M.set i (r.set j y)) us := by
  have hrow := h.row i _ r hu hr
  have hvne : v.ownBlock ≠ some g := fun e => by
    rcases own_apart hrow.1 h.own (by decide) with h1 | h1
    · cases h1
    · exact h1 (by rw [e]; rfl)
  refine ⟨by rw [List.length_set]; exact only_own h.own hvne, fun k u r' hk hr' => ?_, h.ap⟩
  by_cases hik : i = k
  · subst hik
    rw [hu] at hk
    injection hk with hk
    subst hk
    rw [List.getElem?_set_self (List.getElem?_eq_some_iff.1 hr).1] at hr'
    injection hr' with hr'
    subst hr'
    exact hrow.put y hy
  · rw [List.getElem?_set_ne hik] at hr'
    have hrk := h.row k u r' hk hr'
    exact ⟨only_own hrk.1 (fun e => h.ap i k _ u hik hu hk g rfl e), hrk.2⟩
/-- A row: where it lies. -/
theorem OM.at_ {B : Nat} {w : World} {v : Value} {M : List (List Int)} {us : List Value} {i : Nat} {r : List Int} (h : OM B w v M us) (hr : M[i]? = some r) :
    ∃ g c u, v = .slice (some ⟨g, 0, none⟩) M.length c ∧ B ≤ g ∧ g < w.heap.size ∧ us[i]? = some u ∧ w.cell? ⟨g, i, none⟩ = some u ∧ w.frozen? ⟨g, i, none⟩ = false ∧ OI B w u r ∧ u.ownBlock ≠ some g := by
  have hi := (List.getElem?_eq_some_iff.1 hr).1
  obtain ⟨u, hu⟩ : ∃ u, us[i]? = some u := ⟨_, List.getElem?_eq_getElem (by rw [h.len]; exact hi)⟩
  have hrow := h.row i u r hu hr
  obtain ⟨A, c, e1, -, -, h3⟩ := own_form h.own
  obtain ⟨g, e2, hg, hc⟩ := h3 (by omega)
  subst e2
  have hgl := (h.own.lt g (by rw [e1]; rfl)).2
  have hfz : w.frozen? ⟨g, i, none⟩ = false := by
    rcases h.own.2 with ⟨e0, _⟩ | ⟨g', cap, cur, e0, _, hh, _⟩
    · rw [e1] at e0; cases e0
    · rw [e1] at e0
      injection e0 with e0 _ _
      injection e0 with e0
      injection e0 with e0
      subst e0
      simp [World.frozen?, hh]
  refine ⟨g, c, u, e1, hg, hgl, hu, hc i u hu, hfz, hrow, fun e => ?_⟩
  rcases own_apart hrow.1 h.own (by decide) with h4 | h4
  · rw [e] at h4; cases h4
  · exact h4 (by rw [e, e1]; rfl)
theorem set_mem {α : Type} {l : List α} {i : Nat} {x y : α} (h : y ∈ l.set i x) : y ∈ l ∨ y = x := by
  rcases List.mem_or_eq_of_mem_set h with h | h
  · exact .inl h
  · exact .inr h
theorem tmod_nat (i k : Nat) : ((i : Int)).tmod (k : Int) = ((i % k : Nat) : Int) := by
  rw [Int.tmod_eq_emod_of_nonneg (by omega)]
  push_cast
  rfl
end Go.Proofs.YtjllmladhjbnaaaGreatDoor
/- A row of rows grows in a row; rows that are made anew; numbers that change places. -/
namespace Go.Proofs.YtjllmladhjbnaaaGreatDoor
open Go.RowKit Go.Shelf
set_option maxRecDepth 100000 in
set_option maxHeartbeats 1000000 in
/-- A number is appended to row i, which is stored where it was. -/
theorem om_pushX {B : Nat} {w : World} {v u : Value} {M : List (List Int)} {us : List Value} {i : Nat} {r : List Int} {x : Int} {go co : Nat} (h : OM B w v M us) (hu : us[i]? = some u) (hr : M[i]? = some r) (hv : v = .slice (some ⟨go, 0, none⟩) M.length co)
    (hx : inK .i64 x) (hn : r.length ≤ 1000000) (hB : B ≤ w.heap.size) (hgo : B ≤ go) :
    ∃ g' c' w1, (Builtin.append_ #[22, 22] 22 #[u, .slice (some ⟨w.heap.size, 0, none⟩) 1 1]).run Tryz.prog (w.alloc (.cells #[.int .i64 x] 3)) = .ok (.slice (some ⟨g', 0, none⟩) (r.length + 1) c') w1 ∧
      OM B (w1.setCell ⟨go, i, none⟩ (.slice (some ⟨g', 0, none⟩) (r.length + 1) c')) v (M.set i (r ++ [x])) (us.set i (.slice (some ⟨g', 0, none⟩) (r.length + 1) c')) ∧
      Below B w (w1.setCell ⟨go, i, none⟩ (.slice (some ⟨g', 0, none⟩) (r.length + 1) c')) ∧ w1.cell? ⟨go, i, none⟩ = some u ∧ w1.frozen? ⟨go, i, none⟩ = false ∧
      (u.ownBlock = some g' ∨ w.heap.size ≤ g') ∧ ∀ k, k < w.heap.size → k ≠ go → u.ownBlock ≠ some k → (w1.setCell ⟨go, i, none⟩ (.slice (some ⟨g', 0, none⟩) (r.length + 1) c')).heap[k]? = w.heap[k]? := by
  have hrow := h.row i u r hu hr
  have hil := (List.getElem?_eq_some_iff.1 hr).1
  obtain ⟨i0, hi, hz0, hz1, hz2⟩ := info_parts infoI
  obtain ⟨u', w1, hrun, ho, hgr, _, hblk⟩ := run_append_own_at (P := Tryz.prog) (w.alloc (.cells #[.int .i64 x] 3)) B 22 22 3 i0 _ 1 8 Tryz.underlying22 hi hz0 hz1 hz2 rfl (by omega) u r.length (ints r) (hrow.1.alloc _)
    ⟨w.heap.size, 0, none⟩ 1 1 [.int .i64 x] rfl (fun j y hy => by
      rw [add0, show (w.alloc (.cells #[.int .i64 x] 3)).cell? ⟨w.heap.size, j, none⟩ = #[.int .i64 x][j]? from cell_of_row _ _ _ _ 3 (0, 0) (heap_alloc_new w _)]
      simpa using hy)
    (by intro y hy; simp at hy; subst hy; rfl) (by simp [maxLen]; omega) (by omega) (by simp; omega)
  obtain ⟨g', c', rfl⟩ := ownsRow_succ ho
  have hvo := h.own
  rw [hv] at hvo
  have keepv : w1.ownsRow B 22 1 v M.length us := (h.own.alloc _).kept hgr (own_apart h.own hrow.1 (by decide))
  have hgne : g' ≠ go := fun e => by
    have h2 := own_apart ho keepv (by decide)
    rcases h2 with h2 | h2
    · cases h2
    · exact h2 (by rw [hv, e]; rfl)
  obtain ⟨go', co', u2, e2, -, hgol, hu2, hcu, hfu, -, -⟩ := h.at_ hr
  rw [hv] at e2
  injection e2 with e3 _ _
  injection e3 with e3
  injection e3 with e3
  subst e3
  obtain rfl : u = u2 := Option.some.inj (hu.symm.trans hu2)
  have hue : u.ownBlock ≠ some go := fun e => by
    rcases own_apart hrow.1 h.own (by decide) with h4 | h4
    · rw [e] at h4; cases h4
    · exact h4 (by rw [e, hv]; rfl)
  have hheap : w1.heap[go]? = w.heap[go]? := (hgr.block go (by simp; omega) (fun e => hue e.symm)).trans (Below.heap_alloc _ _ _ hgol)
  refine ⟨g', c', w1, hrun, ⟨?_, fun j y r' hj hr' => ?_, fun j k y y' hjk hy hy' => ?_⟩, ?_, ?_, ?_, ?_, fun k hk hkg hku => ?_⟩
  · rw [List.length_set]
    rcases keepv.2 with ⟨e0, _⟩ | ⟨gg, cap, cur, e0, a1, a2, a3, a4, a5, a6⟩
    · rw [hv] at e0; cases e0
    · refine ⟨by rw [List.length_set]; exact keepv.1, .inr ⟨gg, cap, cur.setIfInBounds i (.slice (some ⟨g', 0, none⟩) (r.length + 1) c'), e0, a1, ?_, a3, a4, by simpa using a5, ?_⟩⟩
      · rw [hv] at e0
        injection e0 with e0 _ _
        injection e0 with e0
        injection e0 with e0
        subst e0
        simp [World.setCell, Array.getElem?_modify, a2]
      · rw [Array.toList_setIfInBounds, List.take_set, a6]
  · by_cases hij : i = j
    · subst hij
      rw [List.getElem?_set_self (by rw [h.len]; exact hil)] at hj
      rw [List.getElem?_set_self hil] at hr'
      injection hj with hj
      injection hr' with hr'
      subst hj hr'
      refine ⟨only_own (by simpa [ints] using ho) (fun e => hgne (by simpa [Value.ownBlock] using e)), fun z hz => ?_⟩
      rcases List.mem_append.1 hz with h5 | h5
      · exact hrow.2 z h5
      · rw [List.mem_singleton.1 h5]; exact hx
    · rw [List.getElem?_set_ne hij] at hj hr'
      have hrj := h.row j y r' hj hr'
      have hyg : y.ownBlock ≠ some go := fun e => by
        rcases own_apart hrj.1 h.own (by decide) with h4 | h4
        · rw [e] at h4; cases h4
        · exact h4 (by rw [e, hv]; rfl)
      refine ⟨only_own ((hrj.1.alloc _).kept hgr ?_) hyg, hrj.2⟩
      rcases hb : y.ownBlock with _ | b
      · exact .inl rfl
      · exact .inr fun e => h.ap j i y u (Ne.symm hij) hj hu b hb e.symm
  · have newb : ∀ (q : Nat) (z : Value), q ≠ i → us[q]? = some z → ∀ b, z.ownBlock = some b → b ≠ g' := fun q z hq hz b hb e => by
      subst e
      rcases hblk with h5 | h5
      · exact h.ap q i z u hq hz hu b hb (h5.symm.trans rfl)
      · have h6 := (h.row q z _ hz (List.getElem?_eq_getElem (by rw [← h.len]; exact (List.getElem?_eq_some_iff.1 hz).1))).1.lt b hb
        simp [Value.ownBlock] at h5
        omega
    by_cases hij : i = j
    · subst hij
      rw [List.getElem?_set_self (by rw [h.len]; exact hil)] at hy
      injection hy with hy
      subst hy
      rw [List.getElem?_set_ne hjk] at hy'
      intro b hb e
      have : b = g' := by simpa [Value.ownBlock] using hb.symm
      exact newb k y' (Ne.symm hjk) hy' b e this
    · rw [List.getElem?_set_ne hij] at hy
      by_cases hik : i = k
      · subst hik
        rw [List.getElem?_set_self (by rw [h.len]; exact hil)] at hy'
        injection hy' with hy'
        subst hy'
        intro b hb e
        exact newb j y hjk hy b hb (by simpa [Value.ownBlock] using e.symm)
      · rw [List.getElem?_set_ne hik] at hy'
        exact h.ap j k y y' hjk hy hy'
  · exact (((Below.refl B w).alloc hB _).grown hgr (by simp; omega) (fun k e => (hrow.1.lt k e).1)).setCell (p := ⟨go, i, none⟩) hgo _
  · rw [World.cell?_of_block hheap]; exact hcu
  · have : w1.frozen? ⟨go, i, none⟩ = w.frozen? ⟨go, i, none⟩ := by simp [World.frozen?, hheap]
    rw [this]; exact hfu
  · rcases hblk with h5 | h5
    · exact .inl (h5.symm.trans rfl)
    · right; simp [Value.ownBlock] at h5; omega
  · rw [Below.heap_setCell _ _ _ _ hkg, hgr.block k (by simp; omega) (fun e => hku e.symm)]
    exact Below.heap_alloc _ _ _ hk
theorem om_push {B : Nat} {w : World} {v u : Value} {M : List (List Int)} {us : List Value} {i : Nat} {r : List Int} {x : Int} {go co : Nat} (h : OM B w v M us) (hu : us[i]? = some u) (hr : M[i]? = some r) (hv : v = .slice (some ⟨go, 0, none⟩) M.length co)
    (hx : inK .i64 x) (hn : r.length ≤ 1000000) (hB : B ≤ w.heap.size) (hgo : B ≤ go) :
    ∃ g' c' w1, (Builtin.append_ #[22, 22] 22 #[u, .slice (some ⟨w.heap.size, 0, none⟩) 1 1]).run Tryz.prog (w.alloc (.cells #[.int .i64 x] 3)) = .ok (.slice (some ⟨g', 0, none⟩) (r.length + 1) c') w1 ∧
      OM B (w1.setCell ⟨go, i, none⟩ (.slice (some ⟨g', 0, none⟩) (r.length + 1) c')) v (M.set i (r ++ [x])) (us.set i (.slice (some ⟨g', 0, none⟩) (r.length + 1) c')) ∧
      Below B w (w1.setCell ⟨go, i, none⟩ (.slice (some ⟨g', 0, none⟩) (r.length + 1) c')) ∧ w1.cell? ⟨go, i, none⟩ = some u ∧ w1.frozen? ⟨go, i, none⟩ = false :=
  let ⟨g', c', w1, a, b, c, d, e, _⟩ := om_pushX h hu hr hv hx hn hB hgo
  ⟨g', c', w1, a, b, c, d, e⟩
theorem made_slices' (w : World) (T : TypeId) (n : Nat) : (w.alloc (.cells (madeCells #[.slice none 0 0] n) T)).heap[w.heap.size]? = some (.cells (List.replicate n (Value.slice none 0 0)).toArray T (0, 0)) := by
  rw [heap_alloc_new]
  congr 2
  apply Array.ext'
  rw [toList_madeCells_one, List.toList_toArray]
/-- k rows, made anew. -/
theorem om_made (w : World) (n : Nat) (hn : n ≤ 1000) : OM w.heap.size (w.alloc (.cells (madeCells #[.slice none 0 0] n) 22)) (.slice (some ⟨w.heap.size, 0, none⟩) n n) (List.replicate n []) (List.replicate n (.slice none 0 0)) := by
  refine ⟨by rw [List.length_replicate]; exact ⟨by simp, .inr ⟨w.heap.size, n, _, rfl, Nat.le_refl _, made_slices' w _ n, Nat.le_refl _, by simp [maxLen]; omega, by simp, by simp⟩⟩, fun j u r hu hr => ?_, fun i j u u' _ hu _ b hb => ?_⟩
  · rw [(List.mem_replicate.1 (List.mem_of_getElem? hu)).2, (List.mem_replicate.1 (List.mem_of_getElem? hr)).2]
    exact OI.nil _ _
  · rw [(List.mem_replicate.1 (List.mem_of_getElem? hu)).2] at hb
    cases hb
theorem make_rows9 (n : Nat) (hn : n ≤ 1000) (w : World) : (Instr.makeSlice 35 (.int .i64 (n : Int)) (.int .i64 (n : Int))).run Tryz.prog w = .ok (.slice (some ⟨w.heap.size, 0, none⟩) n n) (w.alloc (.cells (madeCells #[.slice none 0 0] n) 22)) := by
  obtain ⟨i, hi, hz, hs, hb⟩ := info_parts infoS1
  have hr := run_make (P := Tryz.prog) w 35 22 i (.slice none 0 0) Tryz.underlying35 hi hz .i64 .i64 n n (by omega) (by omega) (by rw [hb]; omega) (by omega)
  simpa [hs, Value.cells] using hr
/-! ### Numbers that change places -/
def swp (T : List Nat) (a b x y : Nat) : List Nat := (T.set a y).set b x
theorem swp_perm {T : List Nat} {a b x y : Nat} (ha : T[a]? = some x) (hb : T[b]? = some y) : (swp T a b x y).Perm T := by
  obtain ⟨h1, rfl⟩ := List.getElem?_eq_some_iff.1 ha
  obtain ⟨h2, rfl⟩ := List.getElem?_eq_some_iff.1 hb
  exact List.set_set_perm h1 h2
theorem swp_cast (T : List Nat) (a b x y : Nat) : (swp T a b x y).map (fun (k : Nat) => (k : Int)) = ((T.map fun (k : Nat) => (k : Int)).set a (y : Int)).set b (x : Int) := by
  unfold swp
  rw [List.map_set, List.map_set]
theorem perm_spec {T : List Nat} {k : Nat} (h : T.Perm (List.range k)) : T.length = k ∧ T.Nodup ∧ ∀ x ∈ T, x < k :=
  ⟨by rw [h.length_eq, List.length_range], h.nodup_iff.2 List.nodup_range, fun x hx => List.mem_range.1 (h.mem_iff.1 hx)⟩
end Go.Proofs.YtjllmladhjbnaaaGreatDoor
