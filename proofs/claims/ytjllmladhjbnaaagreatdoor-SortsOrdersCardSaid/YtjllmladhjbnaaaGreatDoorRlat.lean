/- The reference's Level, Size, Sort. -/
import Derived.IntWalk
import Derived.Test.YtjllmladhjbnaaaGreatDoorSize
namespace Go.Proofs.YtjllmladhjbnaaaGreatDoor
open Go.RowKit Go.Shelf
attribute [local go_sem] Oper.semAt_some
theorem bit_one (x : Int) (h1 : 0 ≤ x) (h2 : x ≤ 15) : bits .and .i64 x 1 = x % 2 := by
  rcases (by omega : x = 0 ∨ x = 1 ∨ x = 2 ∨ x = 3 ∨ x = 4 ∨ x = 5 ∨ x = 6 ∨ x = 7 ∨ x = 8 ∨ x = 9 ∨ x = 10 ∨ x = 11 ∨ x = 12 ∨ x = 13 ∨ x = 14 ∨ x = 15) with rfl | rfl | rfl | rfl | rfl | rfl | rfl | rfl | rfl | rfl | rfl | rfl | rfl | rfl | rfl | rfl <;> decide +kernel
theorem shr_in (set : Int) (k : Nat) (h1 : 0 ≤ set) (h2 : set ≤ 15) (hk : k ≤ 3) : 0 ≤ set / 2 ^ k ∧ set / 2 ^ k ≤ 15 := by
  rcases (by omega : k = 0 ∨ k = 1 ∨ k = 2 ∨ k = 3) with rfl | rfl | rfl | rfl <;> simp <;> omega
/-- The bits of a set, below one. -/
def bitsTo (s : Int) : Nat → Int
  | 0 => 0
  | i + 1 => bitsTo s i + s / 2 ^ i % 2
theorem bitsTo_lvl (s : Int) (h1 : 0 ≤ s) (h2 : s ≤ 15) : bitsTo s 4 = lvl s := by
  rcases (by omega : s = 0 ∨ s = 1 ∨ s = 2 ∨ s = 3 ∨ s = 4 ∨ s = 5 ∨ s = 6 ∨ s = 7 ∨ s = 8 ∨ s = 9 ∨ s = 10 ∨ s = 11 ∨ s = 12 ∨ s = 13 ∨ s = 14 ∨ s = 15) with rfl | rfl | rfl | rfl | rfl | rfl | rfl | rfl | rfl | rfl | rfl | rfl | rfl | rfl | rfl | rfl <;> decide +kernel
theorem bitsTo_bd (s : Int) : ∀ i, 0 ≤ bitsTo s i ∧ bitsTo s i ≤ i
  | 0 => ⟨Int.le_refl _, Int.le_refl _⟩
  | i + 1 => by
    have := bitsTo_bd s i
    unfold bitsTo
    omega
set_option maxHeartbeats 2000000 in
theorem rLvl2_any (s : Int) (w : World) (h1 : 0 ≤ s) (h2 : s ≤ 15) :
    Calls Tryz.prog 83 #[.int .i64 s] w fun e w' => e = .returned (.int .i64 (lvl s)) ∧ w = w' := by
  go_enter Tryz.func83, Tryz.ntmps83
  go_wp2
  go_loop [3, 4] (fun n i => ∃ k : Nat, i = .int .u64 k ∧ k ≤ 4 ∧ n = .int .i64 (bitsTo s k)) (fun _ i => 4 - (intOf i).toNat)
  case atStart => exact ⟨0, rfl, by omega, rfl⟩
  case round =>
    obtain ⟨k, rfl, hk, rfl⟩ := hrel
    by_cases hlt : k < 4
    · obtain ⟨q1, q2⟩ := shr_in s k h1 h2 (by omega)
      have hb := bit_one _ q1 q2
      have hbd := bitsTo_bd s k
      obtain ⟨x, hx⟩ : ∃ x, x = bitsTo s k := ⟨_, rfl⟩
      have e : bitsTo s (k + 1) = x + s / 2 ^ k % 2 := by rw [hx]; rfl
      have E := Lib.hid e
      rw [← hx] at hbd ⊢
      have hr := Int.emod_nonneg (s / 2 ^ k) (show (2 : Int) ≠ 0 by omega)
      have hr2 := Int.emod_lt_of_pos (s / 2 ^ k) (show (0 : Int) < 2 by omega)
      clear hx e
      go_wp2
      go_round
      case rel => exact ⟨k + 1, by go_num, by omega, by rw [E.out]⟩
      case measure => simp [intOf]; omega
    · obtain rfl : k = 4 := by omega
      have e := Lib.hid (bitsTo_lvl s h1 h2)
      go_wp2
      go_ret
      exact ⟨ret_int e.out, rfl⟩
set_option maxHeartbeats 2000000 in
theorem rLvl_any (s : Int) (w : World) (h1 : 0 ≤ s) (h2 : s ≤ 15) :
    Calls Tryz.prog 64 #[.int .i64 s] w fun e w' => e = .returned (.int .i64 (lvl s)) ∧ w = w' := by
  have H := Lib.hid (rLvl2_any s w h1 h2)
  go_enter Tryz.func64, Tryz.ntmps64
  go_wp2_with fail
  refine H.out.mono ?_
  rintro e w' ⟨rfl, rfl⟩
  go_wp2
  go_ret
  exact ⟨rfl, rfl⟩
/-- The product of the cards of a set's dimensions, below one. -/
def keysTo (cs : List Int) (s : Int) : Nat → Int
  | 0 => 1
  | i + 1 => if s / 2 ^ i % 2 = 1 then keysTo cs s i * cs.getD i 0 else keysTo cs s i
theorem keysTo_bd {cs : List Int} (s : Int) (hc : ∀ x ∈ cs, 1 ≤ x ∧ x ≤ 16) : ∀ i, i ≤ cs.length → 1 ≤ keysTo cs s i ∧ keysTo cs s i ≤ 16 ^ i
  | 0, _ => ⟨Int.le_refl 1, Int.le_refl 1⟩
  | i + 1, h => by
    obtain ⟨a, b⟩ := keysTo_bd s hc i (by omega)
    obtain ⟨c, d⟩ := getD_in hc (i := i) (by omega)
    have p := Int.mul_le_mul a c (by omega) (by omega)
    have q := Int.mul_le_mul b d (by omega) (by have : (0 : Int) ≤ 16 ^ i := Int.pow_nonneg (by omega); exact this)
    have r : (16 : Int) ^ i ≤ 16 ^ (i + 1) := by rw [Int.pow_succ]; have : (0 : Int) ≤ 16 ^ i := Int.pow_nonneg (by omega); omega
    unfold keysTo
    split
    · rw [Int.pow_succ]; exact ⟨by simpa using p, q⟩
    · exact ⟨a, Int.le_trans b r⟩
theorem keysTo_all (cs : List Int) (s : Int) (h1 : 0 ≤ s) (h2 : s ≤ fullB cs.length) (h4 : cs.length ≤ 4) : keysTo cs s cs.length = keysN cs s := by
  have hf : s ≤ (2 : Int) ^ cs.length - 1 := h2
  have m1 : s / 1 % 2 = 1 ↔ s % 2 = 1 := by rw [Int.ediv_one]
  unfold keysN prodL dimsL
  rcases (by omega : cs.length = 0 ∨ cs.length = 1 ∨ cs.length = 2 ∨ cs.length = 3 ∨ cs.length = 4) with h | h | h | h | h
  · rw [h] at hf ⊢
    simp at hf
    have : s = 0 := by omega
    subst this
    rfl
  · rw [h] at hf ⊢
    simp at hf
    have a2 : ¬ s / 2 % 2 = 1 := by omega
    have a3 : ¬ s / 4 % 2 = 1 := by omega
    have a4 : ¬ s / 8 % 2 = 1 := by omega
    simp only [keysTo, Int.pow_zero, Int.ediv_one, if_neg a2, if_neg a3, if_neg a4, List.append_nil]
    split <;> simp
  · rw [h] at hf ⊢
    simp at hf
    have a3 : ¬ s / 4 % 2 = 1 := by omega
    have a4 : ¬ s / 8 % 2 = 1 := by omega
    simp only [keysTo, Int.pow_zero, Int.ediv_one, if_neg a3, if_neg a4, List.append_nil, show (2 : Int) ^ 1 = 2 from rfl]
    split <;> split <;> simp
  · rw [h] at hf ⊢
    simp at hf
    have a4 : ¬ s / 8 % 2 = 1 := by omega
    simp only [keysTo, Int.pow_zero, Int.ediv_one, if_neg a4, List.append_nil, show (2 : Int) ^ 1 = 2 from rfl, show (2 : Int) ^ 2 = 4 from rfl]
    split <;> split <;> split <;> simp
  · rw [h]
    simp only [keysTo, Int.pow_zero, Int.ediv_one, show (2 : Int) ^ 1 = 2 from rfl, show (2 : Int) ^ 2 = 4 from rfl, show (2 : Int) ^ 3 = 8 from rfl]
    split <;> split <;> split <;> split <;> simp
set_option maxRecDepth 100000 in
set_option maxHeartbeats 2000000 in
theorem rSize_any (A : Option Addr) (q c mm : Nat) (cs : List Int) (rows k : Int) (w : World) (hA : Nums .i64 w A q cs) (hq : q ≤ 4) (hc : ∀ x ∈ cs, 1 ≤ x ∧ x ≤ 16) (h1 : 0 ≤ k) (h2 : k ≤ fullB q) :
    Calls Tryz.prog 61 #[.agg #[.slice A q c, .int .i64 mm], .int .i64 rows, .int .i64 k] w fun e w' => e = .returned (.int .i64 (sizeB cs rows k)) ∧ Below w.heap.size w w' := by
  have hl := hA.len
  have hk15 : k ≤ 15 := by have := fullB_15 q hq; omega
  obtain ⟨W0, hW0⟩ : ∃ W0, W0 = w.alloc (.cells #[.slice A q c, .int .i64 mm] 25) := ⟨_, rfl⟩
  have hb0 : Below w.heap.size w W0 := by rw [hW0]; exact (Below.refl _ w).alloc (Nat.le_refl _) _
  have hB0 : Box2 25 W0 w.heap.size (.slice A q c) (.int .i64 mm) := by rw [hW0]; exact Box2.new _ _ _ _
  have HN := Lib.hid (hA.keep (Keeps.of_below hb0))
  have HB0 := Lib.hid hb0
  have HBx := Lib.hid hB0
  have HC := Lib.hid hc
  have HL := Lib.hid hl
  have HW0 := Lib.hid hW0
  have hall := Lib.hid (show keysTo cs k q = keysN cs k by rw [← hl]; exact keysTo_all cs k h1 (by rw [hl]; exact h2) (by omega))
  clear hA hb0 hB0 hc hl hW0
  go_enter Tryz.func61, Tryz.ntmps61
  go_wp2_with fail
  rw [← HW0.out]
  have c0 := HBx.out.cell0
  go_loop [7, 8] (fun n i => ∃ j : Nat, i = .int .i64 j ∧ j ≤ q ∧ n = .int .i64 (keysTo cs k j)) (fun _ i => q - (intOf i).toNat)
  case atStart => exact ⟨0, rfl, by omega, rfl⟩
  case round =>
    obtain ⟨j, rfl, hj, rfl⟩ := hrel
    by_cases hlt : j < q
    · obtain ⟨q1, q2⟩ := shr_in k j h1 hk15 (by omega)
      have hb := bit_one _ q1 q2
      obtain ⟨b1, b2⟩ := keysTo_bd k HC.out j (by rw [HL.out]; omega)
      have b3 : keysTo cs k j ≤ 4096 := by
        refine Int.le_trans b2 ?_
        rcases (by omega : j = 0 ∨ j = 1 ∨ j = 2 ∨ j = 3) with rfl | rfl | rfl | rfl <;> decide
      obtain ⟨ad, y, rfl, hy, -, hcell⟩ := HN.out.at_ hlt
      have hyb := HC.out y (List.mem_of_getElem? hy)
      have hyd : cs.getD j 0 = y := by rw [List.getD_eq_getElem?_getD, hy]; rfl
      obtain ⟨x, hx⟩ : ∃ x, x = keysTo cs k j := ⟨_, rfl⟩
      have j0 : (0 : Int) ≤ (j : Int) := by omega
      have j1 : (j : Int) < (q : Int) := by omega
      by_cases hbit : k / 2 ^ j % 2 = 1
      · have e : keysTo cs k (j + 1) = x * y := by rw [hx, ← hyd]; rw [keysTo, if_pos hbit]
        rw [← hx] at b1 b2 b3 ⊢
        have m1 : 0 ≤ x * y := Int.mul_nonneg (by omega) (by omega)
        have m2 : x * y ≤ 4096 * 16 := Int.mul_le_mul b3 hyb.2 (by omega) (by omega)
        have E := Lib.hid e
        have d1 : (bits .and .i64 (k / 2 ^ j) 1 == 1) = true := by rw [hb, hbit]; rfl
        clear hb hbit e hyd hx hy b2
        go_wp2
        go_round
        case rel => exact ⟨j + 1, by go_num, by omega, by rw [E.out]⟩
        case measure => simp [intOf]; omega
      · have e : keysTo cs k (j + 1) = x := by rw [hx]; rw [keysTo, if_neg hbit]
        rw [← hx] at b1 b2 b3 ⊢
        have E := Lib.hid e
        have d1 : (bits .and .i64 (k / 2 ^ j) 1 == 1) = false := by rw [hb]; simpa using hbit
        clear hb hbit e hyd hx hy b2
        go_wp2
        go_round
        case rel => exact ⟨j + 1, by go_num, by omega, by rw [E.out]⟩
        case measure => simp [intOf]; omega
    · obtain rfl : j = q := by omega
      rw [hall.out]
      obtain ⟨kk, hkk⟩ : ∃ kk, kk = keysN cs k := ⟨_, rfl⟩
      rw [← hkk]
      have HKK := Lib.hid hkk
      clear hkk
      by_cases hlt : rows < kk
      · go_wp2
        go_ret
        exact ⟨ret_int (by unfold sizeB; rw [← HKK.out]), HB0.out⟩
      · go_wp2
        go_ret
        exact ⟨ret_int (by unfold sizeB; rw [← HKK.out]), HB0.out⟩
theorem bitLen_0 : Lib.bitLen 0 = 0 := by decide
set_option maxHeartbeats 2000000 in
theorem rSort_any (A : Option Addr) (q c mm : Nat) (cs : List Int) (rows k : Int) (w : World) (hA : Nums .i64 w A q cs) (hq : q ≤ 4) (hc : ∀ x ∈ cs, 1 ≤ x ∧ x ≤ 16) (r1 : 0 ≤ rows) (r2 : rows ≤ 300) (h1 : 0 ≤ k) (h2 : k ≤ fullB q) :
    Calls Tryz.prog 30 #[.agg #[.slice A q c, .int .i64 mm], .int .i64 rows, .int .i64 k] w fun e w' => e = .returned (.int .i64 (sortB cs rows k)) ∧ Below w.heap.size w w' := by
  have hb0 : Below w.heap.size w (w.alloc (.cells #[.slice A q c, .int .i64 mm] 25)) := (Below.refl _ w).alloc (Nat.le_refl _) _
  have H := Lib.hid (rSize_any A q c mm cs rows k _ (hA.keep (Keeps.of_below hb0)) hq hc h1 h2)
  have HB0 := Lib.hid hb0
  obtain ⟨s1, s2⟩ := sizeB_bd hc h1 (by rw [hA.len]; exact h2) (by rw [hA.len]; exact hq) r1 r2
  have e : sortB cs rows k = sizeB cs rows k + sizeB cs rows k * (Lib.bitLen (sizeB cs rows k).toNat : Int) := rfl
  rw [e]
  obtain ⟨s, hs⟩ : ∃ s : Nat, sizeB cs rows k = (s : Int) := ⟨(sizeB cs rows k).toNat, by omega⟩
  rw [hs] at H s1 s2 ⊢
  have hl9 := bitLen_300 ⟨s, by omega⟩
  rw [Int.toNat_natCast]
  obtain ⟨n, hn⟩ : ∃ n, n = Lib.bitLen s := ⟨_, rfl⟩
  dsimp only at hl9
  rw [← hn] at hl9 ⊢
  have m1 : 0 ≤ (s : Int) * (n : Int) := Int.mul_nonneg s1 (by omega)
  have m2 : (s : Int) * (n : Int) ≤ 300 * 9 := Int.mul_le_mul s2 (by omega) (by omega) (by omega)
  have HN := Lib.hid hn
  clear hA hb0 hc hs e hn
  go_enter Tryz.func30, Tryz.ntmps30
  go_wp2_with fail
  refine H.out.mono ?_
  rintro e w1 ⟨rfl, hb1⟩
  have HB1 := Lib.hid (HB0.out.trans (hb1.mono HB0.out.size))
  clear hb1
  go_wp2
  go_loop [8, 9] (fun d m => ∃ (j : Nat) (x : Nat), m = .int .i64 x ∧ d = .int .i64 j ∧ j + Lib.bitLen x = n ∧ x ≤ 300) (fun _ m => (intOf m).toNat)
  case atStart => exact ⟨0, s, rfl, rfl, by rw [HN.out]; omega, by omega⟩
  case round =>
    obtain ⟨j, x, rfl, rfl, hj, hx3⟩ := hrel
    by_cases hx : 0 < x
    · have hh := Lib.bitLen_half x (by omega) (by omega)
      have hx' : (0 : Int) < (x : Int) := by omega
      have J := Lib.hid (show (j + 1) + Lib.bitLen (x / 2) = n by omega)
      have jn : j ≤ 9 := by omega
      clear hh hj
      go_wp2
      go_round
      case rel => exact ⟨j + 1, x / 2, by go_num, by go_num, J.out, by omega⟩
      case measure => simp [intOf]; omega
    · obtain rfl : x = 0 := by omega
      rw [bitLen_0] at hj
      obtain rfl : j = n := by omega
      clear hj
      go_wp2
      go_ret
      exact ⟨rfl, HB1.out⟩
end Go.Proofs.YtjllmladhjbnaaaGreatDoor
