/- The walk of the law LedgerBack: the Go text returns true, and writes nothing that was there. -/
import Derived.Test.YtmckiokiegcalaaLed3
namespace Go.Proofs.Ytmckiokiegcalaa
open Go.RowKit
set_option maxHeartbeats 4000000 in
theorem ledgerBack_walk (x n m : Int) (w : World) (hx : inK .i64 x) (hn : inK .i64 n) (hm : inK .i64 m) :
    Calls Try.prog 5 #[.int .i64 x, .int .i64 n, .int .i64 m] w fun e w' => e = .returned (.bool true) ∧ Below w.heap.size w w' := by
  obtain ⟨k, hk⟩ : ∃ k, k = x % 1000 := ⟨_, rfl⟩
  have hk1 : 0 ≤ k ∧ k ≤ 999 := by omega
  obtain ⟨a, ha⟩ : ∃ a, a = n % (k + 1) := ⟨_, rfl⟩
  have ha1 : 0 ≤ a ∧ a ≤ k := by rw [ha]; exact ⟨Int.emod_nonneg _ (by omega), by have := Int.emod_lt_of_pos n (show 0 < k + 1 by omega); omega⟩
  obtain ⟨b, hb⟩ : ∃ b, b = m % (a + 1) := ⟨_, rfl⟩
  have hb1 : 0 ≤ b ∧ b ≤ a := by rw [hb]; exact ⟨Int.emod_nonneg _ (by omega), by have := Int.emod_lt_of_pos m (show 0 < a + 1 by omega); omega⟩
  obtain ⟨k1, k2⟩ := hk1
  obtain ⟨a1, a2⟩ := ha1
  obtain ⟨b1, b2⟩ := hb1
  have Hk := Lib.hid hk
  have Ha := Lib.hid ha
  have HB := Lib.hid hb
  clear hk ha hb
  go_enter Try.func5, Try.ntmps5
  go_wp2_with fail
  refine (known3 w).mono ?_
  rintro e w1 ⟨rfl, hb1⟩
  have Hb := Lib.hid hb1
  clear hb1
  go_wp2_with fail
  refine (wi3 x 1000 _ hx (by omega) (by omega)).mono ?_
  rintro e w2 ⟨rfl, rfl⟩
  rw [← Hk.out]
  go_wp2_with fail
  refine (new_l Hb.out k (by omega)).mono ?_
  rintro e w2 ⟨rfl, h1, h2⟩
  have h := Lib.hid h1
  have Hq := Lib.hid h2
  clear h1 h2
  go_wp2_with fail
  refine (wi3 n (k + 1) _ hn (by omega) (by omega)).mono ?_
  rintro e w3 ⟨rfl, rfl⟩
  rw [← Ha.out]
  go_wp2_with fail
  refine (wi3 m (a + 1) _ hm (by omega) (by omega)).mono ?_
  rintro e w3 ⟨rfl, rfl⟩
  rw [← HB.out]
  go_wp2_with fail
  refine (take_y h.out a ⟨a, a, k⟩ (by simp only [LS.new]; omega) (LS.is (by simp only [LS.new]; omega) (by simp only [LS.new]; omega) rfl)).mono ?_
  rintro e w3 ⟨rfl, h1, h2⟩
  have h := Lib.hid h1
  clear h1 h2
  go_wp2_with fail
  refine (give_n h.out (a + 1) (by simp only [inK]; omega) (by simp only []; omega)).mono ?_
  rintro e w4 ⟨rfl, h1, h2⟩
  have h := Lib.hid h1
  clear h1 h2
  go_wp2_with fail
  refine (give_y h.out b ⟨a - b, a, k⟩ (by simp only []; omega) rfl).mono ?_
  rintro e w5 ⟨rfl, h1, h2⟩
  have h := Lib.hid h1
  clear h1 h2
  go_wp2_with fail
  refine (used_l h.out (a - b) rfl).mono ?_
  rintro e w6 ⟨rfl, rfl⟩
  go_wp2_with fail
  refine (take_y h.out (k - a + b) ⟨k, k, k⟩ (by simp only []; omega) (LS.is (by first | rfl | (simp only []; omega)) (by first | rfl | (simp only []; omega)) rfl)).mono ?_
  rintro e w6 ⟨rfl, h1, h2⟩
  have h := Lib.hid h1
  clear h1 h2
  go_wp2_with fail
  refine (used_l h.out k rfl).mono ?_
  rintro e w7 ⟨rfl, rfl⟩
  go_wp2_with fail
  refine (take_n h.out 1 (by simp only [inK]; omega) (by simp only []; omega)).mono ?_
  rintro e w7 ⟨rfl, h1, h2⟩
  have h := Lib.hid h1
  clear h1 h2
  go_wp2_with fail
  refine (take_y h.out 0 ⟨k, k, k⟩ (by simp only []; omega) (LS.is (by first | rfl | (simp only []; omega)) (by first | rfl | (simp only []; omega)) rfl)).mono ?_
  rintro e w8 ⟨rfl, h1, h2⟩
  have h := Lib.hid h1
  clear h1 h2
  go_wp2_with fail
  refine (give_y h.out k ⟨0, k, k⟩ (by simp only []; omega) (LS.is (by first | rfl | (simp only []; omega)) (by first | rfl | (simp only []; omega)) rfl)).mono ?_
  rintro e w9 ⟨rfl, h1, h2⟩
  have h := Lib.hid h1
  clear h1 h2
  go_wp2_with fail
  refine (used_l h.out 0 rfl).mono ?_
  rintro e w10 ⟨rfl, rfl⟩
  go_wp2_with fail
  refine (high_l h.out k rfl).mono ?_
  rintro e w10 ⟨rfl, rfl⟩
  go_wp2
  go_ret
  exact ⟨rfl, h.out.bel⟩
end Go.Proofs.Ytmckiokiegcalaa
