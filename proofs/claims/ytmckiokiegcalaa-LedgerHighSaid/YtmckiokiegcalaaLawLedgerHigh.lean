/- The walk of the law LedgerHigh: the Go text returns true, and writes nothing that was there. -/
import Derived.Test.YtmckiokiegcalaaLedRow
namespace Go.Proofs.Ytmckiokiegcalaa
open Go.RowKit
set_option maxHeartbeats 4000000 in
theorem ledgerHigh_walk (a0 : Option Addr) (len0 cap0 : Nat) (z0 : List Int) (t : Int) (w : World) (w0 : IsRow .i64 w a0 len0 cap0 z0) (ht : inK .i64 t) :
    Calls Try.prog 8 #[.slice a0 len0 cap0, .int .i64 t] w fun e w' => e = .returned (.bool true) ∧ Below w.heap.size w w' := by
  obtain ⟨hx, hlc, hcap⟩ := w0.nums
  obtain ⟨xs, hxs⟩ : ∃ xs, xs = z0.take len0 := ⟨_, rfl⟩
  rw [← hxs] at hx
  have Hx := Lib.hid hx
  clear hxs w0 hx
  go_enter Try.func8, Try.ntmps8
  go_wp2_with fail
  refine (known3 w).mono ?_
  rintro e w1 ⟨rfl, hb1⟩
  have Hb := Lib.hid hb1
  clear hb1
  go_wp2_with fail
  refine (new_l Hb.out 1000 (by omega)).mono ?_
  rintro e w2 ⟨rfl, h1, -⟩
  have h := Lib.hid h1
  clear h1 Hb
  generalize w1.heap.size = g at h ⊢
  go_wp2_with fail
  refine (new_l h.out.bel 1000 (by omega)).mono ?_
  rintro e w3 ⟨rfl, h1, h2⟩
  have hne : g ≠ w2.heap.size := by have := h.out.at_.lt; omega
  have h := Lib.hid (h.out.below h2)
  have hB := Lib.hid h1
  clear h1 h2
  generalize w2.heap.size = g2 at h hB hne ⊢
  go_wp2_with fail
  go_loopw [7, 8] (fun u i wr => ∃ (k : Nat) (s : Int), k ≤ len0 ∧ k ≤ 20 ∧ i = .int .i64 k ∧ u = .int .i64 s ∧ 0 ≤ s ∧ s ≤ 40 * k ∧ L w wr g ⟨s, s, 1000⟩ ∧ L w wr g2 (LS.new 1000)) (fun _ i _ => len0 - (intOf i).toNat)
  case atStart => exact ⟨0, 0, by omega, by omega, rfl, rfl, by omega, by omega, h.out, hB.out⟩
  case round =>
    obtain ⟨k, s, hk, hk2, rfl, rfl, s1, s2, hL, hM⟩ := hrel
    have HL := Lib.hid hL
    have HM := Lib.hid hM
    clear h hB hL hM
    by_cases hgo : k < len0 ∧ k < 20
    · obtain ⟨hlt, h20⟩ := hgo
      obtain ⟨ad, x, rfl, hxk, hx0, hxc⟩ := (Hx.out.keep (Keeps.of_below HL.out.bel)).at_ hlt
      obtain ⟨q, hq⟩ : ∃ q, q = x % 40 := ⟨_, rfl⟩
      have q1 : 0 ≤ q := by omega
      have q2 : q ≤ 39 := by omega
      have Hq := Lib.hid hq
      have Hx0 := Lib.hid hx0
      clear hxk hx0 hq
      go_wp2_with fail
      refine (wi3 x 40 _ Hx0.out (by omega) (by omega)).mono ?_
      rintro e w4 ⟨rfl, rfl⟩
      rw [← Hq.out]
      go_wp2_with fail
      refine (take_y HL.out q ⟨s + q, s + q, 1000⟩ (by simp only []; omega) (LS.is rfl (by simp only []; omega) rfl)).mono ?_
      rintro e w4 ⟨rfl, h1, h2⟩
      have H3 := Lib.hid h1
      have HM := Lib.hid (HM.out.only h2 (Ne.symm hne) HL.out.low)
      clear h1 h2
      go_wp2
      exact ⟨⟨k + 1, s + q, by omega, by omega, by go_num, rfl, by omega, by omega, H3.out, HM.out⟩, by simp [intOf]; omega⟩
    · have s3 : s ≤ 800 := by omega
      obtain ⟨q, hq⟩ : ∃ q, q = t % (s + 1) := ⟨_, rfl⟩
      have q1 : 0 ≤ q := by rw [hq]; exact Int.emod_nonneg _ (by omega)
      have q2 : q ≤ s := by rw [hq]; have := Int.emod_lt_of_pos t (show 0 < s + 1 by omega); omega
      have Hq := Lib.hid hq
      clear hq
      have hend : ∀ {C : Prop}, C → C := fun h => h
      by_cases hlt : k < len0
      all_goals
        first | (have h20 : ¬ k < 20 := by omega) | skip
        clear hgo
        go_wp2_with fail
        refine (take_y HM.out s ⟨s, s, 1000⟩ (by simp only [LS.new]; omega) (LS.is (by simp only [LS.new]; omega) (by simp only [LS.new]; omega) rfl)).mono ?_
        rintro e w4 ⟨rfl, h1, h2⟩
        have HM := Lib.hid h1
        have HL := Lib.hid (HL.out.only h2 hne HM.out.low)
        clear h1 h2
        go_wp2_with fail
        refine (high_l HL.out s rfl).mono ?_
        rintro e w5 ⟨rfl, rfl⟩
        go_wp2_with fail
        refine (high_l HM.out s rfl).mono ?_
        rintro e w5 ⟨rfl, rfl⟩
        go_wp2_with fail
        refine (used_l HL.out s rfl).mono ?_
        rintro e w5 ⟨rfl, rfl⟩
        go_wp2_with fail
        refine (wi3 t (s + 1) _ ht (by omega) (by omega)).mono ?_
        rintro e w5 ⟨rfl, rfl⟩
        rw [← Hq.out]
        go_wp2_with fail
        refine (give_y HL.out q ⟨s - q, s, 1000⟩ (by simp only []; omega) rfl).mono ?_
        rintro e w5 ⟨rfl, h1, h2⟩
        have HL := Lib.hid h1
        clear h1 h2
        go_wp2_with fail
        refine (high_l HL.out s rfl).mono ?_
        rintro e w6 ⟨rfl, rfl⟩
        go_wp2_with fail
        refine (take_y HL.out q ⟨s, s, 1000⟩ (by simp only []; omega) (LS.is (by simp only []; omega) (by simp only []; omega) rfl)).mono ?_
        rintro e w6 ⟨rfl, h1, h2⟩
        have HL := Lib.hid h1
        clear h1 h2
        go_wp2_with fail
        refine (high_l HL.out s rfl).mono ?_
        rintro e w7 ⟨rfl, rfl⟩
        go_wp2
        go_ret
        exact ⟨rfl, HL.out.bel⟩
end Go.Proofs.Ytmckiokiegcalaa
