/- The walk of the law LedgerPlays: the Go text returns true, and writes nothing that was there. -/
import Derived.Test.YtmckiokiegcalaaLedRow
namespace Go.Proofs.Ytmckiokiegcalaa
open Go.RowKit
set_option maxHeartbeats 4000000 in
theorem ledgerPlays_walk (b : Int) (a0 : Option Addr) (len0 cap0 : Nat) (z0 : List Int) (raw : Int) (w : World) (hb : inK .i64 b) (w0 : IsRow .i64 w a0 len0 cap0 z0) (hraw : inK .i64 raw) :
    Calls Try.prog 3 #[.int .i64 b, .slice a0 len0 cap0, .int .i64 raw] w fun e w' => e = .returned (.bool true) ∧ Below w.heap.size w w' := by
  obtain ⟨hx, hlc, hcap⟩ := w0.nums
  obtain ⟨xs, hxs⟩ : ∃ xs, xs = z0.take len0 := ⟨_, rfl⟩
  rw [← hxs] at hx
  have Hx := Lib.hid hx
  have Hraw := Lib.hid hraw
  obtain ⟨K, hK⟩ : ∃ K, K = b % 60 := ⟨_, rfl⟩
  have K1 : 0 ≤ K := by omega
  have K2 : K ≤ 59 := by omega
  have HK := Lib.hid hK
  clear hxs w0 hx hK hraw
  go_enter Try.func3, Try.ntmps3
  go_wp2_with fail
  refine (known3 w).mono ?_
  rintro e w1 ⟨rfl, hb1⟩
  have Hb := Lib.hid hb1
  clear hb1
  go_wp2_with fail
  refine (wi3 b 60 _ hb (by omega) (by omega)).mono ?_
  rintro e w2 ⟨rfl, rfl⟩
  rw [← HK.out]
  go_wp2_with fail
  refine (new_l Hb.out K (by omega)).mono ?_
  rintro e w2 ⟨rfl, h1, -⟩
  have h := Lib.hid h1
  clear h1 Hb
  generalize w1.heap.size = g at h ⊢
  go_wp2_with fail
  refine (new_r h.out.bel K (by omega)).mono ?_
  rintro e w3 ⟨rfl, h1, h2⟩
  have hne : g ≠ w2.heap.size := by have := h.out.at_.lt; omega
  have h := Lib.hid (h.out.below h2)
  have hB := Lib.hid h1
  clear h1 h2
  generalize w2.heap.size = g2 at h hB hne ⊢
  go_wp2_with fail
  go_loopw [10] (fun i wr => ∃ (k : Nat) (s : LS), k ≤ len0 ∧ i = .int .i64 k ∧ L w wr g s ∧ R w wr g2 s) (fun i _ => len0 - (intOf i).toNat)
  case atStart => exact ⟨0, LS.new K, by omega, rfl, h.out, hB.out⟩
  case round =>
    obtain ⟨k, s, hk, rfl, hL, hM⟩ := hrel
    have HL := Lib.hid hL
    have HM := Lib.hid hM
    clear h hB hL hM
    by_cases hlt : k < len0
    · by_cases h80 : k < 80
      · obtain ⟨ad, x, rfl, hxk, hx0, hxc⟩ := (Hx.out.keep (Keeps.of_below HL.out.bel)).at_ hlt
        obtain ⟨hx1, hx2⟩ := hx0
        obtain ⟨q, hq⟩ : ∃ q, q = (x.tdiv 2) % 30 := ⟨_, rfl⟩
        have q1 : 0 ≤ q := by omega
        have q2 : q ≤ 29 := by omega
        have hxk := tdiv_in (k := x) (c := 2) ⟨hx1, hx2⟩ (by omega)
        have Hxk := Lib.hid hxk
        have Hq := Lib.hid hq
        clear hq hxk
        go_wp2_with fail
        refine (wi3 (x.tdiv 2) 30 _ Hxk.out (by omega) (by omega)).mono ?_
        rintro e w3 ⟨rfl, rfl⟩
        rw [← Hq.out]
        go_wp2_with fail
        refine (wi3 x 23 _ ⟨hx1, hx2⟩ (by omega) (by omega)).mono ?_
        rintro e w3 ⟨rfl, rfl⟩
        by_cases h23 : x % 23 = 0
        · have hz : (x % 23 == 0) = true := by simpa using h23
          clear h23
          go_wp2_with fail
          refine (wi3 x 2 _ ⟨hx1, hx2⟩ (by omega) (by omega)).mono ?_
          rintro e w3 ⟨rfl, rfl⟩
          by_cases h2 : x % 2 = 0
          · have hz2 : (x % 2 == 0) = true := by simpa using h2
            clear h2
            go_wp2_with fail
            refine (take_l HL.out raw Hraw.out).mono ?_
            rintro e w4 ⟨rfl, h1, h2⟩
            have HL := Lib.hid h1
            have HM := Lib.hid (HM.out.only h2 (Ne.symm hne) HL.out.low)
            clear h1 h2
            go_wp2_with fail
            refine (take_r HM.out raw Hraw.out).mono ?_
            rintro e w5 ⟨rfl, h1, h2⟩
            have HL := Lib.hid (HL.out.only h2 hne HM.out.low)
            have HM := Lib.hid h1
            clear h1 h2
            generalize s.take raw = s' at HL HM
            go_wp2_with fail
            refine (used_l HL.out _ rfl).mono ?_
            rintro e w6 ⟨rfl, rfl⟩
            go_wp2_with fail
            refine (used_r HM.out _ rfl).mono ?_
            rintro e w6 ⟨rfl, rfl⟩
            go_wp2_with fail
            refine (high_l HL.out _ rfl).mono ?_
            rintro e w6 ⟨rfl, rfl⟩
            go_wp2_with fail
            refine (high_r HM.out _ rfl).mono ?_
            rintro e w6 ⟨rfl, rfl⟩
            go_wp2
            exact ⟨⟨k + 1, s', by omega, by go_num, HL.out, HM.out⟩, by simp [intOf]; omega⟩
          · have hz2 : (x % 2 == 0) = false := by simpa using h2
            clear h2
            go_wp2_with fail
            refine (give_l HL.out raw Hraw.out).mono ?_
            rintro e w4 ⟨rfl, h1, h2⟩
            have HL := Lib.hid h1
            have HM := Lib.hid (HM.out.only h2 (Ne.symm hne) HL.out.low)
            clear h1 h2
            go_wp2_with fail
            refine (give_r HM.out raw Hraw.out).mono ?_
            rintro e w5 ⟨rfl, h1, h2⟩
            have HL := Lib.hid (HL.out.only h2 hne HM.out.low)
            have HM := Lib.hid h1
            clear h1 h2
            generalize s.give raw = s' at HL HM
            go_wp2_with fail
            refine (used_l HL.out _ rfl).mono ?_
            rintro e w6 ⟨rfl, rfl⟩
            go_wp2_with fail
            refine (used_r HM.out _ rfl).mono ?_
            rintro e w6 ⟨rfl, rfl⟩
            go_wp2_with fail
            refine (high_l HL.out _ rfl).mono ?_
            rintro e w6 ⟨rfl, rfl⟩
            go_wp2_with fail
            refine (high_r HM.out _ rfl).mono ?_
            rintro e w6 ⟨rfl, rfl⟩
            go_wp2
            exact ⟨⟨k + 1, s', by omega, by go_num, HL.out, HM.out⟩, by simp [intOf]; omega⟩
        · have hz : (x % 23 == 0) = false := by simpa using h23
          clear h23
          go_wp2_with fail
          refine (wi3 x 2 _ ⟨hx1, hx2⟩ (by omega) (by omega)).mono ?_
          rintro e w3 ⟨rfl, rfl⟩
          by_cases h2 : x % 2 = 0
          · have hz2 : (x % 2 == 0) = true := by simpa using h2
            clear h2
            go_wp2_with fail
            refine (take_l HL.out (q - 2) (by simp only [inK]; omega)).mono ?_
            rintro e w4 ⟨rfl, h1, h2⟩
            have HL := Lib.hid h1
            have HM := Lib.hid (HM.out.only h2 (Ne.symm hne) HL.out.low)
            clear h1 h2
            go_wp2_with fail
            refine (take_r HM.out (q - 2) (by simp only [inK]; omega)).mono ?_
            rintro e w5 ⟨rfl, h1, h2⟩
            have HL := Lib.hid (HL.out.only h2 hne HM.out.low)
            have HM := Lib.hid h1
            clear h1 h2
            generalize s.take (q - 2) = s' at HL HM
            go_wp2_with fail
            refine (used_l HL.out _ rfl).mono ?_
            rintro e w6 ⟨rfl, rfl⟩
            go_wp2_with fail
            refine (used_r HM.out _ rfl).mono ?_
            rintro e w6 ⟨rfl, rfl⟩
            go_wp2_with fail
            refine (high_l HL.out _ rfl).mono ?_
            rintro e w6 ⟨rfl, rfl⟩
            go_wp2_with fail
            refine (high_r HM.out _ rfl).mono ?_
            rintro e w6 ⟨rfl, rfl⟩
            go_wp2
            exact ⟨⟨k + 1, s', by omega, by go_num, HL.out, HM.out⟩, by simp [intOf]; omega⟩
          · have hz2 : (x % 2 == 0) = false := by simpa using h2
            clear h2
            go_wp2_with fail
            refine (give_l HL.out (q - 2) (by simp only [inK]; omega)).mono ?_
            rintro e w4 ⟨rfl, h1, h2⟩
            have HL := Lib.hid h1
            have HM := Lib.hid (HM.out.only h2 (Ne.symm hne) HL.out.low)
            clear h1 h2
            go_wp2_with fail
            refine (give_r HM.out (q - 2) (by simp only [inK]; omega)).mono ?_
            rintro e w5 ⟨rfl, h1, h2⟩
            have HL := Lib.hid (HL.out.only h2 hne HM.out.low)
            have HM := Lib.hid h1
            clear h1 h2
            generalize s.give (q - 2) = s' at HL HM
            go_wp2_with fail
            refine (used_l HL.out _ rfl).mono ?_
            rintro e w6 ⟨rfl, rfl⟩
            go_wp2_with fail
            refine (used_r HM.out _ rfl).mono ?_
            rintro e w6 ⟨rfl, rfl⟩
            go_wp2_with fail
            refine (high_l HL.out _ rfl).mono ?_
            rintro e w6 ⟨rfl, rfl⟩
            go_wp2_with fail
            refine (high_r HM.out _ rfl).mono ?_
            rintro e w6 ⟨rfl, rfl⟩
            go_wp2
            exact ⟨⟨k + 1, s', by omega, by go_num, HL.out, HM.out⟩, by simp [intOf]; omega⟩
      · go_wp2
        go_ret
        exact ⟨rfl, HL.out.bel⟩
    · go_wp2
      go_ret
      exact ⟨rfl, HL.out.bel⟩
end Go.Proofs.Ytmckiokiegcalaa
