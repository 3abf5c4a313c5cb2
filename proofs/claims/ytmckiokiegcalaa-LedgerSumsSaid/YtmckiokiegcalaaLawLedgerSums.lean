/- The walk of the law LedgerSums: the Go text returns true, and writes nothing that was there. -/
import Derived.Test.YtmckiokiegcalaaLedRow
namespace Go.Proofs.Ytmckiokiegcalaa
open Go.RowKit
set_option maxHeartbeats 4000000 in
theorem ledgerSums_walk (a0 : Option Addr) (len0 cap0 : Nat) (z0 : List Int) (w : World) (w0 : IsRow .i64 w a0 len0 cap0 z0) :
    Calls Try.prog 10 #[.slice a0 len0 cap0] w fun e w' => e = .returned (.bool true) ∧ Below w.heap.size w w' := by
  obtain ⟨hx, hlc, hcap⟩ := w0.nums
  obtain ⟨xs, hxs⟩ : ∃ xs, xs = z0.take len0 := ⟨_, rfl⟩
  rw [← hxs] at hx
  have Hx := Lib.hid hx
  clear hxs w0 hx
  go_enter Try.func10, Try.ntmps10
  go_wp2_with fail
  refine (known3 w).mono ?_
  rintro e w1 ⟨rfl, hb1⟩
  have Hb := Lib.hid hb1
  clear hb1
  go_wp2_with fail
  refine (new_l Hb.out 100 (by omega)).mono ?_
  rintro e w2 ⟨rfl, h1, -⟩
  have h := Lib.hid h1
  clear h1 Hb
  generalize w1.heap.size = g at h ⊢
  go_wp2_with fail
  go_loopw [4, 5] (fun u i wr => ∃ (k : Nat) (s : LS), k ≤ len0 ∧ i = .int .i64 k ∧ u = .int .i64 s.now ∧ s.all = 100 ∧ L w wr g s) (fun _ i _ => len0 - (intOf i).toNat)
  case atStart => exact ⟨0, LS.new 100, by omega, rfl, rfl, rfl, h.out⟩
  case round =>
    obtain ⟨k, s, hk, rfl, rfl, hall, hL⟩ := hrel
    have HL := Lib.hid hL
    have Hall := Lib.hid hall
    obtain ⟨s1, s2, s3, s4⟩ := hL.ok
    rw [hall] at s3
    clear h hL hall
    by_cases hlt : k < len0
    · by_cases h60 : k < 60
      · obtain ⟨ad, x, rfl, hxk, ⟨hx1, hx2⟩, hxc⟩ := (Hx.out.keep (Keeps.of_below HL.out.bel)).at_ hlt
        clear hxk
        obtain ⟨q, hq⟩ : ∃ q, q = (x.tdiv 2) % 70 := ⟨_, rfl⟩
        have q1 : 0 ≤ q := by omega
        have q2 : q ≤ 69 := by omega
        have hxk := tdiv_in (k := x) (c := 2) ⟨hx1, hx2⟩ (by omega)
        have Hxk := Lib.hid hxk
        have Hq := Lib.hid hq
        clear hq hxk
        go_wp2_with fail
        refine (wi3 (x.tdiv 2) 70 _ Hxk.out (by omega) (by omega)).mono ?_
        rintro e w3 ⟨rfl, rfl⟩
        rw [← Hq.out]
        go_wp2_with fail
        refine (wi3 x 2 _ ⟨hx1, hx2⟩ (by omega) (by omega)).mono ?_
        rintro e w3 ⟨rfl, rfl⟩
        by_cases h2 : x % 2 = 0
        · have hz : (x % 2 == 0) = true := by simpa using h2
          have Hz := Lib.hid h2
          clear h2
          by_cases hc : q ≤ 100 - s.now
          · have hd : decide (s.now + q ≤ 100) = true := by simp; omega
            go_wp2_with fail
            refine (take_y HL.out q ⟨s.now + q, max s.most (s.now + q), s.all⟩ (by rw [Hall.out]; omega) rfl).mono ?_
            rintro e w3 ⟨rfl, h1, -⟩
            have H3 := Lib.hid h1
            clear h1
            go_wp2_with fail
            refine (used_l H3.out (s.now + q) rfl).mono ?_
            rintro e w4 ⟨rfl, rfl⟩
            go_wp2
            exact ⟨⟨k + 1, ⟨s.now + q, max s.most (s.now + q), s.all⟩, by omega, by go_num, rfl, Hall.out, H3.out⟩, by simp [intOf]; omega⟩
          · have hd : decide (s.now + q ≤ 100) = false := by simp; omega
            go_wp2_with fail
            refine (take_n HL.out q (by simp only [inK]; omega) (by rw [Hall.out]; omega)).mono ?_
            rintro e w3 ⟨rfl, h1, -⟩
            have H3 := Lib.hid h1
            clear h1
            go_wp2_with fail
            refine (used_l H3.out s.now rfl).mono ?_
            rintro e w4 ⟨rfl, rfl⟩
            go_wp2
            exact ⟨⟨k + 1, s, by omega, by go_num, rfl, Hall.out, H3.out⟩, by simp [intOf]; omega⟩
        · have hz : (x % 2 == 0) = false := by simpa using h2
          have Hz := Lib.hid h2
          clear h2
          by_cases hc : q ≤ s.now
          · have hd : decide (q ≤ s.now) = true := by simp; omega
            go_wp2_with fail
            refine (give_y HL.out q ⟨s.now - q, s.most, s.all⟩ ⟨q1, by omega⟩ rfl).mono ?_
            rintro e w3 ⟨rfl, h1, -⟩
            have H3 := Lib.hid h1
            clear h1
            go_wp2_with fail
            refine (used_l H3.out (s.now - q) rfl).mono ?_
            rintro e w4 ⟨rfl, rfl⟩
            go_wp2
            exact ⟨⟨k + 1, ⟨s.now - q, s.most, s.all⟩, by omega, by go_num, rfl, Hall.out, H3.out⟩, by simp [intOf]; omega⟩
          · have hd : decide (q ≤ s.now) = false := by simp; omega
            go_wp2_with fail
            refine (give_n HL.out q (by simp only [inK]; omega) (by omega)).mono ?_
            rintro e w3 ⟨rfl, h1, -⟩
            have H3 := Lib.hid h1
            clear h1
            go_wp2_with fail
            refine (used_l H3.out s.now rfl).mono ?_
            rintro e w4 ⟨rfl, rfl⟩
            go_wp2
            exact ⟨⟨k + 1, s, by omega, by go_num, rfl, Hall.out, H3.out⟩, by simp [intOf]; omega⟩
      · go_wp2
        go_ret
        exact ⟨rfl, HL.out.bel⟩
    · go_wp2
      go_ret
      exact ⟨rfl, HL.out.bel⟩
end Go.Proofs.Ytmckiokiegcalaa
