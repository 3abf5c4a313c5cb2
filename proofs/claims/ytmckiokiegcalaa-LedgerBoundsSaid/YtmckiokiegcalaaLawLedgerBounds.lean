/- The walk of the law LedgerBounds: the Go text returns true, and writes nothing that was there. -/
import Derived.Test.YtmckiokiegcalaaLedRow
namespace Go.Proofs.Ytmckiokiegcalaa
open Go.RowKit
/-- A give does not move the most; a take moves it to the greater of it and of what is used. -/
theorem LS.most_take {s : LS} (h : s.ok) (n : Int) : (s.take n).most = max s.most (s.take n).now := by
  obtain ⟨h1, h2, h3, h4⟩ := h
  by_cases hc : 0 ≤ n ∧ n ≤ s.all - s.now
  · rw [(LS.take_yes hc).2]
  · rw [(LS.take_no hc).2]; omega
theorem LS.most_give {s : LS} (h : s.ok) (n : Int) : (s.give n).most = max s.most (s.give n).now := by
  obtain ⟨h1, h2, h3, h4⟩ := h
  by_cases hc : 0 ≤ n ∧ n ≤ s.now
  · rw [(LS.give_yes hc).2]; show s.most = max s.most (s.now - n); omega
  · rw [(LS.give_no hc).2]; omega
set_option maxHeartbeats 4000000 in
theorem ledgerBounds_walk (b : Int) (a0 : Option Addr) (len0 cap0 : Nat) (z0 : List Int) (w : World) (hb : inK .i64 b) (w0 : IsRow .i64 w a0 len0 cap0 z0) :
    Calls Try.prog 4 #[.int .i64 b, .slice a0 len0 cap0] w fun e w' => e = .returned (.bool true) ∧ Below w.heap.size w w' := by
  obtain ⟨hx, hlc, hcap⟩ := w0.nums
  obtain ⟨xs, hxs⟩ : ∃ xs, xs = z0.take len0 := ⟨_, rfl⟩
  rw [← hxs] at hx
  have Hx := Lib.hid hx
  obtain ⟨K, hK⟩ : ∃ K, K = b % 1099511627776 := ⟨_, rfl⟩
  have K1 : 0 ≤ K := by omega
  have K2 : K ≤ 1099511627776 := by omega
  have HK := Lib.hid hK
  clear hxs w0 hx hK
  go_enter Try.func4, Try.ntmps4
  go_wp2_with fail
  refine (known3 w).mono ?_
  rintro e w1 ⟨rfl, hb1⟩
  have Hb := Lib.hid hb1
  clear hb1
  go_wp2_with fail
  refine (wi3 b 1099511627776 _ hb (by omega) (by omega)).mono ?_
  rintro e w2 ⟨rfl, rfl⟩
  rw [← HK.out]
  go_wp2_with fail
  refine (new_l Hb.out K (by omega)).mono ?_
  rintro e w2 ⟨rfl, h1, -⟩
  have h := Lib.hid h1
  clear h1 Hb
  generalize w1.heap.size = g at h ⊢
  go_wp2_with fail
  go_loopw [7, 8] (fun u i wr => ∃ (k : Nat) (s : LS), k ≤ len0 ∧ i = .int .i64 k ∧ u = .int .i64 s.most ∧ s.all = K ∧ L w wr g s) (fun _ i _ => len0 - (intOf i).toNat)
  case atStart => exact ⟨0, LS.new K, by omega, rfl, rfl, rfl, h.out⟩
  case round =>
    obtain ⟨k, s, hk, rfl, rfl, hall, hL⟩ := hrel
    have HL := Lib.hid hL
    have Hall := Lib.hid hall
    have Hok := Lib.hid hL.ok
    clear h hL hall
    by_cases hlt : k < len0
    · by_cases h60 : k < 60
      · obtain ⟨ad, x, rfl, hxk, hx0, hxc⟩ := (Hx.out.keep (Keeps.of_below HL.out.bel)).at_ hlt
        have Hx0 := Lib.hid hx0
        clear hxk hx0
        go_wp2_with fail
        refine (wi3 x 3 _ Hx0.out (by omega) (by omega)).mono ?_
        rintro e w3 ⟨rfl, rfl⟩
        by_cases h2 : x % 3 = 0
        · have hz : (x % 3 == 0) = true := by simpa using h2
          clear h2
          go_wp2_with fail
          refine (give_l HL.out x Hx0.out).mono ?_
          rintro e w3 ⟨rfl, h1, -⟩
          obtain ⟨s', hs'⟩ : ∃ s', s' = s.give x := ⟨_, rfl⟩
          have hm : s'.most = max s.most s'.now := by rw [hs']; exact LS.most_give Hok.out x
          have ha : s'.all = K := by rw [hs', LS.all_give]; exact Hall.out
          rw [← hs'] at h1
          obtain ⟨s1, s2, s3, s4⟩ := h1.ok
          rw [ha] at s3
          have H3 := Lib.hid h1
          have Hm := Lib.hid hm
          have Ha := Lib.hid ha
          clear h1 hs' hm ha
          have e1 : s.most < s'.now ∨ s'.now ≤ s.most := by omega
          go_wp2_with fail
          refine (used_l H3.out _ rfl).mono ?_
          rintro e w4 ⟨rfl, rfl⟩
          have d1 : decide (s'.now < 0) = false := by simp; omega
          have d2 : decide (K < s'.now) = false := by simp; omega
          rcases e1 with e1 | e1
          all_goals
            go_wp2_with fail
            refine (used_l H3.out _ rfl).mono ?_
            rintro e w4 ⟨rfl, rfl⟩
            go_wp2_with fail
            refine (used_l H3.out _ rfl).mono ?_
            rintro e w4 ⟨rfl, rfl⟩
            go_wp2_with fail
            refine (high_l H3.out (max s.most s'.now) Hm.out).mono ?_
            rintro e w4 ⟨rfl, rfl⟩
            first | rw [show max s.most s'.now = s.most by omega] | rw [show max s.most s'.now = s'.now by omega]
            go_wp2
            exact ⟨⟨k + 1, s', by omega, by go_num, by rw [Hm.out]; first | rw [show max s.most s'.now = s.most by omega] | rw [show max s.most s'.now = s'.now by omega], Ha.out, H3.out⟩, by simp [intOf]; omega⟩
        · have hz : (x % 3 == 0) = false := by simpa using h2
          clear h2
          go_wp2_with fail
          refine (take_l HL.out x Hx0.out).mono ?_
          rintro e w3 ⟨rfl, h1, -⟩
          obtain ⟨s', hs'⟩ : ∃ s', s' = s.take x := ⟨_, rfl⟩
          have hm : s'.most = max s.most s'.now := by rw [hs']; exact LS.most_take Hok.out x
          have ha : s'.all = K := by rw [hs', LS.all_take]; exact Hall.out
          rw [← hs'] at h1
          obtain ⟨s1, s2, s3, s4⟩ := h1.ok
          rw [ha] at s3
          have H3 := Lib.hid h1
          have Hm := Lib.hid hm
          have Ha := Lib.hid ha
          clear h1 hs' hm ha
          have e1 : s.most < s'.now ∨ s'.now ≤ s.most := by omega
          go_wp2_with fail
          refine (used_l H3.out _ rfl).mono ?_
          rintro e w4 ⟨rfl, rfl⟩
          have d1 : decide (s'.now < 0) = false := by simp; omega
          have d2 : decide (K < s'.now) = false := by simp; omega
          rcases e1 with e1 | e1
          all_goals
            go_wp2_with fail
            refine (used_l H3.out _ rfl).mono ?_
            rintro e w4 ⟨rfl, rfl⟩
            go_wp2_with fail
            refine (used_l H3.out _ rfl).mono ?_
            rintro e w4 ⟨rfl, rfl⟩
            go_wp2_with fail
            refine (high_l H3.out (max s.most s'.now) Hm.out).mono ?_
            rintro e w4 ⟨rfl, rfl⟩
            first | rw [show max s.most s'.now = s.most by omega] | rw [show max s.most s'.now = s'.now by omega]
            go_wp2
            exact ⟨⟨k + 1, s', by omega, by go_num, by rw [Hm.out]; first | rw [show max s.most s'.now = s.most by omega] | rw [show max s.most s'.now = s'.now by omega], Ha.out, H3.out⟩, by simp [intOf]; omega⟩
      · go_wp2
        go_ret
        exact ⟨rfl, HL.out.bel⟩
    · go_wp2
      go_ret
      exact ⟨rfl, HL.out.bel⟩
end Go.Proofs.Ytmckiokiegcalaa
