/- The walk of the law LedgerNone: the Go text returns true, and writes nothing that was there. -/
import Derived.Test.YtmckiokiegcalaaLed3
namespace Go.Proofs.Ytmckiokiegcalaa
open Go.RowKit
set_option maxHeartbeats 2000000 in
theorem ledgerNone_walk (n m : Int) (w : World) (hn : inK .i64 n) (hm : inK .i64 m) :
    Calls Try.prog 9 #[.int .i64 n, .int .i64 m] w fun e w' => e = .returned (.bool true) ∧ Below w.heap.size w w' := by
  have dn : n = 0 ∨ ((n == 0) = false ∧ n ≠ 0) := by
    by_cases h : n = 0
    · exact Or.inl h
    · exact Or.inr ⟨by simpa using h, h⟩
  have dm : m = 0 ∨ ((m == 0) = false ∧ m ≠ 0) := by
    by_cases h : m = 0
    · exact Or.inl h
    · exact Or.inr ⟨by simpa using h, h⟩
  rcases dn with rfl | ⟨en, dn⟩ <;> rcases dm with rfl | ⟨em, dm⟩
  · go_enter Try.func9, Try.ntmps9
    go_wp2_with fail
    refine (known3 w).mono ?_
    rintro e w1 ⟨rfl, hb1⟩
    have Hb := Lib.hid hb1
    clear hb1
    go_wp2_with fail
    refine (new_l Hb.out 0 (by omega)).mono ?_
    rintro e w2 ⟨rfl, h1, h2⟩
    have h := Lib.hid h1
    have HB := Lib.hid h2
    clear h1 h2
    go_wp2_with fail
    refine (new_r h.out.bel 0 (by omega)).mono ?_
    rintro e w3 ⟨rfl, h1, h2⟩
    have hne : w2.heap.size ≠ w1.heap.size := by have := h.out.at_.lt; omega
    have h := Lib.hid (h.out.below h2)
    have hr := Lib.hid h1
    clear h1 h2
    go_wp2_with fail
    refine (take_y h.out 0 (LS.new 0) (by simp [LS.new]) rfl).mono ?_
    rintro e w4 ⟨rfl, h1, h2⟩
    have hr := Lib.hid (hr.out.only h2 hne h.out.low)
    have h := Lib.hid h1
    clear h1 h2
    go_wp2_with fail
    refine (give_y h.out 0 (LS.new 0) (by simp [LS.new]) rfl).mono ?_
    rintro e w5 ⟨rfl, h1, h2⟩
    have hr := Lib.hid (hr.out.only h2 hne h.out.low)
    have h := Lib.hid h1
    clear h1 h2
    go_wp2_with fail
    refine (take_y h.out 0 (LS.new 0) (by simp [LS.new]) rfl).mono ?_
    rintro e w6 ⟨rfl, h1, h2⟩
    have hr := Lib.hid (hr.out.only h2 hne h.out.low)
    have h := Lib.hid h1
    clear h1 h2
    go_wp2_with fail
    refine (used_l h.out 0 rfl).mono ?_
    rintro e w7 ⟨rfl, rfl⟩
    go_wp2_with fail
    refine (high_l h.out 0 rfl).mono ?_
    rintro e w7 ⟨rfl, rfl⟩
    go_wp2_with fail
    refine (high_r hr.out 0 rfl).mono ?_
    rintro e w7 ⟨rfl, rfl⟩
    go_wp2
    go_ret
    exact ⟨rfl, h.out.bel⟩
  · go_enter Try.func9, Try.ntmps9
    go_wp2_with fail
    refine (known3 w).mono ?_
    rintro e w1 ⟨rfl, hb1⟩
    have Hb := Lib.hid hb1
    clear hb1
    go_wp2_with fail
    refine (new_l Hb.out 0 (by omega)).mono ?_
    rintro e w2 ⟨rfl, h1, h2⟩
    have h := Lib.hid h1
    have HB := Lib.hid h2
    clear h1 h2
    go_wp2_with fail
    refine (new_r h.out.bel 0 (by omega)).mono ?_
    rintro e w3 ⟨rfl, h1, h2⟩
    have hne : w2.heap.size ≠ w1.heap.size := by have := h.out.at_.lt; omega
    have h := Lib.hid (h.out.below h2)
    have hr := Lib.hid h1
    clear h1 h2
    go_wp2_with fail
    refine (take_y h.out 0 (LS.new 0) (by simp [LS.new]) rfl).mono ?_
    rintro e w4 ⟨rfl, h1, h2⟩
    have hr := Lib.hid (hr.out.only h2 hne h.out.low)
    have h := Lib.hid h1
    clear h1 h2
    go_wp2_with fail
    refine (give_n h.out m hm (by simp [LS.new]; omega)).mono ?_
    rintro e w5 ⟨rfl, h1, h2⟩
    have hr := Lib.hid (hr.out.only h2 hne h.out.low)
    have h := Lib.hid h1
    clear h1 h2
    go_wp2_with fail
    refine (take_y h.out 0 (LS.new 0) (by simp [LS.new]) rfl).mono ?_
    rintro e w6 ⟨rfl, h1, h2⟩
    have hr := Lib.hid (hr.out.only h2 hne h.out.low)
    have h := Lib.hid h1
    clear h1 h2
    go_wp2_with fail
    refine (used_l h.out 0 rfl).mono ?_
    rintro e w7 ⟨rfl, rfl⟩
    go_wp2_with fail
    refine (high_l h.out 0 rfl).mono ?_
    rintro e w7 ⟨rfl, rfl⟩
    go_wp2_with fail
    refine (high_r hr.out 0 rfl).mono ?_
    rintro e w7 ⟨rfl, rfl⟩
    go_wp2
    go_ret
    exact ⟨rfl, h.out.bel⟩
  · go_enter Try.func9, Try.ntmps9
    go_wp2_with fail
    refine (known3 w).mono ?_
    rintro e w1 ⟨rfl, hb1⟩
    have Hb := Lib.hid hb1
    clear hb1
    go_wp2_with fail
    refine (new_l Hb.out 0 (by omega)).mono ?_
    rintro e w2 ⟨rfl, h1, h2⟩
    have h := Lib.hid h1
    have HB := Lib.hid h2
    clear h1 h2
    go_wp2_with fail
    refine (new_r h.out.bel 0 (by omega)).mono ?_
    rintro e w3 ⟨rfl, h1, h2⟩
    have hne : w2.heap.size ≠ w1.heap.size := by have := h.out.at_.lt; omega
    have h := Lib.hid (h.out.below h2)
    have hr := Lib.hid h1
    clear h1 h2
    go_wp2_with fail
    refine (take_n h.out n hn (by simp [LS.new]; omega)).mono ?_
    rintro e w4 ⟨rfl, h1, h2⟩
    have hr := Lib.hid (hr.out.only h2 hne h.out.low)
    have h := Lib.hid h1
    clear h1 h2
    go_wp2_with fail
    refine (give_y h.out 0 (LS.new 0) (by simp [LS.new]) rfl).mono ?_
    rintro e w5 ⟨rfl, h1, h2⟩
    have hr := Lib.hid (hr.out.only h2 hne h.out.low)
    have h := Lib.hid h1
    clear h1 h2
    go_wp2_with fail
    refine (take_y h.out 0 (LS.new 0) (by simp [LS.new]) rfl).mono ?_
    rintro e w6 ⟨rfl, h1, h2⟩
    have hr := Lib.hid (hr.out.only h2 hne h.out.low)
    have h := Lib.hid h1
    clear h1 h2
    go_wp2_with fail
    refine (used_l h.out 0 rfl).mono ?_
    rintro e w7 ⟨rfl, rfl⟩
    go_wp2_with fail
    refine (high_l h.out 0 rfl).mono ?_
    rintro e w7 ⟨rfl, rfl⟩
    go_wp2_with fail
    refine (high_r hr.out 0 rfl).mono ?_
    rintro e w7 ⟨rfl, rfl⟩
    go_wp2
    go_ret
    exact ⟨rfl, h.out.bel⟩
  · go_enter Try.func9, Try.ntmps9
    go_wp2_with fail
    refine (known3 w).mono ?_
    rintro e w1 ⟨rfl, hb1⟩
    have Hb := Lib.hid hb1
    clear hb1
    go_wp2_with fail
    refine (new_l Hb.out 0 (by omega)).mono ?_
    rintro e w2 ⟨rfl, h1, h2⟩
    have h := Lib.hid h1
    have HB := Lib.hid h2
    clear h1 h2
    go_wp2_with fail
    refine (new_r h.out.bel 0 (by omega)).mono ?_
    rintro e w3 ⟨rfl, h1, h2⟩
    have hne : w2.heap.size ≠ w1.heap.size := by have := h.out.at_.lt; omega
    have h := Lib.hid (h.out.below h2)
    have hr := Lib.hid h1
    clear h1 h2
    go_wp2_with fail
    refine (take_n h.out n hn (by simp [LS.new]; omega)).mono ?_
    rintro e w4 ⟨rfl, h1, h2⟩
    have hr := Lib.hid (hr.out.only h2 hne h.out.low)
    have h := Lib.hid h1
    clear h1 h2
    go_wp2_with fail
    refine (give_n h.out m hm (by simp [LS.new]; omega)).mono ?_
    rintro e w5 ⟨rfl, h1, h2⟩
    have hr := Lib.hid (hr.out.only h2 hne h.out.low)
    have h := Lib.hid h1
    clear h1 h2
    go_wp2_with fail
    refine (take_y h.out 0 (LS.new 0) (by simp [LS.new]) rfl).mono ?_
    rintro e w6 ⟨rfl, h1, h2⟩
    have hr := Lib.hid (hr.out.only h2 hne h.out.low)
    have h := Lib.hid h1
    clear h1 h2
    go_wp2_with fail
    refine (used_l h.out 0 rfl).mono ?_
    rintro e w7 ⟨rfl, rfl⟩
    go_wp2_with fail
    refine (high_l h.out 0 rfl).mono ?_
    rintro e w7 ⟨rfl, rfl⟩
    go_wp2_with fail
    refine (high_r hr.out 0 rfl).mono ?_
    rintro e w7 ⟨rfl, rfl⟩
    go_wp2
    go_ret
    exact ⟨rfl, h.out.bel⟩
end Go.Proofs.Ytmckiokiegcalaa
