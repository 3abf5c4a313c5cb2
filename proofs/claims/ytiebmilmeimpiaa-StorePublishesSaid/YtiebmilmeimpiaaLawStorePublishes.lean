/- The walk of the law StorePublishes: the Go text returns true, and writes nothing that was there. -/
import Derived.Test.YtiebmilmeimpiaaLw4
namespace Go.Proofs.Ytiebmilmeimpiaa
open Go.RowKit
theorem pw1 (xs : List Int) (h : xs.length ≤ 100) : (St.new 300).write [116] xs = (0, ⟨300, [([116], ⟨xs, 0, []⟩)], [(1, [116])]⟩) := by
  simp [St.write, St.new, nameOk, usedF, fnd, lenF, St.deed, wrF, putF]; omega
theorem pw2 (xs : List Int) (h : xs.length ≤ 100) (s : Nat) (l : List (Int × Nm)) : (St.mk 300 [([116], ⟨xs, s, []⟩)] l).write [99] [111, 108, 100] = (0, ⟨300, [([99], ⟨[111, 108, 100], 0, []⟩), ([116], ⟨xs, s, []⟩)], l ++ [(1, [99])]⟩) := by
  simp [St.write, nameOk, usedF, fnd, lenF, St.deed, wrF, putF]
  rw [if_neg (by omega)]; rfl
set_option maxRecDepth 100000 in
set_option maxHeartbeats 8000000 in
theorem storePublishes_walk (a0 : Option Addr) (len0 cap0 : Nat) (z0 : List Int) (a1 : Bool) (a2 : Bool) (a3 : Option Addr) (len3 cap3 : Nat) (z3 : List Int) (w : World) (w0 : IsRow .u8 w a0 len0 cap0 z0) (w3 : IsRow .i64 w a3 len3 cap3 z3) :
    Calls Try.prog 8 #[.slice a0 len0 cap0, .bool a1, .bool a2, .slice a3 len3 cap3] w fun e w' => e = .returned (.bool true) ∧ Below w.heap.size w w' := by
  obtain ⟨hx, hlc, hcap⟩ := w0.bytes
  obtain ⟨hk, hkc, hkap⟩ := w3.nums
  generalize z0.take len0 = xs at hx
  generalize z3.take len3 = ks at hk
  have hxk := hx.2.1
  have hxl := hx.1
  have Hx := Lib.hid hx
  have Hk := Lib.hid hk
  have Hxk := Lib.hid hxk
  have Hkc := Lib.hid (show len3 ≤ cap3 ∧ cap3 ≤ 9223372036854775807 from ⟨hkc, hkap⟩)
  clear w0 w3 hx hk hxk hkc hkap
  by_cases hbig : len0 ≤ 100
  case neg =>
    go_enter Try.func8, Try.ntmps8
    go_wp2_with fail
    refine (known4 w).mono ?_
    rintro e w1 ⟨rfl, hb1⟩
    have Hb1 := Lib.hid hb1
    clear hb1
    go_wp2
    go_ret
    exact ⟨rfl, Hb1.out⟩
  case pos =>
    rcases a1 with _ | _ <;> rcases a2 with _ | _
    · go_enter Try.func8, Try.ntmps8
      go_wp2_with fail
      refine (known4 w).mono ?_
      rintro e w1 ⟨rfl, hb1⟩
      have Hb1 := Lib.hid hb1
      have hx1 := Lib.hid (Hx.out.tch hb1)
      clear hb1
      go_wp2_with fail
      refine (new_s Hb1.out 300 (by omega)).mono ?_
      rintro e w2 ⟨rfl, h, hb⟩
      have H := Lib.hid h
      have hx2 := Lib.hid (hx1.out.tch hb)
      clear h hb hx1 Hb1
      generalize w1.heap.size = p at H ⊢
      generalize (fun j => j = p) = M at H
      go_wp2_with fail
      refine (write_s H.out [116] _ len0 cap0 xs 0 ⟨300, [([116], ⟨xs, 0, []⟩)], [(1, [116])]⟩ (by simp) (by omega) hx2.out (by omega) hlc hcap (pw1 xs (by omega))).mono ?_
      rintro e w3 ⟨rfl, h, -⟩
      have H3 := Lib.hid h
      clear h H hx2
      generalize Grw M w2 w3 = M3 at H3
      go_wp2_with fail
      refine (publish_s H3.out [116] [99] 6 ⟨300, [([116], ⟨xs, 0, []⟩)], [(1, [116])]⟩ (by simp) (by omega) (by simp) rfl).mono ?_
      rintro e w6 ⟨rfl, h, -⟩
      have H6 := Lib.hid h
      clear h H3
      generalize Grw _ _ w6 = M6 at H6
      go_wp2_with fail
      refine (read_s H6.out [116] (by simp) true xs rfl rfl).mono ?_
      rintro e w7 ⟨P7, c7, rfl, -, -, hb⟩
      have H7 := Lib.hid (H6.out.below hb)
      clear hb H6
      go_wp2_with fail
      refine (read_s H7.out [99] (by simp) false [] rfl rfl).mono ?_
      rintro e w8 ⟨P8, c8, rfl, -, -, hb⟩
      have H8 := Lib.hid (H7.out.below hb)
      clear hb H7
      go_wp2
      go_ret
      exact ⟨rfl, H8.out.bel⟩
    · go_enter Try.func8, Try.ntmps8
      go_wp2_with fail
      refine (known4 w).mono ?_
      rintro e w1 ⟨rfl, hb1⟩
      have Hb1 := Lib.hid hb1
      have hx1 := Lib.hid (Hx.out.tch hb1)
      clear hb1
      go_wp2_with fail
      refine (new_s Hb1.out 300 (by omega)).mono ?_
      rintro e w2 ⟨rfl, h, hb⟩
      have H := Lib.hid h
      have hx2 := Lib.hid (hx1.out.tch hb)
      clear h hb hx1 Hb1
      generalize w1.heap.size = p at H ⊢
      generalize (fun j => j = p) = M at H
      go_wp2_with fail
      refine (write_s H.out [116] _ len0 cap0 xs 0 ⟨300, [([116], ⟨xs, 0, []⟩)], [(1, [116])]⟩ (by simp) (by omega) hx2.out (by omega) hlc hcap (pw1 xs (by omega))).mono ?_
      rintro e w3 ⟨rfl, h, -⟩
      have H3 := Lib.hid h
      clear h H hx2
      generalize Grw M w2 w3 = M3 at H3
      have kc : (convert 23 23 (.slice (some ⟨w3.heap.size, 0, none⟩) 3 3)).run Try.prog (w3.alloc (.cells #[.int .u8 111, .int .u8 108, .int .u8 100] 5)) = .ok (.slice (some ⟨w3.heap.size, 0, none⟩) 3 3) (w3.alloc (.cells #[.int .u8 111, .int .u8 108, .int .u8 100] 5 (3, 4))) := Go.Lib.run_convert_bytes_const (P := Try.prog) w3 23 5 #[.int .u8 111, .int .u8 108, .int .u8 100] 3 3 Try.underlying23 Try.underlying5
      have Hn := Lib.hid (nums_new w3 [111, 108, 100] 5 (3, 4) (by simp))
      go_wp2_with fail
      refine (write_s (H3.out.alloc _) [99] _ 3 3 [111, 108, 100] 0 ⟨300, [([99], ⟨[111, 108, 100], 0, []⟩), ([116], ⟨xs, 0, []⟩)], [(1, [116]), (1, [99])]⟩ (by simp) (by omega) Hn.out (by omega) (by omega) (by omega) (pw2 xs (by omega) 0 [(1, [116])])).mono ?_
      rintro e w5 ⟨rfl, h, -⟩
      have H5 := Lib.hid h
      clear h kc Hn H3
      generalize Grw _ _ w5 = M5 at H5
      go_wp2_with fail
      refine (publish_s H5.out [116] [99] 6 ⟨300, [([99], ⟨[111, 108, 100], 0, []⟩), ([116], ⟨xs, 0, []⟩)], [(1, [116]), (1, [99])]⟩ (by simp) (by omega) (by simp) rfl).mono ?_
      rintro e w6 ⟨rfl, h, -⟩
      have H6 := Lib.hid h
      clear h H5
      generalize Grw _ _ w6 = M6 at H6
      go_wp2_with fail
      refine (read_s H6.out [116] (by simp) true xs rfl rfl).mono ?_
      rintro e w7 ⟨P7, c7, rfl, -, -, hb⟩
      have H7 := Lib.hid (H6.out.below hb)
      clear hb H6
      go_wp2_with fail
      refine (read_s H7.out [99] (by simp) true [111, 108, 100] rfl rfl).mono ?_
      rintro e w8 ⟨P8, c8, rfl, -, -, hb⟩
      have H8 := Lib.hid (H7.out.below hb)
      clear hb H7
      go_wp2
      go_ret
      exact ⟨rfl, H8.out.bel⟩
    · go_enter Try.func8, Try.ntmps8
      go_wp2_with fail
      refine (known4 w).mono ?_
      rintro e w1 ⟨rfl, hb1⟩
      have Hb1 := Lib.hid hb1
      have hx1 := Lib.hid (Hx.out.tch hb1)
      clear hb1
      go_wp2_with fail
      refine (new_s Hb1.out 300 (by omega)).mono ?_
      rintro e w2 ⟨rfl, h, hb⟩
      have H := Lib.hid h
      have hx2 := Lib.hid (hx1.out.tch hb)
      clear h hb hx1 Hb1
      generalize w1.heap.size = p at H ⊢
      generalize (fun j => j = p) = M at H
      go_wp2_with fail
      refine (write_s H.out [116] _ len0 cap0 xs 0 ⟨300, [([116], ⟨xs, 0, []⟩)], [(1, [116])]⟩ (by simp) (by omega) hx2.out (by omega) hlc hcap (pw1 xs (by omega))).mono ?_
      rintro e w3 ⟨rfl, h, -⟩
      have H3 := Lib.hid h
      clear h H hx2
      generalize Grw M w2 w3 = M3 at H3
      go_wp2_with fail
      refine (sync_s H3.out [116] 0 ⟨300, [([116], ⟨xs, 2, []⟩)], [(1, [116]), (2, [116])]⟩ (by simp) (by omega) rfl).mono ?_
      rintro e w4 ⟨rfl, h, -⟩
      have H4 := Lib.hid h
      clear h H3
      generalize Grw M3 w3 w4 = M4 at H4
      go_wp2_with fail
      refine (publish_s H4.out [116] [99] 0 ⟨300, [([99], ⟨xs, 2, []⟩)], [(1, [116]), (2, [116]), (3, [99])]⟩ (by simp) (by omega) (by simp) rfl).mono ?_
      rintro e w6 ⟨rfl, h, -⟩
      have H6 := Lib.hid h
      clear h H4
      generalize Grw _ _ w6 = M6 at H6
      go_wp2_with fail
      refine (read_s H6.out [116] (by simp) false [] rfl rfl).mono ?_
      rintro e w7 ⟨P7, c7, rfl, -, -, hb⟩
      have H7 := Lib.hid (H6.out.below hb)
      clear hb H6
      go_wp2_with fail
      refine (read_s H7.out [99] (by simp) true xs rfl rfl).mono ?_
      rintro e w8 ⟨P8, c8, rfl, -, hv, hb⟩
      have H8 := Lib.hid (H7.out.below hb)
      have Hv8 := Lib.hid hv
      clear hb hv H7
      have Hk8 := Lib.hid (Hk.out.tch H8.out.bel)
      go_wp2_with fail
      refine (crash_s H8.out a3 len3 cap3 ks (by omega) Hk8.out Hkc.out.1 (Nat.le_trans Hkc.out.1 Hkc.out.2)).mono ?_
      rintro e w9 ⟨rfl, h, hb⟩
      rw [show (St.mk 300 [([99], ⟨xs, 2, []⟩)] [(1, [116]), (2, [116]), (3, [99])]).crash ks = ⟨300, [([99], ⟨xs, 2, []⟩)], []⟩ from by cases ks <;> rfl] at h
      have H9 := Lib.hid h
      have Hv9 := Lib.hid (own_bel Hv8.out hb)
      clear h hb Hk8 H8 Hv8
      generalize w8.heap.size = q at H9 ⊢
      go_wp2_with fail
      refine (read_s H9.out [99] (by simp) true xs rfl rfl).mono ?_
      rintro e w10 ⟨P10, c10, rfl, -, hv, hb⟩
      have H10 := Lib.hid (H9.out.below hb)
      have k1 : (convert 23 9 (.slice P8 len0 c8)).run Try.prog w10 = .ok (.string (strOf xs)) w10 := by have := cv_str (c := c8) (own_u8 (own_bel Hv9.out hb) rfl Hxk.out); rwa [hxl] at this
      have k2 : (convert 23 9 (.slice P10 len0 c10)).run Try.prog w10 = .ok (.string (strOf xs)) w10 := by have := cv_str (c := c10) (own_u8 hv rfl Hxk.out); rwa [hxl] at this
      have k3 : (convert 23 9 (.slice a0 len0 cap0)).run Try.prog w10 = .ok (.string (strOf xs)) w10 := cv_str (Hx.out.tch H10.out.bel)
      clear hv hb Hv9 H9
      go_wp2
      go_ret
      exact ⟨rfl, H10.out.bel⟩
    · go_enter Try.func8, Try.ntmps8
      go_wp2_with fail
      refine (known4 w).mono ?_
      rintro e w1 ⟨rfl, hb1⟩
      have Hb1 := Lib.hid hb1
      have hx1 := Lib.hid (Hx.out.tch hb1)
      clear hb1
      go_wp2_with fail
      refine (new_s Hb1.out 300 (by omega)).mono ?_
      rintro e w2 ⟨rfl, h, hb⟩
      have H := Lib.hid h
      have hx2 := Lib.hid (hx1.out.tch hb)
      clear h hb hx1 Hb1
      generalize w1.heap.size = p at H ⊢
      generalize (fun j => j = p) = M at H
      go_wp2_with fail
      refine (write_s H.out [116] _ len0 cap0 xs 0 ⟨300, [([116], ⟨xs, 0, []⟩)], [(1, [116])]⟩ (by simp) (by omega) hx2.out (by omega) hlc hcap (pw1 xs (by omega))).mono ?_
      rintro e w3 ⟨rfl, h, -⟩
      have H3 := Lib.hid h
      clear h H hx2
      generalize Grw M w2 w3 = M3 at H3
      go_wp2_with fail
      refine (sync_s H3.out [116] 0 ⟨300, [([116], ⟨xs, 2, []⟩)], [(1, [116]), (2, [116])]⟩ (by simp) (by omega) rfl).mono ?_
      rintro e w4 ⟨rfl, h, -⟩
      have H4 := Lib.hid h
      clear h H3
      generalize Grw M3 w3 w4 = M4 at H4
      have kc : (convert 23 23 (.slice (some ⟨w4.heap.size, 0, none⟩) 3 3)).run Try.prog (w4.alloc (.cells #[.int .u8 111, .int .u8 108, .int .u8 100] 5)) = .ok (.slice (some ⟨w4.heap.size, 0, none⟩) 3 3) (w4.alloc (.cells #[.int .u8 111, .int .u8 108, .int .u8 100] 5 (3, 4))) := Go.Lib.run_convert_bytes_const (P := Try.prog) w4 23 5 #[.int .u8 111, .int .u8 108, .int .u8 100] 3 3 Try.underlying23 Try.underlying5
      have Hn := Lib.hid (nums_new w4 [111, 108, 100] 5 (3, 4) (by simp))
      go_wp2_with fail
      refine (write_s (H4.out.alloc _) [99] _ 3 3 [111, 108, 100] 0 ⟨300, [([99], ⟨[111, 108, 100], 0, []⟩), ([116], ⟨xs, 2, []⟩)], [(1, [116]), (2, [116]), (1, [99])]⟩ (by simp) (by omega) Hn.out (by omega) (by omega) (by omega) (pw2 xs (by omega) 2 [(1, [116]), (2, [116])])).mono ?_
      rintro e w5 ⟨rfl, h, -⟩
      have H5 := Lib.hid h
      clear h kc Hn H4
      generalize Grw _ _ w5 = M5 at H5
      go_wp2_with fail
      refine (publish_s H5.out [116] [99] 9 ⟨300, [([99], ⟨[111, 108, 100], 0, []⟩), ([116], ⟨xs, 2, []⟩)], [(1, [116]), (2, [116]), (1, [99])]⟩ (by simp) (by omega) (by simp) rfl).mono ?_
      rintro e w6 ⟨rfl, h, -⟩
      have H6 := Lib.hid h
      clear h H5
      generalize Grw _ _ w6 = M6 at H6
      go_wp2_with fail
      refine (read_s H6.out [116] (by simp) true xs rfl rfl).mono ?_
      rintro e w7 ⟨P7, c7, rfl, -, -, hb⟩
      have H7 := Lib.hid (H6.out.below hb)
      clear hb H6
      go_wp2_with fail
      refine (read_s H7.out [99] (by simp) true [111, 108, 100] rfl rfl).mono ?_
      rintro e w8 ⟨P8, c8, rfl, -, -, hb⟩
      have H8 := Lib.hid (H7.out.below hb)
      clear hb H7
      go_wp2
      go_ret
      exact ⟨rfl, H8.out.bel⟩
end Go.Proofs.Ytiebmilmeimpiaa
