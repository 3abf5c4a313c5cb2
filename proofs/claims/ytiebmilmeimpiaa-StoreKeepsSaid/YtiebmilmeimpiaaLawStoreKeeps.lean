/- The walk of the law StoreKeeps: the Go text returns true, and writes nothing that was there. -/
import Derived.Test.YtiebmilmeimpiaaLw4
namespace Go.Proofs.Ytiebmilmeimpiaa
open Go.RowKit
theorem kw1 (xs : List Int) (h : xs.length ≤ 100) : (St.new 500).write [102] xs = (0, ⟨500, [([102], ⟨xs, 0, []⟩)], [(1, [102])]⟩) := by
  simp [St.write, St.new, nameOk, usedF, fnd, lenF, St.deed, wrF, putF]; omega
theorem kw2 (xs ys : List Int) (h : ys.length ≤ 100) : (St.mk 500 [([102], ⟨xs, 2, []⟩)] [(1, [102]), (2, [102])]).write [102] ys = (0, ⟨500, [([102], ⟨ys, 1, xs⟩)], [(1, [102]), (2, [102]), (1, [102])]⟩) := by
  simp [St.write, nameOk, usedF, fnd, lenF, St.deed, wrF, putF]
  omega
theorem nums_i64 (w : World) (x : Int) (T : TypeId) (h : inK .i64 x) : Nums .i64 (w.alloc (.cells #[.int .i64 x] T)) (some ⟨w.heap.size, 0, none⟩) 1 [x] :=
  ⟨rfl, by simpa using h, fun _ => ⟨_, rfl, fun j y hy => by rw [add0, cell_of_row _ w.heap.size j #[.int .i64 x] T (0, 0) (heap_alloc_new w _)]; cases j <;> simp at hy ⊢; exact hy⟩⟩
theorem slice_to (a : Option Addr) (m c n : Nat) (hn : n ≤ c) (h0 : a = none → m = 0 ∧ c = 0) (W : World) : (Instr.slice 23 (.slice a m c) none (some (.int .i64 (n : Int))) none).run Try.prog W = .ok (.slice a n c) W := by
  cases a with
  | some ad => exact slice0n Try.underlying23 1 Try.sizeOf5 ad m c n hn W
  | none =>
    obtain ⟨rfl, rfl⟩ := h0 rfl
    obtain rfl : n = 0 := by omega
    kernel_rfl
set_option maxRecDepth 100000 in
set_option maxHeartbeats 8000000 in
theorem storeKeeps_walk (a0 : Option Addr) (len0 cap0 : Nat) (z0 : List Int) (a1 : Option Addr) (len1 cap1 : Nat) (z1 : List Int) (a2 : Bool) (a3 : Int) (w : World) (w0 : IsRow .u8 w a0 len0 cap0 z0) (w1 : IsRow .u8 w a1 len1 cap1 z1) (h3 : inK .i64 a3) :
    Calls Try.prog 6 #[.slice a0 len0 cap0, .slice a1 len1 cap1, .bool a2, .int .i64 a3] w fun e w' => e = .returned (.bool true) ∧ Below w.heap.size w w' := by
  obtain ⟨hx, hlc, hcap⟩ := w0.bytes
  obtain ⟨hy, hmc, hmap⟩ := w1.bytes
  have hnil : a1 = none → len1 = 0 ∧ cap1 = 0 := fun e => by
    rcases w1 with ⟨_, h1, h2, _⟩ | ⟨x, h, _⟩
    · exact ⟨h1, h2⟩
    · rw [e] at h; cases h
  have Hnil := Lib.hid hnil
  clear hnil
  generalize z0.take len0 = xs at hx
  generalize z1.take len1 = ys at hy
  have hxl := hx.1
  have hyl := hy.1
  have Hxk := Lib.hid hx.2.1
  have Hyk := Lib.hid hy.2.1
  have Hx := Lib.hid hx
  have Hy := Lib.hid hy
  clear w0 w1 hx hy
  have Hi3 := Lib.hid h3
  clear h3
  by_cases hbig : len0 ≤ 100 ∧ len1 ≤ 100
  case neg =>
    by_cases hb0 : len0 ≤ 100
    · have hb1 : ¬ len1 ≤ 100 := fun h => hbig ⟨hb0, h⟩
      clear hbig
      go_enter Try.func6, Try.ntmps6
      go_wp2_with fail
      refine (known4 w).mono ?_
      rintro e w1 ⟨rfl, hb1⟩
      have Hb1 := Lib.hid hb1
      clear hb1
      go_wp2
      go_ret
      exact ⟨rfl, Hb1.out⟩
    · clear hbig
      go_enter Try.func6, Try.ntmps6
      go_wp2_with fail
      refine (known4 w).mono ?_
      rintro e w1 ⟨rfl, hb1⟩
      have Hb1 := Lib.hid hb1
      clear hb1
      go_wp2
      go_ret
      exact ⟨rfl, Hb1.out⟩
  case pos =>
  obtain ⟨hb0, hb1⟩ := hbig
  rcases a2 with _ | _
  · by_cases k1 : a3 = 1
    · subst k1
      go_enter Try.func6, Try.ntmps6
      go_wp2_with fail
      refine (known4 w).mono ?_
      rintro e w1 ⟨rfl, hb1⟩
      have Hb1 := Lib.hid hb1
      clear hb1
      go_wp2_with fail
      refine (new_s Hb1.out 500 (by omega)).mono ?_
      rintro e w2 ⟨rfl, h, -⟩
      have H := Lib.hid h
      have hx2 := Lib.hid (Hx.out.tch h.bel)
      clear h Hb1
      generalize w1.heap.size = p at H ⊢
      generalize (fun j => j = p) = M at H
      clear hx2
      have hy2 := Lib.hid (Hy.out.tch H.out.bel)
      go_wp2_with fail
      refine (write_s H.out [102] _ len1 cap1 ys 0 ⟨500, [([102], ⟨ys, 0, []⟩)], [(1, [102])]⟩ (by simp) (by omega) hy2.out (by omega) hmc hmap (kw1 ys (by omega))).mono ?_
      rintro e w5 ⟨rfl, h, -⟩
      have H5 := Lib.hid h
      clear h H hy2
      generalize Grw _ _ w5 = M5 at H5
      have ka : (convert 23 9 (.slice a0 len0 cap0)).run Try.prog w5 = .ok (.string (strOf xs)) w5 := cv_str (Hx.out.tch H5.out.bel)
      have kb : (convert 23 9 (.slice a1 len1 cap1)).run Try.prog w5 = .ok (.string (strOf ys)) w5 := cv_str (Hy.out.tch H5.out.bel)
      have Hn := Lib.hid (nums_i64 w5 1 3 Hi3.out)
      go_wp2_with fail
      refine (crash_s (H5.out.alloc _) _ 1 1 [1] (by omega) Hn.out (by omega) (by omega)).mono ?_
      rintro e w6 ⟨rfl, h, hb⟩
      rw [show (St.mk 500 [([102], ⟨ys, 0, []⟩)] [(1, [102])]).crash [1] = ⟨500, [([102], ⟨ys, 2, []⟩)], []⟩ from by simp [St.crash, crashF, leftF, putO, putF, sureF]] at h
      have H6 := Lib.hid h
      clear h hb Hn H5
      generalize Grw _ _ w6 = M6 at H6
      generalize (w5.alloc (.cells #[.int .i64 1] 3)).heap.size = q at H6 ⊢
      go_wp2_with fail
      refine (read_s H6.out [102] (by simp) true ys rfl rfl).mono ?_
      rintro e w7 ⟨P7, c7, rfl, -, hv, hb⟩
      have H7 := Lib.hid (H6.out.below hb)
      have kz : (convert 23 9 (.slice P7 len1 c7)).run Try.prog w7 = .ok (.string (strOf ys)) w7 := by have := cv_str (c := c7) (own_u8 hv rfl Hyk.out); rwa [hyl] at this
      clear hv hb H6
      go_wp2
      go_ret
      exact ⟨rfl, H7.out.bel⟩
    by_cases k2 : a3 = 2
    · subst k2
      go_enter Try.func6, Try.ntmps6
      go_wp2_with fail
      refine (known4 w).mono ?_
      rintro e w1 ⟨rfl, hb1⟩
      have Hb1 := Lib.hid hb1
      clear hb1
      go_wp2_with fail
      refine (new_s Hb1.out 500 (by omega)).mono ?_
      rintro e w2 ⟨rfl, h, -⟩
      have H := Lib.hid h
      have hx2 := Lib.hid (Hx.out.tch h.bel)
      clear h Hb1
      generalize w1.heap.size = p at H ⊢
      generalize (fun j => j = p) = M at H
      clear hx2
      have hy2 := Lib.hid (Hy.out.tch H.out.bel)
      go_wp2_with fail
      refine (write_s H.out [102] _ len1 cap1 ys 0 ⟨500, [([102], ⟨ys, 0, []⟩)], [(1, [102])]⟩ (by simp) (by omega) hy2.out (by omega) hmc hmap (kw1 ys (by omega))).mono ?_
      rintro e w5 ⟨rfl, h, -⟩
      have H5 := Lib.hid h
      clear h H hy2
      generalize Grw _ _ w5 = M5 at H5
      have ka : (convert 23 9 (.slice a0 len0 cap0)).run Try.prog w5 = .ok (.string (strOf xs)) w5 := cv_str (Hx.out.tch H5.out.bel)
      have hrc : len1 / 2 ≤ cap1 := by omega
      have hr2 : len1 / 2 ≤ len1 := by omega
      have hd : (len1 : Int) / 2 = ((len1 / 2 : Nat) : Int) := by omega
      have hzl : (ys.take (len1 / 2)).length = len1 / 2 := by rw [List.length_take]; omega
      have hle : ys.length / 2 = len1 / 2 := by rw [hyl]
      have Hle := Lib.hid hle
      clear hle
      generalize len1 / 2 = r at *
      have kb : (convert 23 9 (.slice a1 r cap1)).run Try.prog w5 = .ok (.string (strOf (ys.take r))) w5 := cv_str ((Hy.out.tch H5.out.bel).take _ (by omega))
      have ks := slice_to a1 len1 cap1 r hrc Hnil.out w5
      have Hn := Lib.hid (nums_i64 w5 2 3 Hi3.out)
      go_wp2_with fail
      refine (crash_s (H5.out.alloc _) _ 1 1 [2] (by omega) Hn.out (by omega) (by omega)).mono ?_
      rintro e w6 ⟨rfl, h, hb⟩
      rw [show (St.mk 500 [([102], ⟨ys, 0, []⟩)] [(1, [102])]).crash [2] = ⟨500, [([102], ⟨(ys.take r), 2, []⟩)], []⟩ from by simp [St.crash, crashF, leftF, putO, putF, sureF, Hle.out]] at h
      have H6 := Lib.hid h
      clear h hb Hn H5
      generalize Grw _ _ w6 = M6 at H6
      generalize (w5.alloc (.cells #[.int .i64 2] 3)).heap.size = q at H6 ⊢
      go_wp2_with fail
      refine (read_s H6.out [102] (by simp) true (ys.take r) rfl rfl).mono ?_
      rintro e w7 ⟨P7, c7, rfl, -, hv, hb⟩
      have H7 := Lib.hid (H6.out.below hb)
      have kz : (convert 23 9 (.slice P7 r c7)).run Try.prog w7 = .ok (.string (strOf (ys.take r))) w7 := by have := cv_str (c := c7) (own_u8 hv rfl (fun x hx => Hyk.out x (List.mem_of_mem_take hx))); rwa [hzl] at this
      clear hv hb H6
      go_wp2
      go_ret
      exact ⟨rfl, H7.out.bel⟩
    have e1 : (a3 == 1) = false := by simpa using k1
    have e2 : (a3 == 2) = false := by simpa using k2
    go_enter Try.func6, Try.ntmps6
    go_wp2_with fail
    refine (known4 w).mono ?_
    rintro e w1 ⟨rfl, hb1⟩
    have Hb1 := Lib.hid hb1
    clear hb1
    go_wp2_with fail
    refine (new_s Hb1.out 500 (by omega)).mono ?_
    rintro e w2 ⟨rfl, h, -⟩
    have H := Lib.hid h
    have hx2 := Lib.hid (Hx.out.tch h.bel)
    clear h Hb1
    generalize w1.heap.size = p at H ⊢
    generalize (fun j => j = p) = M at H
    clear hx2
    have hy2 := Lib.hid (Hy.out.tch H.out.bel)
    go_wp2_with fail
    refine (write_s H.out [102] _ len1 cap1 ys 0 ⟨500, [([102], ⟨ys, 0, []⟩)], [(1, [102])]⟩ (by simp) (by omega) hy2.out (by omega) hmc hmap (kw1 ys (by omega))).mono ?_
    rintro e w5 ⟨rfl, h, -⟩
    have H5 := Lib.hid h
    clear h H hy2
    generalize Grw _ _ w5 = M5 at H5
    have ka : (convert 23 9 (.slice a0 len0 cap0)).run Try.prog w5 = .ok (.string (strOf xs)) w5 := cv_str (Hx.out.tch H5.out.bel)
    have Hn := Lib.hid (nums_i64 w5 a3 3 Hi3.out)
    go_wp2_with fail
    refine (crash_s (H5.out.alloc _) _ 1 1 [a3] (by omega) Hn.out (by omega) (by omega)).mono ?_
    rintro e w6 ⟨rfl, h, hb⟩
    rw [show (St.mk 500 [([102], ⟨ys, 0, []⟩)] [(1, [102])]).crash [a3] = ⟨500, [], []⟩ from by simp [St.crash, crashF, leftF, putO, k1, k2]] at h
    have H6 := Lib.hid h
    clear h hb Hn H5
    generalize Grw _ _ w6 = M6 at H6
    generalize (w5.alloc (.cells #[.int .i64 a3] 3)).heap.size = q at H6 ⊢
    go_wp2_with fail
    refine (read_s H6.out [102] (by simp) false [] rfl rfl).mono ?_
    rintro e w7 ⟨P7, c7, rfl, -, hv, hb⟩
    have H7 := Lib.hid (H6.out.below hb)
    clear hv hb H6
    go_wp2_with fail
    refine (names_s H7.out (by omega)).mono ?_
    rintro e w8 ⟨P8, c8, rfl, -, -, hb⟩
    have H8 := Lib.hid (H7.out.below hb)
    clear hb H7
    go_wp2
    go_ret
    exact ⟨rfl, H8.out.bel⟩
  · by_cases k1 : a3 = 1
    · subst k1
      go_enter Try.func6, Try.ntmps6
      go_wp2_with fail
      refine (known4 w).mono ?_
      rintro e w1 ⟨rfl, hb1⟩
      have Hb1 := Lib.hid hb1
      clear hb1
      go_wp2_with fail
      refine (new_s Hb1.out 500 (by omega)).mono ?_
      rintro e w2 ⟨rfl, h, -⟩
      have H := Lib.hid h
      have hx2 := Lib.hid (Hx.out.tch h.bel)
      clear h Hb1
      generalize w1.heap.size = p at H ⊢
      generalize (fun j => j = p) = M at H
      go_wp2_with fail
      refine (write_s H.out [102] _ len0 cap0 xs 0 ⟨500, [([102], ⟨xs, 0, []⟩)], [(1, [102])]⟩ (by simp) (by omega) hx2.out (by omega) hlc hcap (kw1 xs (by omega))).mono ?_
      rintro e w3 ⟨rfl, h, -⟩
      have H3 := Lib.hid h
      clear h H hx2
      generalize Grw _ _ w3 = M3 at H3
      go_wp2_with fail
      refine (sync_s H3.out [102] 0 ⟨500, [([102], ⟨xs, 2, []⟩)], [(1, [102]), (2, [102])]⟩ (by simp) (by omega) rfl).mono ?_
      rintro e w4 ⟨rfl, h, -⟩
      have H4 := Lib.hid h
      clear h H3
      generalize Grw _ _ w4 = M4 at H4
      have hy2 := Lib.hid (Hy.out.tch H4.out.bel)
      go_wp2_with fail
      refine (write_s H4.out [102] _ len1 cap1 ys 0 ⟨500, [([102], ⟨ys, 1, xs⟩)], [(1, [102]), (2, [102]), (1, [102])]⟩ (by simp) (by omega) hy2.out (by omega) hmc hmap (kw2 xs ys (by omega))).mono ?_
      rintro e w5 ⟨rfl, h, -⟩
      have H5 := Lib.hid h
      clear h H4 hy2
      generalize Grw _ _ w5 = M5 at H5
      have ka : (convert 23 9 (.slice a0 len0 cap0)).run Try.prog w5 = .ok (.string (strOf xs)) w5 := cv_str (Hx.out.tch H5.out.bel)
      have kb : (convert 23 9 (.slice a1 len1 cap1)).run Try.prog w5 = .ok (.string (strOf ys)) w5 := cv_str (Hy.out.tch H5.out.bel)
      have Hn := Lib.hid (nums_i64 w5 1 3 Hi3.out)
      go_wp2_with fail
      refine (crash_s (H5.out.alloc _) _ 1 1 [1] (by omega) Hn.out (by omega) (by omega)).mono ?_
      rintro e w6 ⟨rfl, h, hb⟩
      rw [show (St.mk 500 [([102], ⟨ys, 1, xs⟩)] [(1, [102]), (2, [102]), (1, [102])]).crash [1] = ⟨500, [([102], ⟨ys, 2, []⟩)], []⟩ from by simp [St.crash, crashF, leftF, putO, putF, sureF]] at h
      have H6 := Lib.hid h
      clear h hb Hn H5
      generalize Grw _ _ w6 = M6 at H6
      generalize (w5.alloc (.cells #[.int .i64 1] 3)).heap.size = q at H6 ⊢
      go_wp2_with fail
      refine (read_s H6.out [102] (by simp) true ys rfl rfl).mono ?_
      rintro e w7 ⟨P7, c7, rfl, -, hv, hb⟩
      have H7 := Lib.hid (H6.out.below hb)
      have kz : (convert 23 9 (.slice P7 len1 c7)).run Try.prog w7 = .ok (.string (strOf ys)) w7 := by have := cv_str (c := c7) (own_u8 hv rfl Hyk.out); rwa [hyl] at this
      clear hv hb H6
      go_wp2
      go_ret
      exact ⟨rfl, H7.out.bel⟩
    by_cases k2 : a3 = 2
    · subst k2
      go_enter Try.func6, Try.ntmps6
      go_wp2_with fail
      refine (known4 w).mono ?_
      rintro e w1 ⟨rfl, hb1⟩
      have Hb1 := Lib.hid hb1
      clear hb1
      go_wp2_with fail
      refine (new_s Hb1.out 500 (by omega)).mono ?_
      rintro e w2 ⟨rfl, h, -⟩
      have H := Lib.hid h
      have hx2 := Lib.hid (Hx.out.tch h.bel)
      clear h Hb1
      generalize w1.heap.size = p at H ⊢
      generalize (fun j => j = p) = M at H
      go_wp2_with fail
      refine (write_s H.out [102] _ len0 cap0 xs 0 ⟨500, [([102], ⟨xs, 0, []⟩)], [(1, [102])]⟩ (by simp) (by omega) hx2.out (by omega) hlc hcap (kw1 xs (by omega))).mono ?_
      rintro e w3 ⟨rfl, h, -⟩
      have H3 := Lib.hid h
      clear h H hx2
      generalize Grw _ _ w3 = M3 at H3
      go_wp2_with fail
      refine (sync_s H3.out [102] 0 ⟨500, [([102], ⟨xs, 2, []⟩)], [(1, [102]), (2, [102])]⟩ (by simp) (by omega) rfl).mono ?_
      rintro e w4 ⟨rfl, h, -⟩
      have H4 := Lib.hid h
      clear h H3
      generalize Grw _ _ w4 = M4 at H4
      have hy2 := Lib.hid (Hy.out.tch H4.out.bel)
      go_wp2_with fail
      refine (write_s H4.out [102] _ len1 cap1 ys 0 ⟨500, [([102], ⟨ys, 1, xs⟩)], [(1, [102]), (2, [102]), (1, [102])]⟩ (by simp) (by omega) hy2.out (by omega) hmc hmap (kw2 xs ys (by omega))).mono ?_
      rintro e w5 ⟨rfl, h, -⟩
      have H5 := Lib.hid h
      clear h H4 hy2
      generalize Grw _ _ w5 = M5 at H5
      have ka : (convert 23 9 (.slice a0 len0 cap0)).run Try.prog w5 = .ok (.string (strOf xs)) w5 := cv_str (Hx.out.tch H5.out.bel)
      have hrc : len1 / 2 ≤ cap1 := by omega
      have hr2 : len1 / 2 ≤ len1 := by omega
      have hd : (len1 : Int) / 2 = ((len1 / 2 : Nat) : Int) := by omega
      have hzl : (ys.take (len1 / 2)).length = len1 / 2 := by rw [List.length_take]; omega
      have hle : ys.length / 2 = len1 / 2 := by rw [hyl]
      have Hle := Lib.hid hle
      clear hle
      generalize len1 / 2 = r at *
      have kb : (convert 23 9 (.slice a1 r cap1)).run Try.prog w5 = .ok (.string (strOf (ys.take r))) w5 := cv_str ((Hy.out.tch H5.out.bel).take _ (by omega))
      have ks := slice_to a1 len1 cap1 r hrc Hnil.out w5
      have Hn := Lib.hid (nums_i64 w5 2 3 Hi3.out)
      go_wp2_with fail
      refine (crash_s (H5.out.alloc _) _ 1 1 [2] (by omega) Hn.out (by omega) (by omega)).mono ?_
      rintro e w6 ⟨rfl, h, hb⟩
      rw [show (St.mk 500 [([102], ⟨ys, 1, xs⟩)] [(1, [102]), (2, [102]), (1, [102])]).crash [2] = ⟨500, [([102], ⟨(ys.take r), 2, []⟩)], []⟩ from by simp [St.crash, crashF, leftF, putO, putF, sureF, Hle.out]] at h
      have H6 := Lib.hid h
      clear h hb Hn H5
      generalize Grw _ _ w6 = M6 at H6
      generalize (w5.alloc (.cells #[.int .i64 2] 3)).heap.size = q at H6 ⊢
      go_wp2_with fail
      refine (read_s H6.out [102] (by simp) true (ys.take r) rfl rfl).mono ?_
      rintro e w7 ⟨P7, c7, rfl, -, hv, hb⟩
      have H7 := Lib.hid (H6.out.below hb)
      have kz : (convert 23 9 (.slice P7 r c7)).run Try.prog w7 = .ok (.string (strOf (ys.take r))) w7 := by have := cv_str (c := c7) (own_u8 hv rfl (fun x hx => Hyk.out x (List.mem_of_mem_take hx))); rwa [hzl] at this
      clear hv hb H6
      go_wp2
      go_ret
      exact ⟨rfl, H7.out.bel⟩
    have e1 : (a3 == 1) = false := by simpa using k1
    have e2 : (a3 == 2) = false := by simpa using k2
    go_enter Try.func6, Try.ntmps6
    go_wp2_with fail
    refine (known4 w).mono ?_
    rintro e w1 ⟨rfl, hb1⟩
    have Hb1 := Lib.hid hb1
    clear hb1
    go_wp2_with fail
    refine (new_s Hb1.out 500 (by omega)).mono ?_
    rintro e w2 ⟨rfl, h, -⟩
    have H := Lib.hid h
    have hx2 := Lib.hid (Hx.out.tch h.bel)
    clear h Hb1
    generalize w1.heap.size = p at H ⊢
    generalize (fun j => j = p) = M at H
    go_wp2_with fail
    refine (write_s H.out [102] _ len0 cap0 xs 0 ⟨500, [([102], ⟨xs, 0, []⟩)], [(1, [102])]⟩ (by simp) (by omega) hx2.out (by omega) hlc hcap (kw1 xs (by omega))).mono ?_
    rintro e w3 ⟨rfl, h, -⟩
    have H3 := Lib.hid h
    clear h H hx2
    generalize Grw _ _ w3 = M3 at H3
    go_wp2_with fail
    refine (sync_s H3.out [102] 0 ⟨500, [([102], ⟨xs, 2, []⟩)], [(1, [102]), (2, [102])]⟩ (by simp) (by omega) rfl).mono ?_
    rintro e w4 ⟨rfl, h, -⟩
    have H4 := Lib.hid h
    clear h H3
    generalize Grw _ _ w4 = M4 at H4
    have hy2 := Lib.hid (Hy.out.tch H4.out.bel)
    go_wp2_with fail
    refine (write_s H4.out [102] _ len1 cap1 ys 0 ⟨500, [([102], ⟨ys, 1, xs⟩)], [(1, [102]), (2, [102]), (1, [102])]⟩ (by simp) (by omega) hy2.out (by omega) hmc hmap (kw2 xs ys (by omega))).mono ?_
    rintro e w5 ⟨rfl, h, -⟩
    have H5 := Lib.hid h
    clear h H4 hy2
    generalize Grw _ _ w5 = M5 at H5
    have ka : (convert 23 9 (.slice a0 len0 cap0)).run Try.prog w5 = .ok (.string (strOf xs)) w5 := cv_str (Hx.out.tch H5.out.bel)
    have Hn := Lib.hid (nums_i64 w5 a3 3 Hi3.out)
    go_wp2_with fail
    refine (crash_s (H5.out.alloc _) _ 1 1 [a3] (by omega) Hn.out (by omega) (by omega)).mono ?_
    rintro e w6 ⟨rfl, h, hb⟩
    rw [show (St.mk 500 [([102], ⟨ys, 1, xs⟩)] [(1, [102]), (2, [102]), (1, [102])]).crash [a3] = ⟨500, [([102], ⟨xs, 2, []⟩)], []⟩ from by simp [St.crash, crashF, leftF, putO, putF, sureF, k1, k2]] at h
    have H6 := Lib.hid h
    clear h hb Hn H5
    generalize Grw _ _ w6 = M6 at H6
    generalize (w5.alloc (.cells #[.int .i64 a3] 3)).heap.size = q at H6 ⊢
    go_wp2_with fail
    refine (read_s H6.out [102] (by simp) true xs rfl rfl).mono ?_
    rintro e w7 ⟨P7, c7, rfl, -, hv, hb⟩
    have H7 := Lib.hid (H6.out.below hb)
    have kz : (convert 23 9 (.slice P7 len0 c7)).run Try.prog w7 = .ok (.string (strOf xs)) w7 := by have := cv_str (c := c7) (own_u8 hv rfl Hxk.out); rwa [hxl] at this
    clear hv hb H6
    go_wp2
    go_ret
    exact ⟨rfl, H7.out.bel⟩
end Go.Proofs.Ytiebmilmeimpiaa
