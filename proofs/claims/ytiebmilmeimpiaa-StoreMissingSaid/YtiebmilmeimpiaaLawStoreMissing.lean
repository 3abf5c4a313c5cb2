/- The walk of the law StoreMissing: the Go text returns true, and writes nothing that was there. -/
import Derived.Test.YtiebmilmeimpiaaRo6
import Derived.Test.YtiebmilmeimpiaaLw4
namespace Go.Proofs.Ytiebmilmeimpiaa
open Go.RowKit
set_option maxRecDepth 100000 in
set_option maxHeartbeats 4000000 in
theorem rPublish_none {w : World} {q c : Nat} {σ : St} {M A : Nat → Prop} (a n : Nm) (h : RefAt w q σ c M A) (hn : n.length ≤ 1000000) (hc : c ≤ 999998) (hff : fnd σ.fs a = none) (r : Int) (hr : (σ.publish a n).1 = r) :
    Calls Try.prog 34 #[.pointer (some ⟨q, 0, none⟩), .string (str a), .string (str n)] w fun e w' => e = .returned (.int .i64 r) ∧ Below w.heap.size w w' := by
  have Hright := Lib.hid (right_any n w hn)
  cases hnk : nameOk n with
  | false =>
    have e : r = 1 := by rw [← hr]; unfold St.publish; rw [if_pos hnk]
    subst e
    have Hnk := Lib.hid hnk
    clear h hnk hff hr
    go_enter Try.func34, Try.ntmps34
    go_wp2_with fail
    refine Hright.out.mono ?_
    rintro e w1 ⟨rfl, rfl⟩
    rw [Hnk.out]
    go_wp2
    go_ret
    exact ⟨rfl, Below.refl _ _⟩
  | true =>
    have e : r = 5 := by rw [← hr]; unfold St.publish; rw [if_neg (by rw [hnk]; decide), hff]
    subst e
    have hfind := find_any a h (by omega)
    rw [hff] at hfind
    have Hfind := Lib.hid hfind
    have Hnk := Lib.hid hnk
    clear h hnk hff hr hfind
    go_enter Try.func34, Try.ntmps34
    go_wp2_with fail
    refine Hright.out.mono ?_
    rintro e w1 ⟨rfl, rfl⟩
    rw [Hnk.out]
    go_wp2_with fail
    refine Hfind.out.mono ?_
    rintro e w2 ⟨rfl, nq, rfl⟩
    simp only [Option.isSome_none]
    go_wp2
    go_ret
    exact ⟨rfl, below_drewN (Below.refl _ _) _⟩
set_option maxRecDepth 100000 in
set_option maxHeartbeats 4000000 in
theorem storeMissing_walk (a0 : ByteArray) (a1 : ByteArray) (w0 : a0.size ≤ maxLen) (w1 : a1.size ≤ maxLen) (w : World) :
    Calls Try.prog 12 #[.string a0, .string a1] w fun e w' => e = .returned (.bool true) ∧ Below w.heap.size w w' := by
  obtain ⟨n, rfl⟩ : ∃ n, a0 = str n := ⟨a0.toList, (str_of a0).symm⟩
  obtain ⟨m, rfl⟩ : ∃ m, a1 = str m := ⟨a1.toList, (str_of a1).symm⟩
  have hn := str_size n
  have hm := str_size m
  clear w0 w1
  by_cases hbig : n.length ≤ 60 ∧ m.length ≤ 60
  case neg =>
    by_cases hb0 : n.length ≤ 60
    · have hb1 : ¬ m.length ≤ 60 := fun h => hbig ⟨hb0, h⟩
      clear hbig
      go_enter Try.func12, Try.ntmps12
      go_wp2_with fail
      refine (known4 w).mono ?_
      rintro e w1 ⟨rfl, hb1⟩
      have Hb1 := Lib.hid hb1
      clear hb1
      go_wp2
      go_ret
      exact ⟨rfl, Hb1.out⟩
    · clear hbig
      go_enter Try.func12, Try.ntmps12
      go_wp2_with fail
      refine (known4 w).mono ?_
      rintro e w1 ⟨rfl, hb1⟩
      have Hb1 := Lib.hid hb1
      clear hb1
      go_wp2
      go_ret
      exact ⟨rfl, Hb1.out⟩
  case pos =>
  obtain ⟨hb0, hb1⟩ := hbig
  obtain ⟨r, hr⟩ : ∃ r, r = ((St.new 10).publish n m).1 := ⟨_, rfl⟩
  have hp : (St.new 10).publish n m = (r, St.new 10) := by
    rw [hr]
    unfold St.publish
    split <;> rfl
  have Hp := Lib.hid hp
  have Hr := Lib.hid hr
  clear hp hr
  go_enter Try.func12, Try.ntmps12
  go_wp2_with fail
  refine (known4 w).mono ?_
  rintro e w1 ⟨rfl, hb1⟩
  have Hb1 := Lib.hid hb1
  clear hb1
  go_wp2_with fail
  refine (new_s Hb1.out 10 (by omega)).mono ?_
  rintro e w2 ⟨rfl, h2, hb2⟩
  have H2 := Lib.hid h2
  have Hz2 := Lib.hid hb2.size
  clear h2 hb2
  go_wp2_with fail
  refine (rNew_any 10 w2).mono ?_
  rintro e w3 ⟨rfl, hw3⟩
  have hx3 := RefAt.new w2 10 (by omega)
  rw [← hw3] at hx3
  have hs3 := H2.out.below (hw3 ▸ (Below.refl w2.heap.size w2).alloc (Nat.le_refl _) _)
  have hlt : ∀ j, j = w1.heap.size → j < w2.heap.size := H2.out.ml
  have Hx3 := Lib.hid hx3
  have H3 := Lib.hid hs3
  have Hlt := Lib.hid (show w1.heap.size < w2.heap.size from hlt _ rfl)
  clear hw3 hx3 hs3 hlt H2 Hb1 Hz2
  generalize w1.heap.size = p at H3 Hlt ⊢
  generalize w2.heap.size = q at Hx3 Hlt ⊢
  go_wp2_with fail
  refine (read_s H3.out n (by omega) false [] rfl rfl).mono ?_
  rintro e w4 ⟨P4, c4, rfl, -, -, hb4⟩
  have H4 := Lib.hid (H3.out.below hb4)
  have Hx4 := Lib.hid (Hx3.out.below hb4)
  have Hq4 := Lib.hid (show q < w4.heap.size from Hx3.out.below hb4 |>.ml q rfl)
  clear hb4 H3 Hx3
  go_wp2_with fail
  refine (sync_s H4.out n 5 (St.new 10) (by omega) (by omega) rfl).mono ?_
  rintro e w5 ⟨rfl, h5, t5⟩
  have Hx5 := Lib.hid (Hx4.out.tch t5 fun k hk => ⟨fun h => by have := Hlt.out; omega, fun h => h⟩)
  have hq5 : ∀ k, Grw (fun j => j = p) w4 w5 k → k ≠ q := fun k hk => by
    have := Hlt.out; have := Hq4.out
    rcases hk with hk | hk
    · omega
    · have := hk.1; omega
  have H5 := Lib.hid h5
  have Hq5 := Lib.hid hq5
  clear h5 t5 hq5 H4 Hx4 Hq4
  generalize Grw (fun j => j = p) w4 w5 = M5 at H5 Hq5
  go_wp2_with fail
  refine (remove_s H5.out n 5 (St.new 10) (by omega) (by omega) rfl).mono ?_
  rintro e w6 ⟨rfl, h6, t6⟩
  have Hx6 := Lib.hid (Hx5.out.tch t6 fun k hk => ⟨fun h => Hq5.out k hk h, fun h => h⟩)
  have hq6 : ∀ k, Grw M5 w5 w6 k → k ≠ q := fun k hk => by
    have hq : q < w5.heap.size := Hx5.out.ml q rfl
    rcases hk with hk | hk
    · exact Hq5.out k hk
    · have := hk.1; omega
  have H6 := Lib.hid h6
  have Hq6 := Lib.hid hq6
  clear h6 t6 hq6 H5 Hx5 Hq5
  generalize Grw M5 w5 w6 = M6 at H6 Hq6
  go_wp2_with fail
  refine (publish_s H6.out n m r (St.new 10) (by omega) (by omega) (by omega) Hp.out).mono ?_
  rintro e w7 ⟨rfl, h7, t7⟩
  have Hx7 := Lib.hid (Hx6.out.tch t7 fun k hk => ⟨fun h => Hq6.out k hk h, fun h => h⟩)
  have H7 := Lib.hid h7
  clear h7 t7 H6 Hx6 Hq6
  generalize Grw M6 w6 w7 = M7 at H7
  go_wp2_with fail
  refine (rPublish_none n m Hx7.out (by omega) (by omega) rfl r Hr.out.symm).mono ?_
  rintro e w8 ⟨rfl, hb8⟩
  have H8 := Lib.hid (H7.out.below hb8)
  clear hb8 H7 Hx7
  go_wp2_with fail
  refine (trace_s H8.out (by omega)).mono ?_
  rintro e w9 ⟨P9, c9, rfl, -, -, hb9⟩
  have H9 := Lib.hid (H8.out.below hb9)
  clear hb9 H8
  rw [show (St.new 10).ops.length = 0 from rfl]
  go_wp2_with fail
  refine (names_s H9.out (by omega)).mono ?_
  rintro e w10 ⟨P10, c10, rfl, -, -, hb10⟩
  have H10 := Lib.hid (H9.out.below hb10)
  clear hb10 H9
  rw [show (St.new 10).fs.length = 0 from rfl]
  go_wp2
  go_ret
  exact ⟨rfl, H10.out.bel⟩
end Go.Proofs.Ytiebmilmeimpiaa
