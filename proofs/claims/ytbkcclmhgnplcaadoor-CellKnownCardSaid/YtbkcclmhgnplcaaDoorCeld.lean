/- The reference's Less, Ints. -/
import Derived.Test.YtbkcclmhgnplcaaDoorCelc
import Derived.Deep.QuietTactic
import Derived.BigQuiet
namespace Go.Proofs.YtbkcclmhgnplcaaDoor
open Go.RowKit
set_option maxHeartbeats 1000000 in
theorem rIntsEq (A B : Option Addr) (n c d : Nat) (xs ys : List Int) (w : World) (hx : Nums .i64 w A n xs) (hy : Nums .i64 w B n ys) (hn : n ≤ 4611686018427387904) :
    Calls Tryd.prog 33 #[.slice A n c, .slice B n d] w fun e w' => e = .returned (.bool (decide (xs = ys))) ∧ ∃ q, w' = w.drewN q := by
  go_enter Tryd.func33, Tryd.ntmps33
  go_wp2
  go_loopw [5] (fun i wr => ∃ k : Nat, k ≤ n ∧ i = .int .i64 k ∧ xs.take k = ys.take k ∧ ∃ q, wr = w.drewN q) (fun i _ => n - (intOf i).toNat)
  case atStart => exact ⟨0, by omega, rfl, by simp, 0, rfl⟩
  case round =>
    obtain ⟨k, hk, rfl, ht, q, rfl⟩ := hrel
    have Ht := Lib.hid ht
    clear ht
    by_cases hlt : k < n
    · obtain ⟨ad, x, rfl, hxk, hxi, hcx⟩ := hx.at_ hlt
      obtain ⟨bd, y, rfl, hyk, hyi, hcy⟩ := hy.at_ hlt
      have Hx := Lib.hid hxk
      have Hy := Lib.hid hyk
      clear hxk hyk hxi hyi
      by_cases hxy : x = y
      · have Hxy := Lib.hid hxy
        have hb : (x != y) = false := by rw [hxy]; simp
        clear hxy
        go_wp2
        go_quiet (fail)
        go_wp2
        exact ⟨⟨k + 1, by omega, by go_num, by rw [take_snoc Hx.out, take_snoc Hy.out, Ht.out, Hxy.out], _, rfl⟩, by simp [intOf]; omega⟩
      · have hb : (x != y) = true := by rw [bne_iff_ne]; exact hxy
        have Hne : Hid (xs ≠ ys) := Lib.hid (fun e => hxy (by have h1 := Hx.out; have h2 := Hy.out; rw [e, h2] at h1; injection h1 with h1; exact h1.symm))
        clear hxy
        go_wp2
        go_quiet (fail)
        go_wp2
        go_ret
        exact ⟨by rw [decide_eq_false Hne.out]; rfl, _, World.drewN_drewN _ _ _⟩
    · go_wp2
      go_ret
      obtain rfl : k = n := by omega
      have := Ht.out
      rw [List.take_of_length_le (Nat.le_of_eq hx.len), List.take_of_length_le (Nat.le_of_eq hy.len)] at this
      exact ⟨by rw [decide_eq_true this]; rfl, _, rfl⟩
set_option maxHeartbeats 1000000 in
theorem rIntsNe (A B : Option Addr) (n m c d : Nat) (w : World) (h : n ≠ m) :
    Calls Tryd.prog 33 #[.slice A n c, .slice B m d] w fun e w' => e = .returned (.bool false) ∧ w = w' := by
  have hne : ((n : Int) != (m : Int)) = true := by rw [bne_iff_ne]; omega
  clear h
  go_enter Tryd.func33, Tryd.ntmps33
  go_wp2
  go_ret
  exact ⟨rfl, rfl⟩
/-- Ints: whether two rows of numbers are one. -/
theorem rInts (A B : Option Addr) (n m c d : Nat) (xs ys : List Int) (w : World) (hx : Nums .i64 w A n xs) (hy : Nums .i64 w B m ys) (hn : n ≤ 4611686018427387904) :
    Calls Tryd.prog 33 #[.slice A n c, .slice B m d] w fun e w' => e = .returned (.bool (decide (xs = ys))) ∧ ∃ q, w' = w.drewN q := by
  by_cases h : n = m
  · subst h
    exact rIntsEq A B n c d xs ys w hx hy hn
  · refine (rIntsNe A B n m c d w h).mono fun e w' ⟨he, hw⟩ => ⟨?_, 0, hw.symm⟩
    rw [he, decide_eq_false (fun e => h (by rw [← hx.len, ← hy.len, e]))]

set_option maxRecDepth 100000 in
set_option maxHeartbeats 2000000 in
theorem rLess (P Q : Option Addr) (m1 c1 m2 c2 : Nat) (xs ys : List Int) (w : World) (hx : Nums .i64 w P m1 xs) (hy : Nums .i64 w Q m2 ys) (h1 : m1 ≤ 4611686018427387904) (h2 : m2 ≤ 4611686018427387904) :
    Calls Tryd.prog 32 #[.slice P m1 c1, .slice Q m2 c2] w fun e w' => e = .returned (.int .i64 (cmpL xs ys)) ∧ ∃ q, w' = w.drewN q := by
  have l1 := hx.1
  have l2 := hy.1
  have Hx := Lib.hid hx
  have Hy := Lib.hid hy
  have L1 := Lib.hid l1
  have L2 := Lib.hid l2
  clear hx hy l1 l2
  obtain ⟨z, hz⟩ : ∃ z, z = cmpL xs ys := ⟨_, rfl⟩
  rw [← hz]
  have Hz := Lib.hid hz
  clear hz
  go_enter Tryd.func32, Tryd.ntmps32
  go_wp2
  go_loopw [5] (fun i wr => ∃ k : Nat, k ≤ m1 ∧ k ≤ m2 ∧ i = .int .i64 k ∧ cmpL xs ys = cmpL (xs.drop k) (ys.drop k) ∧ ∃ q, wr = w.drewN q) (fun i _ => m1 - (intOf i).toNat)
  case atStart => exact ⟨0, by omega, by omega, rfl, rfl, 0, rfl⟩
  case round =>
    obtain ⟨k, hk1, hk2, rfl, hr, q, rfl⟩ := hrel
    have Hr := Lib.hid hr
    clear hr
    by_cases a1 : k < m1
    · by_cases a2 : k < m2
      · obtain ⟨ad, x, rfl, hxk, hxi, hxc⟩ := Hx.out.at_ a1
        obtain ⟨bd, y, rfl, hyk, hyi, hyc⟩ := Hy.out.at_ a2
        have hd := cmpL_drop hxk hyk
        have i0 : (0 : Int) ≤ (k : Int) := by omega
        have i1 : (k : Int) < (m1 : Int) := by omega
        have i2 : (k : Int) < (m2 : Int) := by omega
        have d1 : decide (k < m1) = true := by simp; omega
        have d2 : decide (k < m2) = true := by simp; omega
        have Hd := Lib.hid hd
        clear hxk hyk hxi hyi hd
        by_cases b1 : x < y
        · have b1' : decide (x < y) = true := by simpa using b1
          have hfin : z = -1 := by rw [Hz.out, Hr.out, Hd.out]; simp [cmpI, b1]
          have Hfin := Lib.hid hfin
          clear b1 hfin
          go_wp2
          go_quiet (fail)
          go_wp2
          go_ret
          rw [Hfin.out]
          exact ⟨rfl, _, World.drewN_drewN _ _ _⟩
        · have b1' : decide (x < y) = false := by simpa using b1
          by_cases b2 : y < x
          · have b2' : decide (y < x) = true := by simpa using b2
            have hfin : z = 1 := by rw [Hz.out, Hr.out, Hd.out]; simp [cmpI, b1, b2]
            have Hfin := Lib.hid hfin
            clear b1 b2 hfin
            go_wp2
            go_quiet (fail)
            go_wp2
            go_quiet (fail)
            go_wp2
            go_ret
            rw [Hfin.out]
            exact ⟨rfl, _, by rw [World.drewN_drewN, World.drewN_drewN]⟩
          · have b2' : decide (y < x) = false := by simpa using b2
            have hfin : cmpL xs ys = cmpL (xs.drop (k + 1)) (ys.drop (k + 1)) := by rw [Hr.out, Hd.out]; simp [cmpI, b1, b2]
            have Hfin := Lib.hid hfin
            clear b1 b2 hfin
            go_wp2
            go_quiet (fail)
            go_wp2
            go_quiet (fail)
            go_wp2
            exact ⟨⟨k + 1, by omega, by omega, by go_num, Hfin.out, _, rfl⟩, by simp [intOf]; omega⟩
      · obtain rfl : k = m2 := by omega
        have d1 : decide (k < m1) = true := by simp; omega
        have d2 : decide (k < k) = false := by simp
        have d3 : decide (m1 < k) = false := by simp; omega
        have hfin : z = 1 := by
          rw [Hz.out, Hr.out, (show ys.drop k = [] from List.drop_eq_nil_of_le (by rw [L2.out]; exact Nat.le_refl _)), List.drop_eq_getElem_cons (show k < xs.length by rw [L1.out]; exact a1)]
          rfl
        have Hfin := Lib.hid hfin
        clear hfin
        go_wp2
        go_ret
        rw [Hfin.out]
        exact ⟨rfl, _, rfl⟩
    · obtain rfl : k = m1 := by omega
      have d1 : decide (k < k) = false := by simp
      by_cases a2 : k < m2
      · have d2 : decide (k < m2) = true := by simp; omega
        have hfin : z = -1 := by
          rw [Hz.out, Hr.out, (show xs.drop k = [] from List.drop_eq_nil_of_le (by rw [L1.out]; exact Nat.le_refl _)), List.drop_eq_getElem_cons (show k < ys.length by rw [L2.out]; exact a2)]
          rfl
        have Hfin := Lib.hid hfin
        clear hfin
        go_wp2
        go_ret
        rw [Hfin.out]
        exact ⟨rfl, _, rfl⟩
      · have d2 : decide (k < m2) = false := by simp; omega
        have d3 : decide (m2 < k) = false := by simp; omega
        have hfin : z = 0 := by
          rw [Hz.out, Hr.out, (show xs.drop k = [] from List.drop_eq_nil_of_le (by rw [L1.out]; exact Nat.le_refl _)), (show ys.drop k = [] from List.drop_eq_nil_of_le (by rw [L2.out]; omega))]
          rfl
        have Hfin := Lib.hid hfin
        clear hfin
        go_wp2
        go_ret
        rw [Hfin.out]
        exact ⟨rfl, _, rfl⟩
set_option maxHeartbeats 1000000 in
theorem less_n (P Q : Option Addr) (m1 c1 m2 c2 : Nat) (xs ys : List Int) (w : World) (hx : Nums .i64 w P m1 xs) (hy : Nums .i64 w Q m2 ys) (h1 : m1 ≤ 4611686018427387904) (h2 : m2 ≤ 4611686018427387904) :
    Calls Tryd.prog 31 #[.slice P m1 c1, .slice Q m2 c2] w fun e w' => e = .returned (.int .i64 (cmpL xs ys)) ∧ w = w' := by
  have hc := Lib.hid (compare_any P Q m1 c1 m2 c2 xs ys w hx hy h1 h2)
  clear hx hy
  go_enter Tryd.func31, Tryd.ntmps31
  go_wp2_with fail
  refine hc.out.mono ?_
  rintro e w' ⟨rfl, rfl⟩
  go_wp2
  go_ret
  exact ⟨rfl, rfl⟩
end Go.Proofs.YtbkcclmhgnplcaaDoor
