import Derived.Test.YtimffjonhoplpaaProg
import Derived.Test.YtimffjonhoplpaaBase2
namespace Go.Proofs.Ytimffjonhoplpaa
open Go.RowKit
set_option maxHeartbeats 1000000 in
theorem rIntsEq (A B : Option Addr) (n c d : Nat) (xs ys : List Int) (w : World) (hx : Nums .i64 w A n xs) (hy : Nums .i64 w B n ys) (hn : n ≤ 4611686018427387904) :
    Calls Try.prog 17 #[.slice A n c, .slice B n d] w fun e w' => e = .returned (.bool (decide (xs = ys))) ∧ ∃ q, w' = w.drewN q := by
  go_enter Try.func17, Try.ntmps17
  go_wp2
  go_loopw [5] (fun i wr => ∃ k : Nat, k ≤ n ∧ i = .int .i64 k ∧ xs.take k = ys.take k ∧ ∃ q, wr = w.drewN q) (fun i _ => n - (intOf i).toNat)
  case atStart => exact ⟨0, by omega, rfl, by simp, 0, rfl⟩
  case round =>
    obtain ⟨k, hk, rfl, ht, q, rfl⟩ := hrel
    have Ht := Lib.hid ht
    clear ht
    by_cases hlt : k < n
    · obtain ⟨ad, x, rfl, hxk, hxi, hcx⟩ := hx.at_ hlt
      obtain ⟨bd, y, rfl, hyk, hyi, hcy⟩ := hy.at_ hlt
      have Hx := Lib.hid hxk
      have Hy := Lib.hid hyk
      clear hxk hyk hxi hyi
      by_cases hxy : x = y
      · have Hxy := Lib.hid hxy
        have hb : (x != y) = false := by rw [hxy]; simp
        clear hxy
        go_wp2
        go_quiet (fail)
        go_wp2
        exact ⟨⟨k + 1, by omega, by go_num, by rw [take_snoc Hx.out, take_snoc Hy.out, Ht.out, Hxy.out], _, rfl⟩, by simp [intOf]; omega⟩
      · have hb : (x != y) = true := by rw [bne_iff_ne]; exact hxy
        have Hne : Hid (xs ≠ ys) := Lib.hid (fun e => hxy (by have h1 := Hx.out; have h2 := Hy.out; rw [e, h2] at h1; injection h1 with h1; exact h1.symm))
        clear hxy
        go_wp2
        go_quiet (fail)
        go_wp2
        go_ret
        exact ⟨by rw [decide_eq_false Hne.out]; rfl, _, World.drewN_drewN _ _ _⟩
    · go_wp2
      go_ret
      obtain rfl : k = n := by omega
      have := Ht.out
      rw [List.take_of_length_le (Nat.le_of_eq hx.len), List.take_of_length_le (Nat.le_of_eq hy.len)] at this
      exact ⟨by rw [decide_eq_true this]; rfl, _, rfl⟩
set_option maxHeartbeats 1000000 in
theorem rIntsNe (A B : Option Addr) (n m c d : Nat) (w : World) (h : n ≠ m) :
    Calls Try.prog 17 #[.slice A n c, .slice B m d] w fun e w' => e = .returned (.bool false) ∧ w = w' := by
  have hne : ((n : Int) != (m : Int)) = true := by rw [bne_iff_ne]; omega
  clear h
  go_enter Try.func17, Try.ntmps17
  go_wp2
  go_ret
  exact ⟨rfl, rfl⟩
/-- Ints: whether two rows of numbers are one. -/
theorem rInts (A B : Option Addr) (n m c d : Nat) (xs ys : List Int) (w : World) (hx : Nums .i64 w A n xs) (hy : Nums .i64 w B m ys) (hn : n ≤ 4611686018427387904) :
    Calls Try.prog 17 #[.slice A n c, .slice B m d] w fun e w' => e = .returned (.bool (decide (xs = ys))) ∧ ∃ q, w' = w.drewN q := by
  by_cases h : n = m
  · subst h
    exact rIntsEq A B n c d xs ys w hx hy hn
  · refine (rIntsNe A B n m c d w h).mono fun e w' ⟨he, hw⟩ => ⟨?_, 0, hw.symm⟩
    rw [he, decide_eq_false (fun e => h (by rw [← hx.len, ← hy.len, e]))]

end Go.Proofs.Ytimffjonhoplpaa
