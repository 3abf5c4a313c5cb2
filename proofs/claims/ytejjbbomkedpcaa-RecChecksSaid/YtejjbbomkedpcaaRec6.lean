/- Walks of package rec: numbers are taken off bytes, the highest byte first. -/
import Derived.Test.YtejjbbomkedpcaaRec5
namespace Go.Proofs.Ytejjbbomkedpcaa
open Go.RowKit

set_option maxHeartbeats 1000000 in
theorem take64 (ad : Addr) (n c : Nat) (xs : List Int) (w : World) (hx : Nums .u8 w (some ad) n xs) (h1 : 8 ≤ n) (hc : n ≤ c) (hbs : c ≤ 9223372036854775807) :
    Calls Try.prog 32 #[.slice (some ad) n c] w (TakePost ad n c 8 xs (wrap64 (beVal (xs.take 8))) w) := by
  have Hxl := Lib.hid hx.len
  have Hxo : Hid (∀ y ∈ xs, 0 ≤ y ∧ y ≤ 255) := Lib.hid (fun y hy => hx.ok y hy)
  go_enter Try.func32, Try.ntmps32
  go_wp2_with (go_at_call 31; refine (width64 _).mono ?_; rintro e w1 ⟨rfl, rfl⟩)
  go_loopw [5, 6, 7, 15] (fun v _ _ i wr => ∃ k : Nat, ∃ z : Int, k ≤ 8 ∧ i = .int .i64 k ∧ v = .int .u64 z ∧ z = beVal (xs.take k) * 2 ^ (8 * (8 - k)) ∧ ∃ q, wr = w.drewN q) (fun _ _ _ i _ => 8 - (intOf i).toNat)
  case atStart => exact ⟨0, 0, by omega, rfl, rfl, by simp [beVal], 0, rfl⟩
  case round =>
    obtain ⟨k, z, hk, rfl, rfl, hz, q, rfl⟩ := hrel
    have Hz := Lib.hid hz
    clear hz
    by_cases hlt : k < 8
    · obtain ⟨ad', x, e, hxk, ⟨hx1, hx2⟩, hcell⟩ := hx.at_ (k := k) (by omega)
      injection e with e
      subst e
      have hstep := or64 (beVal (xs.take k)) x (beVal_take_bd Hxo.out (by rw [Hxl.out]; omega)).1 hx1 hx2 k hlt (beVal_take_bd Hxo.out (by rw [Hxl.out]; omega)).2
      rw [← Hz.out, ← beVal_take hxk] at hstep
      have Hs := Lib.hid hstep
      clear hxk hstep
      go_wp2
      exact ⟨⟨k + 1, _, by omega, by go_num, rfl, Hs.out.trans (by rw [show 7 - k = 8 - (k + 1) from by omega]), q, rfl⟩, by simp [intOf]; omega⟩
    · obtain rfl : k = 8 := by omega
      have hbd := beVal_take_bd (xs := xs) Hxo.out (k := 8) (by rw [Hxl.out]; omega)
      have hz : z = beVal (xs.take 8) := by rw [Hz.out]; simp
      rw [← hz] at hbd ⊢
      obtain ⟨hb1, hb2⟩ := hbd
      simp only [Int.reducePow] at hb2
      have Hz2 := Lib.hid hz
      clear hz
      by_cases h8 : c = 8
      · obtain rfl : n = 8 := by omega
        subst h8
        go_wp2
        go_quiet (fail)
        go_wp2
        go_ret2
        exact ⟨_, by rw [← Hz2.out]; rfl, Tail.end_ _ _ _ _, _, World.drewN_drewN _ _ _⟩
      · go_wp2
        go_quiet (fail)
        go_wp2
        go_ret2
        exact ⟨_, by rw [← Hz2.out]; rfl, Tail.add_ _ _ h1, _, World.drewN_drewN _ _ _⟩

set_option maxHeartbeats 1000000 in
theorem take16 (ad : Addr) (n c : Nat) (xs : List Int) (w : World) (hx : Nums .u8 w (some ad) n xs) (h1 : 2 ≤ n) (hc : n ≤ c) (hbs : c ≤ 9223372036854775807) :
    Calls Try.prog 28 #[.slice (some ad) n c] w (TakePost ad n c 2 xs (beVal (xs.take 2)) w) := by
  have Hxl := Lib.hid hx.len
  have Hxo : Hid (∀ y ∈ xs, 0 ≤ y ∧ y ≤ 255) := Lib.hid (fun y hy => hx.ok y hy)
  go_enter Try.func28, Try.ntmps28
  go_wp2_with (go_at_call 30; refine (width16 _).mono ?_; rintro e w1 ⟨rfl, rfl⟩)
  go_loopw [5, 6, 7, 15] (fun v _ _ i wr => ∃ k : Nat, ∃ z : Int, k ≤ 2 ∧ i = .int .i64 k ∧ v = .int .u16 z ∧ z = beVal (xs.take k) * 2 ^ (8 * (2 - k)) ∧ ∃ q, wr = w.drewN q) (fun _ _ _ i _ => 2 - (intOf i).toNat)
  case atStart => exact ⟨0, 0, by omega, rfl, rfl, by simp [beVal], 0, rfl⟩
  case round =>
    obtain ⟨k, z, hk, rfl, rfl, hz, q, rfl⟩ := hrel
    have Hz := Lib.hid hz
    clear hz
    by_cases hlt : k < 2
    · obtain ⟨ad', x, e, hxk, ⟨hx1, hx2⟩, hcell⟩ := hx.at_ (k := k) (by omega)
      injection e with e
      subst e
      have hstep := or16 (beVal (xs.take k)) x (beVal_take_bd Hxo.out (by rw [Hxl.out]; omega)).1 hx1 hx2 k hlt (beVal_take_bd Hxo.out (by rw [Hxl.out]; omega)).2
      rw [← Hz.out, ← beVal_take hxk] at hstep
      have Hs := Lib.hid hstep
      clear hxk hstep
      go_wp2
      exact ⟨⟨k + 1, _, by omega, by go_num, rfl, Hs.out.trans (by rw [show 1 - k = 2 - (k + 1) from by omega]), q, rfl⟩, by simp [intOf]; omega⟩
    · obtain rfl : k = 2 := by omega
      have hbd := beVal_take_bd (xs := xs) Hxo.out (k := 2) (by rw [Hxl.out]; omega)
      have hz : z = beVal (xs.take 2) := by rw [Hz.out]; simp
      rw [← hz] at hbd ⊢
      obtain ⟨hb1, hb2⟩ := hbd
      simp only [Int.reducePow] at hb2
      have Hz2 := Lib.hid hz
      clear hz
      by_cases h8 : c = 2
      · obtain rfl : n = 2 := by omega
        subst h8
        go_wp2
        go_quiet (fail)
        go_wp2
        go_ret2
        exact ⟨_, by rw [← Hz2.out]; rfl, Tail.end_ _ _ _ _, _, World.drewN_drewN _ _ _⟩
      · go_wp2
        go_quiet (fail)
        go_wp2
        go_ret2
        exact ⟨_, by rw [← Hz2.out]; rfl, Tail.add_ _ _ h1, _, World.drewN_drewN _ _ _⟩

set_option maxHeartbeats 1000000 in
theorem take8 (ad : Addr) (n c : Nat) (xs : List Int) (w : World) (hx : Nums .u8 w (some ad) n xs) (h1 : 1 ≤ n) (hc : n ≤ c) (hbs : c ≤ 9223372036854775807) :
    Calls Try.prog 27 #[.slice (some ad) n c] w (TakePost ad n c 1 xs (beVal (xs.take 1)) w) := by
  have Hxl := Lib.hid hx.len
  have Hxo : Hid (∀ y ∈ xs, 0 ≤ y ∧ y ≤ 255) := Lib.hid (fun y hy => hx.ok y hy)
  go_enter Try.func27, Try.ntmps27
  go_wp2_with (go_at_call 29; refine (width8 _).mono ?_; rintro e w1 ⟨rfl, rfl⟩)
  go_loopw [5, 6, 7, 15] (fun v _ _ i wr => ∃ k : Nat, ∃ z : Int, k ≤ 1 ∧ i = .int .i64 k ∧ v = .int .u8 z ∧ z = beVal (xs.take k) * 2 ^ (8 * (1 - k)) ∧ ∃ q, wr = w.drewN q) (fun _ _ _ i _ => 1 - (intOf i).toNat)
  case atStart => exact ⟨0, 0, by omega, rfl, rfl, by simp [beVal], 0, rfl⟩
  case round =>
    obtain ⟨k, z, hk, rfl, rfl, hz, q, rfl⟩ := hrel
    have Hz := Lib.hid hz
    clear hz
    by_cases hlt : k < 1
    · obtain rfl : k = 0 := by omega
      obtain ⟨ad', x, e, hxk, ⟨hx1, hx2⟩, hcell⟩ := hx.at_ (k := 0) (by omega)
      injection e with e
      subst e
      rw [show ad.add 0 = ad from by simp [Addr.add]] at hcell
      have hstep := or8 (beVal (xs.take 0)) x (beVal_take_bd Hxo.out (by rw [Hxl.out]; omega)).1 hx1 hx2 0 hlt (beVal_take_bd Hxo.out (by rw [Hxl.out]; omega)).2
      rw [← Hz.out, ← beVal_take hxk] at hstep
      rw [show IntKind.u8.wrap (x * 2 ^ (8 * (0 - 0))) = x from by rw [IntKind.wrap_u8]; simp; omega] at hstep
      have Hs := Lib.hid hstep
      clear hxk hstep
      go_wp2
      exact ⟨⟨0 + 1, _, by omega, by go_num, rfl, Hs.out.trans (by rw [show 0 - 0 = 1 - (0 + 1) from by omega]), q, rfl⟩, by simp [intOf]⟩
    · obtain rfl : k = 1 := by omega
      have hbd := beVal_take_bd (xs := xs) Hxo.out (k := 1) (by rw [Hxl.out]; omega)
      have hz : z = beVal (xs.take 1) := by rw [Hz.out]; simp
      rw [← hz] at hbd ⊢
      obtain ⟨hb1, hb2⟩ := hbd
      simp only [Int.reducePow] at hb2
      have Hz2 := Lib.hid hz
      clear hz
      by_cases h8 : c = 1
      · obtain rfl : n = 1 := by omega
        subst h8
        go_wp2
        go_quiet (fail)
        go_wp2
        go_ret2
        exact ⟨_, by rw [← Hz2.out]; rfl, Tail.end_ _ _ _ _, _, World.drewN_drewN _ _ _⟩
      · go_wp2
        go_quiet (fail)
        go_wp2
        go_ret2
        exact ⟨_, by rw [← Hz2.out]; rfl, Tail.add_ _ _ h1, _, World.drewN_drewN _ _ _⟩
end Go.Proofs.Ytejjbbomkedpcaa
