/- The walk of the document's own Back (reference): eight bytes as a number. -/
import Derived.Test.YtnabmbnfmnpcoaaBytes
namespace Go.Proofs.Ytnabmbnfmnpcoaa
open Go.RowKit
theorem or_low (a x : Int) (h1 : 0 ≤ x) (h2 : x ≤ 255) : bits .or .i64 (wrap64 (a * 256)) x = wrap64 (a * 256 + x) := by
  have e1 : (BitVec.ofInt 64 (wrap64 (a * 256))).toNat = ((a * 256) % 18446744073709551616).toNat := by
    rw [BitVec.toNat_ofInt]
    unfold wrap64
    congr 1
    omega
  have e2 : (BitVec.ofInt 64 x).toNat = x.toNat := by
    rw [BitVec.toNat_ofInt]
    congr 1
    omega
  have e3 : ((a * 256) % 18446744073709551616).toNat ||| x.toNat = ((a * 256) % 18446744073709551616).toNat + x.toNat := nat_join 8 _ _ (by omega) (by omega)
  show IntKind.i64.wrap ((BitVec.ofInt 64 (wrap64 (a * 256)) ||| BitVec.ofInt 64 x).toNat : Int) = _
  rw [BitVec.toNat_or, e1, e2, e3]
  rw [IntKind.wrap_i64]
  unfold wrap64
  omega
theorem back_step (V x : Int) (h1 : 0 ≤ x) (h2 : x ≤ 255) : bits .or .i64 (wrap64 (wrap64 V * 256)) x = wrap64 (V * 256 + x) := by
  have e : wrap64 (wrap64 V * 256) = wrap64 (V * 256) := by unfold wrap64; omega
  rw [e, or_low V x h1 h2]
set_option maxHeartbeats 2000000 in
theorem Back_any (ad : Addr) (n c : Nat) (xs : List Int) (w : World) (hx : Nums .u8 w (some ad) n xs) (hn : 8 ≤ n) :
    Calls Try.prog 31 #[.slice (some ad) n c] w fun e w' => e = .returned (.int .i64 (wrap64 (beVal (xs.take 8)))) ∧ w = w' := by
  go_enter Try.func31, Try.ntmps31
  go_wp2
  go_loop [3, 4] (fun v i => ∃ k : Nat, k ≤ 8 ∧ i = .int .i64 k ∧ ∃ z : Int, v = .int .i64 z ∧ z = wrap64 (beVal (xs.take k)) ∧ -9223372036854775808 ≤ z ∧ z ≤ 9223372036854775807) (fun _ i => 8 - (intOf i).toNat)
  case atStart => exact ⟨0, by omega, rfl, 0, rfl, by simp [beVal, wrap64], by omega, by omega⟩
  case round =>
    obtain ⟨k, hk, rfl, z, rfl, hz, hz1, hz2⟩ := hrel
    have Hz := Lib.hid hz
    clear hz
    by_cases hlt : k < 8
    · obtain ⟨ad', x, e, hxk, ⟨hx1, hx2⟩, hxc⟩ := hx.at_ (k := k) (by omega)
      injection e with e
      subst e
      have hkn : (k : Int) < (n : Int) := by omega
      have Hxk := Lib.hid hxk
      clear hxk
      have hb := back_step (beVal (xs.take k)) x hx1 hx2
      rw [← Hz.out, ← beVal_take Hxk.out] at hb
      have Hb := Lib.hid hb
      clear hb
      go_wp2
      exact ⟨⟨k + 1, by omega, by go_num, _, rfl, Hb.out, by rw [Hb.out]; unfold wrap64; omega, by rw [Hb.out]; unfold wrap64; omega⟩, by simp [intOf]; omega⟩
    · obtain rfl : k = 8 := by omega
      go_wp2
      go_ret
      exact ⟨by rw [Hz.out]; rfl, rfl⟩
end Go.Proofs.Ytnabmbnfmnpcoaa
