/- How many bytes a number of each type takes (package rec's generic width): by the shelf's contract of bits.Len64, met at this translation's numbers. -/
import Derived.Shelf.Strconv.Itoa0
import Derived.Test.YtnabmbnfmnpcoaaProg
import Derived.Test.YtnabmbnfmnpcoaaBase
namespace Go.Proofs.Ytnabmbnfmnpcoaa
open Go.RowKit
def lenRen : Go.Shelf.Ren := ⟨fun | 129 => 54 | n => n, fun | 53 => 55 | 3 => 3 | 4 => 4 | 46 => 67 | 5 => 5 | 9 => 9 | n => n, fun | n => n⟩
theorem lenLays : Go.Proofs.Lays.n129 Try.prog lenRen := {
  mixed := by kernel_rfl
  f129 := Try.func54.trans (congrArg some (by kernel_rfl))
  t3 := Try.underlying3
  a3 := Try.isAgg3
  z3 := Try.sizeOf3
  v3 := Try.zeroValue3
  t4 := Try.underlying4
  a4 := Try.isAgg4
  z4 := Try.sizeOf4
  v4 := Try.zeroValue4
  t5 := Try.underlying5
  a5 := Try.isAgg5
  z5 := Try.sizeOf5
  v5 := Try.zeroValue5
  t9 := Try.underlying9
  a9 := Try.isAgg9
  z9 := Try.sizeOf9
  v9 := Try.zeroValue9
  t46 := Try.underlying67
  a46 := Try.isAgg67
  z46 := Try.sizeOf67
  v46 := Try.zeroValue67
  t53 := Try.underlying55
  a53 := Try.isAgg55
  z53 := Try.sizeOf55
  v53 := Try.zeroValue55 }
theorem len64 (x : Int) (w : World) (h0 : 0 ≤ x) (h1 : x ≤ 18446744073709551615) :
    Calls Try.prog 54 #[.int .u64 x] w fun e w' => e = .returned (.int .i64 (Lib.bitLen x.toNat)) ∧ w' = w := Any.bits_Len64 lenLays x w h0 h1
theorem len8 (w : World) : Calls Try.prog 54 #[.int .u64 255] w fun e w' => e = .returned (.int .i64 8) ∧ w = w' :=
  (len64 255 w (by omega) (by omega)).mono fun e w' ⟨h1, h2⟩ => ⟨h1.trans (by kernel_rfl), h2.symm⟩
theorem len16 (w : World) : Calls Try.prog 54 #[.int .u64 65535] w fun e w' => e = .returned (.int .i64 16) ∧ w = w' :=
  (len64 65535 w (by omega) (by omega)).mono fun e w' ⟨h1, h2⟩ => ⟨h1.trans (by kernel_rfl), h2.symm⟩
theorem len64_ (w : World) : Calls Try.prog 54 #[.int .u64 18446744073709551615] w fun e w' => e = .returned (.int .i64 64) ∧ w = w' :=
  (len64 18446744073709551615 w (by omega) (by omega)).mono fun e w' ⟨h1, h2⟩ => ⟨h1.trans (by kernel_rfl), h2.symm⟩

set_option maxHeartbeats 1000000 in
theorem width8 (w : World) : Calls Try.prog 45 #[] w fun e w' => e = .returned (.int .i64 1) ∧ w = w' := by
  go_enter Try.func45, Try.ntmps45
  go_wp2_with fail
  refine (len8 w).mono ?_
  rintro e w1 ⟨rfl, rfl⟩
  go_wp2
  go_ret
  exact ⟨rfl, rfl⟩
set_option maxHeartbeats 1000000 in
theorem width16 (w : World) : Calls Try.prog 46 #[] w fun e w' => e = .returned (.int .i64 2) ∧ w = w' := by
  go_enter Try.func46, Try.ntmps46
  go_wp2_with fail
  refine (len16 w).mono ?_
  rintro e w1 ⟨rfl, rfl⟩
  go_wp2
  go_ret
  exact ⟨rfl, rfl⟩
set_option maxHeartbeats 1000000 in
theorem width64 (w : World) : Calls Try.prog 47 #[] w fun e w' => e = .returned (.int .i64 8) ∧ w = w' := by
  go_enter Try.func47, Try.ntmps47
  go_wp2_with fail
  refine (len64_ w).mono ?_
  rintro e w1 ⟨rfl, rfl⟩
  go_wp2
  go_ret
  exact ⟨rfl, rfl⟩
end Go.Proofs.Ytnabmbnfmnpcoaa
