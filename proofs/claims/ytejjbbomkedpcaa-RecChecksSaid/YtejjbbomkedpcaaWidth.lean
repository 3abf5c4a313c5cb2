/- How many bytes a number of each type takes (package rec's generic width): by the shelf's contract of bits.Len64, met at this translation's numbers. -/
import Derived.Shelf.Strconv.Itoa0
import Derived.Test.YtejjbbomkedpcaaProg
import Derived.Test.YtejjbbomkedpcaaBase
namespace Go.Proofs.Ytejjbbomkedpcaa
open Go.RowKit
def lenRen : Go.Shelf.Ren := ⟨fun | 129 => 36 | n => n, fun | 53 => 48 | 3 => 3 | 4 => 4 | 46 => 62 | 5 => 5 | 9 => 9 | n => n, fun | n => n⟩
theorem lenLays : Go.Proofs.Lays.n129 Try.prog lenRen := {
  mixed := by kernel_rfl
  f129 := Try.func36.trans (congrArg some (by kernel_rfl))
  t3 := Try.underlying3
  a3 := Try.isAgg3
  z3 := Try.sizeOf3
  v3 := Try.zeroValue3
  t4 := Try.underlying4
  a4 := Try.isAgg4
  z4 := Try.sizeOf4
  v4 := Try.zeroValue4
  t5 := Try.underlying5
  a5 := Try.isAgg5
  z5 := Try.sizeOf5
  v5 := Try.zeroValue5
  t9 := Try.underlying9
  a9 := Try.isAgg9
  z9 := Try.sizeOf9
  v9 := Try.zeroValue9
  t46 := Try.underlying62
  a46 := Try.isAgg62
  z46 := Try.sizeOf62
  v46 := Try.zeroValue62
  t53 := Try.underlying48
  a53 := Try.isAgg48
  z53 := Try.sizeOf48
  v53 := Try.zeroValue48 }
theorem len64 (x : Int) (w : World) (h0 : 0 ≤ x) (h1 : x ≤ 18446744073709551615) :
    Calls Try.prog 36 #[.int .u64 x] w fun e w' => e = .returned (.int .i64 (Lib.bitLen x.toNat)) ∧ w' = w := Any.bits_Len64 lenLays x w h0 h1
theorem len8 (w : World) : Calls Try.prog 36 #[.int .u64 255] w fun e w' => e = .returned (.int .i64 8) ∧ w = w' :=
  (len64 255 w (by omega) (by omega)).mono fun e w' ⟨h1, h2⟩ => ⟨h1.trans (by kernel_rfl), h2.symm⟩
theorem len16 (w : World) : Calls Try.prog 36 #[.int .u64 65535] w fun e w' => e = .returned (.int .i64 16) ∧ w = w' :=
  (len64 65535 w (by omega) (by omega)).mono fun e w' ⟨h1, h2⟩ => ⟨h1.trans (by kernel_rfl), h2.symm⟩
theorem len64_ (w : World) : Calls Try.prog 36 #[.int .u64 18446744073709551615] w fun e w' => e = .returned (.int .i64 64) ∧ w = w' :=
  (len64 18446744073709551615 w (by omega) (by omega)).mono fun e w' ⟨h1, h2⟩ => ⟨h1.trans (by kernel_rfl), h2.symm⟩

set_option maxHeartbeats 1000000 in
theorem width8 (w : World) : Calls Try.prog 29 #[] w fun e w' => e = .returned (.int .i64 1) ∧ w = w' := by
  go_enter Try.func29, Try.ntmps29
  go_wp2_with fail
  refine (len8 w).mono ?_
  rintro e w1 ⟨rfl, rfl⟩
  go_wp2
  go_ret
  exact ⟨rfl, rfl⟩
set_option maxHeartbeats 1000000 in
theorem width16 (w : World) : Calls Try.prog 30 #[] w fun e w' => e = .returned (.int .i64 2) ∧ w = w' := by
  go_enter Try.func30, Try.ntmps30
  go_wp2_with fail
  refine (len16 w).mono ?_
  rintro e w1 ⟨rfl, rfl⟩
  go_wp2
  go_ret
  exact ⟨rfl, rfl⟩
set_option maxHeartbeats 1000000 in
theorem width64 (w : World) : Calls Try.prog 31 #[] w fun e w' => e = .returned (.int .i64 8) ∧ w = w' := by
  go_enter Try.func31, Try.ntmps31
  go_wp2_with fail
  refine (len64_ w).mono ?_
  rintro e w1 ⟨rfl, rfl⟩
  go_wp2
  go_ret
  exact ⟨rfl, rfl⟩
end Go.Proofs.Ytejjbbomkedpcaa
