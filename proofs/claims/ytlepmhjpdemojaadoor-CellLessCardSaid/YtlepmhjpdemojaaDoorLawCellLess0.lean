/- The law CellLess. -/
import Derived.Test.YtlepmhjpdemojaaDoorCeld
namespace Go.Proofs.YtlepmhjpdemojaaDoor
open Go.RowKit
theorem wz (x : Int) (h : x = -1 ∨ x = 0 ∨ x = 1) : wrap64 x = x := by unfold wrap64; omega
set_option maxRecDepth 100000 in
set_option maxHeartbeats 2000000 in
theorem cl_p (P1 P2 P3 : Option Addr) (m1 c1 m2 c2 m3 c3 : Nat) (w : World) (hk : Calls Tryd.prog 16 #[] w fun e w' => e = .returned (.bool true) ∧ Below w.heap.size w w') (g1 : m1 ≤ 50) (g2 : m2 ≤ 50) (g3 : m3 ≤ 50)
    (hab : (∀ W : World, Keeps w W → Calls Tryd.prog 31 #[.slice P1 m1 c1, .slice P2 m2 c2] W fun e w' => e = .returned (.int .i64 (1)) ∧ W = w')) (hba : (∀ W : World, Keeps w W → Calls Tryd.prog 31 #[.slice P2 m2 c2, .slice P1 m1 c1] W fun e w' => e = .returned (.int .i64 (-1)) ∧ W = w')) (haa : (∀ W : World, Keeps w W → Calls Tryd.prog 31 #[.slice P1 m1 c1, .slice P1 m1 c1] W fun e w' => e = .returned (.int .i64 (0)) ∧ W = w')) (hr : ∀ W : World, Keeps w W → Calls Tryd.prog 32 #[.slice P1 m1 c1, .slice P2 m2 c2] W fun e w' => e = .returned (.int .i64 (1)) ∧ ∃ q, w' = W.drewN q) (hi : ∀ W : World, Keeps w W → Calls Tryd.prog 33 #[.slice P1 m1 c1, .slice P2 m2 c2] W fun e w' => e = .returned (.bool false) ∧ ∃ q, w' = W.drewN q) :
    Calls Tryd.prog 4 #[.slice P1 m1 c1, .slice P2 m2 c2, .slice P3 m3 c3] w fun e w' => e = .returned (.bool true) ∧ Below w.heap.size w w' := by
  have d1 : decide ((50 : Int) < (m1 : Int)) = false := by simp; omega
  have d2 : decide ((50 : Int) < (m2 : Int)) = false := by simp; omega
  have d3 : decide ((50 : Int) < (m3 : Int)) = false := by simp; omega
  have z0 : wrap64 0 = 0 := by decide +kernel
  have z1 : wrap64 1 = 1 := by decide +kernel
  have z2 : wrap64 (-1) = -1 := by decide +kernel
  have HK := Lib.hid hk
  have HAB := Lib.hid hab
  have HBA := Lib.hid hba
  have HAA := Lib.hid haa
  have HR := Lib.hid hr
  have HI := Lib.hid hi
  clear hk hab hba haa hr hi g1 g2 g3
  go_enter Tryd.func4, Tryd.ntmps4
  go_wp2_with fail
  refine HK.out.mono ?_
  rintro e w1 ⟨rfl, hb1⟩
  have B1 := Lib.hid hb1
  clear hb1 HK
  go_wp2_with fail
  refine (HAB.out w1 (Keeps.of_below B1.out)).mono ?_
  rintro e w' ⟨rfl, rfl⟩
  go_wp2_with fail
  refine (HR.out w1 (Keeps.of_below B1.out)).mono ?_
  rintro e w' ⟨rfl, q1, rfl⟩
  have K1 := Lib.hid ((show Keeps w w1 from Keeps.of_below B1.out).drewN q1)
  go_wp2_with fail
  refine (HBA.out (w1.drewN q1) K1.out).mono ?_
  rintro e w' ⟨rfl, rfl⟩
  go_wp2_with fail
  refine (HAA.out (w1.drewN q1) K1.out).mono ?_
  rintro e w' ⟨rfl, rfl⟩
  go_wp2_with fail
  refine (HI.out (w1.drewN q1) K1.out).mono ?_
  rintro e w' ⟨rfl, q2, rfl⟩
  go_wp2
  go_ret
  exact ⟨rfl, below_drewN B1.out (q1 + q2)⟩
set_option maxRecDepth 100000 in
set_option maxHeartbeats 2000000 in
theorem cl_mp (P1 P2 P3 : Option Addr) (m1 c1 m2 c2 m3 c3 : Nat) (w : World) (hk : Calls Tryd.prog 16 #[] w fun e w' => e = .returned (.bool true) ∧ Below w.heap.size w w') (g1 : m1 ≤ 50) (g2 : m2 ≤ 50) (g3 : m3 ≤ 50)
    (hab : (∀ W : World, Keeps w W → Calls Tryd.prog 31 #[.slice P1 m1 c1, .slice P2 m2 c2] W fun e w' => e = .returned (.int .i64 (-1)) ∧ W = w')) (hba : (∀ W : World, Keeps w W → Calls Tryd.prog 31 #[.slice P2 m2 c2, .slice P1 m1 c1] W fun e w' => e = .returned (.int .i64 (1)) ∧ W = w')) (haa : (∀ W : World, Keeps w W → Calls Tryd.prog 31 #[.slice P1 m1 c1, .slice P1 m1 c1] W fun e w' => e = .returned (.int .i64 (0)) ∧ W = w')) (hbc : (∀ W : World, Keeps w W → Calls Tryd.prog 31 #[.slice P2 m2 c2, .slice P3 m3 c3] W fun e w' => e = .returned (.int .i64 (1)) ∧ W = w')) (hr : ∀ W : World, Keeps w W → Calls Tryd.prog 32 #[.slice P1 m1 c1, .slice P2 m2 c2] W fun e w' => e = .returned (.int .i64 (-1)) ∧ ∃ q, w' = W.drewN q) (hi : ∀ W : World, Keeps w W → Calls Tryd.prog 33 #[.slice P1 m1 c1, .slice P2 m2 c2] W fun e w' => e = .returned (.bool false) ∧ ∃ q, w' = W.drewN q) :
    Calls Tryd.prog 4 #[.slice P1 m1 c1, .slice P2 m2 c2, .slice P3 m3 c3] w fun e w' => e = .returned (.bool true) ∧ Below w.heap.size w w' := by
  have d1 : decide ((50 : Int) < (m1 : Int)) = false := by simp; omega
  have d2 : decide ((50 : Int) < (m2 : Int)) = false := by simp; omega
  have d3 : decide ((50 : Int) < (m3 : Int)) = false := by simp; omega
  have z0 : wrap64 0 = 0 := by decide +kernel
  have z1 : wrap64 1 = 1 := by decide +kernel
  have z2 : wrap64 (-1) = -1 := by decide +kernel
  have HK := Lib.hid hk
  have HAB := Lib.hid hab
  have HBA := Lib.hid hba
  have HAA := Lib.hid haa
  have HBC := Lib.hid hbc
  have HR := Lib.hid hr
  have HI := Lib.hid hi
  clear hk hab hba haa hbc hr hi g1 g2 g3
  go_enter Tryd.func4, Tryd.ntmps4
  go_wp2_with fail
  refine HK.out.mono ?_
  rintro e w1 ⟨rfl, hb1⟩
  have B1 := Lib.hid hb1
  clear hb1 HK
  go_wp2_with fail
  refine (HAB.out w1 (Keeps.of_below B1.out)).mono ?_
  rintro e w' ⟨rfl, rfl⟩
  go_wp2_with fail
  refine (HR.out w1 (Keeps.of_below B1.out)).mono ?_
  rintro e w' ⟨rfl, q1, rfl⟩
  have K1 := Lib.hid ((show Keeps w w1 from Keeps.of_below B1.out).drewN q1)
  go_wp2_with fail
  refine (HBA.out (w1.drewN q1) K1.out).mono ?_
  rintro e w' ⟨rfl, rfl⟩
  go_wp2_with fail
  refine (HAA.out (w1.drewN q1) K1.out).mono ?_
  rintro e w' ⟨rfl, rfl⟩
  go_wp2_with fail
  refine (HBC.out (w1.drewN q1) K1.out).mono ?_
  rintro e w' ⟨rfl, rfl⟩
  go_wp2_with fail
  refine (HI.out (w1.drewN q1) K1.out).mono ?_
  rintro e w' ⟨rfl, q2, rfl⟩
  go_wp2
  go_ret
  exact ⟨rfl, below_drewN B1.out (q1 + q2)⟩
set_option maxRecDepth 100000 in
set_option maxHeartbeats 2000000 in
theorem cl_mmm (P1 P2 P3 : Option Addr) (m1 c1 m2 c2 m3 c3 : Nat) (w : World) (hk : Calls Tryd.prog 16 #[] w fun e w' => e = .returned (.bool true) ∧ Below w.heap.size w w') (g1 : m1 ≤ 50) (g2 : m2 ≤ 50) (g3 : m3 ≤ 50)
    (hab : (∀ W : World, Keeps w W → Calls Tryd.prog 31 #[.slice P1 m1 c1, .slice P2 m2 c2] W fun e w' => e = .returned (.int .i64 (-1)) ∧ W = w')) (hba : (∀ W : World, Keeps w W → Calls Tryd.prog 31 #[.slice P2 m2 c2, .slice P1 m1 c1] W fun e w' => e = .returned (.int .i64 (1)) ∧ W = w')) (haa : (∀ W : World, Keeps w W → Calls Tryd.prog 31 #[.slice P1 m1 c1, .slice P1 m1 c1] W fun e w' => e = .returned (.int .i64 (0)) ∧ W = w')) (hbc : (∀ W : World, Keeps w W → Calls Tryd.prog 31 #[.slice P2 m2 c2, .slice P3 m3 c3] W fun e w' => e = .returned (.int .i64 (-1)) ∧ W = w')) (hac : (∀ W : World, Keeps w W → Calls Tryd.prog 31 #[.slice P1 m1 c1, .slice P3 m3 c3] W fun e w' => e = .returned (.int .i64 (-1)) ∧ W = w')) (hr : ∀ W : World, Keeps w W → Calls Tryd.prog 32 #[.slice P1 m1 c1, .slice P2 m2 c2] W fun e w' => e = .returned (.int .i64 (-1)) ∧ ∃ q, w' = W.drewN q) (hi : ∀ W : World, Keeps w W → Calls Tryd.prog 33 #[.slice P1 m1 c1, .slice P2 m2 c2] W fun e w' => e = .returned (.bool false) ∧ ∃ q, w' = W.drewN q) :
    Calls Tryd.prog 4 #[.slice P1 m1 c1, .slice P2 m2 c2, .slice P3 m3 c3] w fun e w' => e = .returned (.bool true) ∧ Below w.heap.size w w' := by
  have d1 : decide ((50 : Int) < (m1 : Int)) = false := by simp; omega
  have d2 : decide ((50 : Int) < (m2 : Int)) = false := by simp; omega
  have d3 : decide ((50 : Int) < (m3 : Int)) = false := by simp; omega
  have z0 : wrap64 0 = 0 := by decide +kernel
  have z1 : wrap64 1 = 1 := by decide +kernel
  have z2 : wrap64 (-1) = -1 := by decide +kernel
  have HK := Lib.hid hk
  have HAB := Lib.hid hab
  have HBA := Lib.hid hba
  have HAA := Lib.hid haa
  have HBC := Lib.hid hbc
  have HAC := Lib.hid hac
  have HR := Lib.hid hr
  have HI := Lib.hid hi
  clear hk hab hba haa hbc hac hr hi g1 g2 g3
  go_enter Tryd.func4, Tryd.ntmps4
  go_wp2_with fail
  refine HK.out.mono ?_
  rintro e w1 ⟨rfl, hb1⟩
  have B1 := Lib.hid hb1
  clear hb1 HK
  go_wp2_with fail
  refine (HAB.out w1 (Keeps.of_below B1.out)).mono ?_
  rintro e w' ⟨rfl, rfl⟩
  go_wp2_with fail
  refine (HR.out w1 (Keeps.of_below B1.out)).mono ?_
  rintro e w' ⟨rfl, q1, rfl⟩
  have K1 := Lib.hid ((show Keeps w w1 from Keeps.of_below B1.out).drewN q1)
  go_wp2_with fail
  refine (HBA.out (w1.drewN q1) K1.out).mono ?_
  rintro e w' ⟨rfl, rfl⟩
  go_wp2_with fail
  refine (HAA.out (w1.drewN q1) K1.out).mono ?_
  rintro e w' ⟨rfl, rfl⟩
  go_wp2_with fail
  refine (HBC.out (w1.drewN q1) K1.out).mono ?_
  rintro e w' ⟨rfl, rfl⟩
  go_wp2_with fail
  refine (HAC.out (w1.drewN q1) K1.out).mono ?_
  rintro e w' ⟨rfl, rfl⟩
  go_wp2_with fail
  refine (HI.out (w1.drewN q1) K1.out).mono ?_
  rintro e w' ⟨rfl, q2, rfl⟩
  go_wp2
  go_ret
  exact ⟨rfl, below_drewN B1.out (q1 + q2)⟩
set_option maxRecDepth 100000 in
set_option maxHeartbeats 2000000 in
theorem cl_mmz (P1 P2 P3 : Option Addr) (m1 c1 m2 c2 m3 c3 : Nat) (w : World) (hk : Calls Tryd.prog 16 #[] w fun e w' => e = .returned (.bool true) ∧ Below w.heap.size w w') (g1 : m1 ≤ 50) (g2 : m2 ≤ 50) (g3 : m3 ≤ 50)
    (hab : (∀ W : World, Keeps w W → Calls Tryd.prog 31 #[.slice P1 m1 c1, .slice P2 m2 c2] W fun e w' => e = .returned (.int .i64 (-1)) ∧ W = w')) (hba : (∀ W : World, Keeps w W → Calls Tryd.prog 31 #[.slice P2 m2 c2, .slice P1 m1 c1] W fun e w' => e = .returned (.int .i64 (1)) ∧ W = w')) (haa : (∀ W : World, Keeps w W → Calls Tryd.prog 31 #[.slice P1 m1 c1, .slice P1 m1 c1] W fun e w' => e = .returned (.int .i64 (0)) ∧ W = w')) (hbc : (∀ W : World, Keeps w W → Calls Tryd.prog 31 #[.slice P2 m2 c2, .slice P3 m3 c3] W fun e w' => e = .returned (.int .i64 (-1)) ∧ W = w')) (hac : (∀ W : World, Keeps w W → Calls Tryd.prog 31 #[.slice P1 m1 c1, .slice P3 m3 c3] W fun e w' => e = .returned (.int .i64 (0)) ∧ W = w')) (hr : ∀ W : World, Keeps w W → Calls Tryd.prog 32 #[.slice P1 m1 c1, .slice P2 m2 c2] W fun e w' => e = .returned (.int .i64 (-1)) ∧ ∃ q, w' = W.drewN q) (hi : ∀ W : World, Keeps w W → Calls Tryd.prog 33 #[.slice P1 m1 c1, .slice P2 m2 c2] W fun e w' => e = .returned (.bool false) ∧ ∃ q, w' = W.drewN q) :
    Calls Tryd.prog 4 #[.slice P1 m1 c1, .slice P2 m2 c2, .slice P3 m3 c3] w fun e w' => e = .returned (.bool true) ∧ Below w.heap.size w w' := by
  have d1 : decide ((50 : Int) < (m1 : Int)) = false := by simp; omega
  have d2 : decide ((50 : Int) < (m2 : Int)) = false := by simp; omega
  have d3 : decide ((50 : Int) < (m3 : Int)) = false := by simp; omega
  have z0 : wrap64 0 = 0 := by decide +kernel
  have z1 : wrap64 1 = 1 := by decide +kernel
  have z2 : wrap64 (-1) = -1 := by decide +kernel
  have HK := Lib.hid hk
  have HAB := Lib.hid hab
  have HBA := Lib.hid hba
  have HAA := Lib.hid haa
  have HBC := Lib.hid hbc
  have HAC := Lib.hid hac
  have HR := Lib.hid hr
  have HI := Lib.hid hi
  clear hk hab hba haa hbc hac hr hi g1 g2 g3
  go_enter Tryd.func4, Tryd.ntmps4
  go_wp2_with fail
  refine HK.out.mono ?_
  rintro e w1 ⟨rfl, hb1⟩
  have B1 := Lib.hid hb1
  clear hb1 HK
  go_wp2_with fail
  refine (HAB.out w1 (Keeps.of_below B1.out)).mono ?_
  rintro e w' ⟨rfl, rfl⟩
  go_wp2_with fail
  refine (HR.out w1 (Keeps.of_below B1.out)).mono ?_
  rintro e w' ⟨rfl, q1, rfl⟩
  have K1 := Lib.hid ((show Keeps w w1 from Keeps.of_below B1.out).drewN q1)
  go_wp2_with fail
  refine (HBA.out (w1.drewN q1) K1.out).mono ?_
  rintro e w' ⟨rfl, rfl⟩
  go_wp2_with fail
  refine (HAA.out (w1.drewN q1) K1.out).mono ?_
  rintro e w' ⟨rfl, rfl⟩
  go_wp2_with fail
  refine (HBC.out (w1.drewN q1) K1.out).mono ?_
  rintro e w' ⟨rfl, rfl⟩
  go_wp2_with fail
  refine (HAC.out (w1.drewN q1) K1.out).mono ?_
  rintro e w' ⟨rfl, rfl⟩
  go_wp2_with fail
  refine (HI.out (w1.drewN q1) K1.out).mono ?_
  rintro e w' ⟨rfl, q2, rfl⟩
  go_wp2
  go_ret
  exact ⟨rfl, below_drewN B1.out (q1 + q2)⟩
set_option maxRecDepth 100000 in
set_option maxHeartbeats 2000000 in
theorem cl_mzm (P1 P2 P3 : Option Addr) (m1 c1 m2 c2 m3 c3 : Nat) (w : World) (hk : Calls Tryd.prog 16 #[] w fun e w' => e = .returned (.bool true) ∧ Below w.heap.size w w') (g1 : m1 ≤ 50) (g2 : m2 ≤ 50) (g3 : m3 ≤ 50)
    (hab : (∀ W : World, Keeps w W → Calls Tryd.prog 31 #[.slice P1 m1 c1, .slice P2 m2 c2] W fun e w' => e = .returned (.int .i64 (-1)) ∧ W = w')) (hba : (∀ W : World, Keeps w W → Calls Tryd.prog 31 #[.slice P2 m2 c2, .slice P1 m1 c1] W fun e w' => e = .returned (.int .i64 (1)) ∧ W = w')) (haa : (∀ W : World, Keeps w W → Calls Tryd.prog 31 #[.slice P1 m1 c1, .slice P1 m1 c1] W fun e w' => e = .returned (.int .i64 (0)) ∧ W = w')) (hbc : (∀ W : World, Keeps w W → Calls Tryd.prog 31 #[.slice P2 m2 c2, .slice P3 m3 c3] W fun e w' => e = .returned (.int .i64 (0)) ∧ W = w')) (hac : (∀ W : World, Keeps w W → Calls Tryd.prog 31 #[.slice P1 m1 c1, .slice P3 m3 c3] W fun e w' => e = .returned (.int .i64 (-1)) ∧ W = w')) (hr : ∀ W : World, Keeps w W → Calls Tryd.prog 32 #[.slice P1 m1 c1, .slice P2 m2 c2] W fun e w' => e = .returned (.int .i64 (-1)) ∧ ∃ q, w' = W.drewN q) (hi : ∀ W : World, Keeps w W → Calls Tryd.prog 33 #[.slice P1 m1 c1, .slice P2 m2 c2] W fun e w' => e = .returned (.bool false) ∧ ∃ q, w' = W.drewN q) :
    Calls Tryd.prog 4 #[.slice P1 m1 c1, .slice P2 m2 c2, .slice P3 m3 c3] w fun e w' => e = .returned (.bool true) ∧ Below w.heap.size w w' := by
  have d1 : decide ((50 : Int) < (m1 : Int)) = false := by simp; omega
  have d2 : decide ((50 : Int) < (m2 : Int)) = false := by simp; omega
  have d3 : decide ((50 : Int) < (m3 : Int)) = false := by simp; omega
  have z0 : wrap64 0 = 0 := by decide +kernel
  have z1 : wrap64 1 = 1 := by decide +kernel
  have z2 : wrap64 (-1) = -1 := by decide +kernel
  have HK := Lib.hid hk
  have HAB := Lib.hid hab
  have HBA := Lib.hid hba
  have HAA := Lib.hid haa
  have HBC := Lib.hid hbc
  have HAC := Lib.hid hac
  have HR := Lib.hid hr
  have HI := Lib.hid hi
  clear hk hab hba haa hbc hac hr hi g1 g2 g3
  go_enter Tryd.func4, Tryd.ntmps4
  go_wp2_with fail
  refine HK.out.mono ?_
  rintro e w1 ⟨rfl, hb1⟩
  have B1 := Lib.hid hb1
  clear hb1 HK
  go_wp2_with fail
  refine (HAB.out w1 (Keeps.of_below B1.out)).mono ?_
  rintro e w' ⟨rfl, rfl⟩
  go_wp2_with fail
  refine (HR.out w1 (Keeps.of_below B1.out)).mono ?_
  rintro e w' ⟨rfl, q1, rfl⟩
  have K1 := Lib.hid ((show Keeps w w1 from Keeps.of_below B1.out).drewN q1)
  go_wp2_with fail
  refine (HBA.out (w1.drewN q1) K1.out).mono ?_
  rintro e w' ⟨rfl, rfl⟩
  go_wp2_with fail
  refine (HAA.out (w1.drewN q1) K1.out).mono ?_
  rintro e w' ⟨rfl, rfl⟩
  go_wp2_with fail
  refine (HBC.out (w1.drewN q1) K1.out).mono ?_
  rintro e w' ⟨rfl, rfl⟩
  go_wp2_with fail
  refine (HAC.out (w1.drewN q1) K1.out).mono ?_
  rintro e w' ⟨rfl, rfl⟩
  go_wp2_with fail
  refine (HI.out (w1.drewN q1) K1.out).mono ?_
  rintro e w' ⟨rfl, q2, rfl⟩
  go_wp2
  go_ret
  exact ⟨rfl, below_drewN B1.out (q1 + q2)⟩
set_option maxRecDepth 100000 in
set_option maxHeartbeats 2000000 in
theorem cl_mzz (P1 P2 P3 : Option Addr) (m1 c1 m2 c2 m3 c3 : Nat) (w : World) (hk : Calls Tryd.prog 16 #[] w fun e w' => e = .returned (.bool true) ∧ Below w.heap.size w w') (g1 : m1 ≤ 50) (g2 : m2 ≤ 50) (g3 : m3 ≤ 50)
    (hab : (∀ W : World, Keeps w W → Calls Tryd.prog 31 #[.slice P1 m1 c1, .slice P2 m2 c2] W fun e w' => e = .returned (.int .i64 (-1)) ∧ W = w')) (hba : (∀ W : World, Keeps w W → Calls Tryd.prog 31 #[.slice P2 m2 c2, .slice P1 m1 c1] W fun e w' => e = .returned (.int .i64 (1)) ∧ W = w')) (haa : (∀ W : World, Keeps w W → Calls Tryd.prog 31 #[.slice P1 m1 c1, .slice P1 m1 c1] W fun e w' => e = .returned (.int .i64 (0)) ∧ W = w')) (hbc : (∀ W : World, Keeps w W → Calls Tryd.prog 31 #[.slice P2 m2 c2, .slice P3 m3 c3] W fun e w' => e = .returned (.int .i64 (0)) ∧ W = w')) (hac : (∀ W : World, Keeps w W → Calls Tryd.prog 31 #[.slice P1 m1 c1, .slice P3 m3 c3] W fun e w' => e = .returned (.int .i64 (0)) ∧ W = w')) (hr : ∀ W : World, Keeps w W → Calls Tryd.prog 32 #[.slice P1 m1 c1, .slice P2 m2 c2] W fun e w' => e = .returned (.int .i64 (-1)) ∧ ∃ q, w' = W.drewN q) (hi : ∀ W : World, Keeps w W → Calls Tryd.prog 33 #[.slice P1 m1 c1, .slice P2 m2 c2] W fun e w' => e = .returned (.bool false) ∧ ∃ q, w' = W.drewN q) :
    Calls Tryd.prog 4 #[.slice P1 m1 c1, .slice P2 m2 c2, .slice P3 m3 c3] w fun e w' => e = .returned (.bool true) ∧ Below w.heap.size w w' := by
  have d1 : decide ((50 : Int) < (m1 : Int)) = false := by simp; omega
  have d2 : decide ((50 : Int) < (m2 : Int)) = false := by simp; omega
  have d3 : decide ((50 : Int) < (m3 : Int)) = false := by simp; omega
  have z0 : wrap64 0 = 0 := by decide +kernel
  have z1 : wrap64 1 = 1 := by decide +kernel
  have z2 : wrap64 (-1) = -1 := by decide +kernel
  have HK := Lib.hid hk
  have HAB := Lib.hid hab
  have HBA := Lib.hid hba
  have HAA := Lib.hid haa
  have HBC := Lib.hid hbc
  have HAC := Lib.hid hac
  have HR := Lib.hid hr
  have HI := Lib.hid hi
  clear hk hab hba haa hbc hac hr hi g1 g2 g3
  go_enter Tryd.func4, Tryd.ntmps4
  go_wp2_with fail
  refine HK.out.mono ?_
  rintro e w1 ⟨rfl, hb1⟩
  have B1 := Lib.hid hb1
  clear hb1 HK
  go_wp2_with fail
  refine (HAB.out w1 (Keeps.of_below B1.out)).mono ?_
  rintro e w' ⟨rfl, rfl⟩
  go_wp2_with fail
  refine (HR.out w1 (Keeps.of_below B1.out)).mono ?_
  rintro e w' ⟨rfl, q1, rfl⟩
  have K1 := Lib.hid ((show Keeps w w1 from Keeps.of_below B1.out).drewN q1)
  go_wp2_with fail
  refine (HBA.out (w1.drewN q1) K1.out).mono ?_
  rintro e w' ⟨rfl, rfl⟩
  go_wp2_with fail
  refine (HAA.out (w1.drewN q1) K1.out).mono ?_
  rintro e w' ⟨rfl, rfl⟩
  go_wp2_with fail
  refine (HBC.out (w1.drewN q1) K1.out).mono ?_
  rintro e w' ⟨rfl, rfl⟩
  go_wp2_with fail
  refine (HAC.out (w1.drewN q1) K1.out).mono ?_
  rintro e w' ⟨rfl, rfl⟩
  go_wp2_with fail
  refine (HI.out (w1.drewN q1) K1.out).mono ?_
  rintro e w' ⟨rfl, q2, rfl⟩
  go_wp2
  go_ret
  exact ⟨rfl, below_drewN B1.out (q1 + q2)⟩
set_option maxRecDepth 100000 in
set_option maxHeartbeats 2000000 in
theorem cl_zp (P1 P2 P3 : Option Addr) (m1 c1 m2 c2 m3 c3 : Nat) (w : World) (hk : Calls Tryd.prog 16 #[] w fun e w' => e = .returned (.bool true) ∧ Below w.heap.size w w') (g1 : m1 ≤ 50) (g2 : m2 ≤ 50) (g3 : m3 ≤ 50)
    (hab : (∀ W : World, Keeps w W → Calls Tryd.prog 31 #[.slice P1 m1 c1, .slice P2 m2 c2] W fun e w' => e = .returned (.int .i64 (0)) ∧ W = w')) (hba : (∀ W : World, Keeps w W → Calls Tryd.prog 31 #[.slice P2 m2 c2, .slice P1 m1 c1] W fun e w' => e = .returned (.int .i64 (0)) ∧ W = w')) (haa : (∀ W : World, Keeps w W → Calls Tryd.prog 31 #[.slice P1 m1 c1, .slice P1 m1 c1] W fun e w' => e = .returned (.int .i64 (0)) ∧ W = w')) (hbc : (∀ W : World, Keeps w W → Calls Tryd.prog 31 #[.slice P2 m2 c2, .slice P3 m3 c3] W fun e w' => e = .returned (.int .i64 (1)) ∧ W = w')) (hr : ∀ W : World, Keeps w W → Calls Tryd.prog 32 #[.slice P1 m1 c1, .slice P2 m2 c2] W fun e w' => e = .returned (.int .i64 (0)) ∧ ∃ q, w' = W.drewN q) (hi : ∀ W : World, Keeps w W → Calls Tryd.prog 33 #[.slice P1 m1 c1, .slice P2 m2 c2] W fun e w' => e = .returned (.bool true) ∧ ∃ q, w' = W.drewN q) :
    Calls Tryd.prog 4 #[.slice P1 m1 c1, .slice P2 m2 c2, .slice P3 m3 c3] w fun e w' => e = .returned (.bool true) ∧ Below w.heap.size w w' := by
  have d1 : decide ((50 : Int) < (m1 : Int)) = false := by simp; omega
  have d2 : decide ((50 : Int) < (m2 : Int)) = false := by simp; omega
  have d3 : decide ((50 : Int) < (m3 : Int)) = false := by simp; omega
  have z0 : wrap64 0 = 0 := by decide +kernel
  have z1 : wrap64 1 = 1 := by decide +kernel
  have z2 : wrap64 (-1) = -1 := by decide +kernel
  have HK := Lib.hid hk
  have HAB := Lib.hid hab
  have HBA := Lib.hid hba
  have HAA := Lib.hid haa
  have HBC := Lib.hid hbc
  have HR := Lib.hid hr
  have HI := Lib.hid hi
  clear hk hab hba haa hbc hr hi g1 g2 g3
  go_enter Tryd.func4, Tryd.ntmps4
  go_wp2_with fail
  refine HK.out.mono ?_
  rintro e w1 ⟨rfl, hb1⟩
  have B1 := Lib.hid hb1
  clear hb1 HK
  go_wp2_with fail
  refine (HAB.out w1 (Keeps.of_below B1.out)).mono ?_
  rintro e w' ⟨rfl, rfl⟩
  go_wp2_with fail
  refine (HR.out w1 (Keeps.of_below B1.out)).mono ?_
  rintro e w' ⟨rfl, q1, rfl⟩
  have K1 := Lib.hid ((show Keeps w w1 from Keeps.of_below B1.out).drewN q1)
  go_wp2_with fail
  refine (HBA.out (w1.drewN q1) K1.out).mono ?_
  rintro e w' ⟨rfl, rfl⟩
  go_wp2_with fail
  refine (HAA.out (w1.drewN q1) K1.out).mono ?_
  rintro e w' ⟨rfl, rfl⟩
  go_wp2_with fail
  refine (HBC.out (w1.drewN q1) K1.out).mono ?_
  rintro e w' ⟨rfl, rfl⟩
  go_wp2_with fail
  refine (HI.out (w1.drewN q1) K1.out).mono ?_
  rintro e w' ⟨rfl, q2, rfl⟩
  go_wp2
  go_ret
  exact ⟨rfl, below_drewN B1.out (q1 + q2)⟩
set_option maxRecDepth 100000 in
set_option maxHeartbeats 2000000 in
theorem cl_zmm (P1 P2 P3 : Option Addr) (m1 c1 m2 c2 m3 c3 : Nat) (w : World) (hk : Calls Tryd.prog 16 #[] w fun e w' => e = .returned (.bool true) ∧ Below w.heap.size w w') (g1 : m1 ≤ 50) (g2 : m2 ≤ 50) (g3 : m3 ≤ 50)
    (hab : (∀ W : World, Keeps w W → Calls Tryd.prog 31 #[.slice P1 m1 c1, .slice P2 m2 c2] W fun e w' => e = .returned (.int .i64 (0)) ∧ W = w')) (hba : (∀ W : World, Keeps w W → Calls Tryd.prog 31 #[.slice P2 m2 c2, .slice P1 m1 c1] W fun e w' => e = .returned (.int .i64 (0)) ∧ W = w')) (haa : (∀ W : World, Keeps w W → Calls Tryd.prog 31 #[.slice P1 m1 c1, .slice P1 m1 c1] W fun e w' => e = .returned (.int .i64 (0)) ∧ W = w')) (hbc : (∀ W : World, Keeps w W → Calls Tryd.prog 31 #[.slice P2 m2 c2, .slice P3 m3 c3] W fun e w' => e = .returned (.int .i64 (-1)) ∧ W = w')) (hac : (∀ W : World, Keeps w W → Calls Tryd.prog 31 #[.slice P1 m1 c1, .slice P3 m3 c3] W fun e w' => e = .returned (.int .i64 (-1)) ∧ W = w')) (hr : ∀ W : World, Keeps w W → Calls Tryd.prog 32 #[.slice P1 m1 c1, .slice P2 m2 c2] W fun e w' => e = .returned (.int .i64 (0)) ∧ ∃ q, w' = W.drewN q) (hi : ∀ W : World, Keeps w W → Calls Tryd.prog 33 #[.slice P1 m1 c1, .slice P2 m2 c2] W fun e w' => e = .returned (.bool true) ∧ ∃ q, w' = W.drewN q) :
    Calls Tryd.prog 4 #[.slice P1 m1 c1, .slice P2 m2 c2, .slice P3 m3 c3] w fun e w' => e = .returned (.bool true) ∧ Below w.heap.size w w' := by
  have d1 : decide ((50 : Int) < (m1 : Int)) = false := by simp; omega
  have d2 : decide ((50 : Int) < (m2 : Int)) = false := by simp; omega
  have d3 : decide ((50 : Int) < (m3 : Int)) = false := by simp; omega
  have z0 : wrap64 0 = 0 := by decide +kernel
  have z1 : wrap64 1 = 1 := by decide +kernel
  have z2 : wrap64 (-1) = -1 := by decide +kernel
  have HK := Lib.hid hk
  have HAB := Lib.hid hab
  have HBA := Lib.hid hba
  have HAA := Lib.hid haa
  have HBC := Lib.hid hbc
  have HAC := Lib.hid hac
  have HR := Lib.hid hr
  have HI := Lib.hid hi
  clear hk hab hba haa hbc hac hr hi g1 g2 g3
  go_enter Tryd.func4, Tryd.ntmps4
  go_wp2_with fail
  refine HK.out.mono ?_
  rintro e w1 ⟨rfl, hb1⟩
  have B1 := Lib.hid hb1
  clear hb1 HK
  go_wp2_with fail
  refine (HAB.out w1 (Keeps.of_below B1.out)).mono ?_
  rintro e w' ⟨rfl, rfl⟩
  go_wp2_with fail
  refine (HR.out w1 (Keeps.of_below B1.out)).mono ?_
  rintro e w' ⟨rfl, q1, rfl⟩
  have K1 := Lib.hid ((show Keeps w w1 from Keeps.of_below B1.out).drewN q1)
  go_wp2_with fail
  refine (HBA.out (w1.drewN q1) K1.out).mono ?_
  rintro e w' ⟨rfl, rfl⟩
  go_wp2_with fail
  refine (HAA.out (w1.drewN q1) K1.out).mono ?_
  rintro e w' ⟨rfl, rfl⟩
  go_wp2_with fail
  refine (HBC.out (w1.drewN q1) K1.out).mono ?_
  rintro e w' ⟨rfl, rfl⟩
  go_wp2_with fail
  refine (HAC.out (w1.drewN q1) K1.out).mono ?_
  rintro e w' ⟨rfl, rfl⟩
  go_wp2_with fail
  refine (HI.out (w1.drewN q1) K1.out).mono ?_
  rintro e w' ⟨rfl, q2, rfl⟩
  go_wp2
  go_ret
  exact ⟨rfl, below_drewN B1.out (q1 + q2)⟩
set_option maxRecDepth 100000 in
set_option maxHeartbeats 2000000 in
theorem cl_zmz (P1 P2 P3 : Option Addr) (m1 c1 m2 c2 m3 c3 : Nat) (w : World) (hk : Calls Tryd.prog 16 #[] w fun e w' => e = .returned (.bool true) ∧ Below w.heap.size w w') (g1 : m1 ≤ 50) (g2 : m2 ≤ 50) (g3 : m3 ≤ 50)
    (hab : (∀ W : World, Keeps w W → Calls Tryd.prog 31 #[.slice P1 m1 c1, .slice P2 m2 c2] W fun e w' => e = .returned (.int .i64 (0)) ∧ W = w')) (hba : (∀ W : World, Keeps w W → Calls Tryd.prog 31 #[.slice P2 m2 c2, .slice P1 m1 c1] W fun e w' => e = .returned (.int .i64 (0)) ∧ W = w')) (haa : (∀ W : World, Keeps w W → Calls Tryd.prog 31 #[.slice P1 m1 c1, .slice P1 m1 c1] W fun e w' => e = .returned (.int .i64 (0)) ∧ W = w')) (hbc : (∀ W : World, Keeps w W → Calls Tryd.prog 31 #[.slice P2 m2 c2, .slice P3 m3 c3] W fun e w' => e = .returned (.int .i64 (-1)) ∧ W = w')) (hac : (∀ W : World, Keeps w W → Calls Tryd.prog 31 #[.slice P1 m1 c1, .slice P3 m3 c3] W fun e w' => e = .returned (.int .i64 (0)) ∧ W = w')) (hr : ∀ W : World, Keeps w W → Calls Tryd.prog 32 #[.slice P1 m1 c1, .slice P2 m2 c2] W fun e w' => e = .returned (.int .i64 (0)) ∧ ∃ q, w' = W.drewN q) (hi : ∀ W : World, Keeps w W → Calls Tryd.prog 33 #[.slice P1 m1 c1, .slice P2 m2 c2] W fun e w' => e = .returned (.bool true) ∧ ∃ q, w' = W.drewN q) :
    Calls Tryd.prog 4 #[.slice P1 m1 c1, .slice P2 m2 c2, .slice P3 m3 c3] w fun e w' => e = .returned (.bool true) ∧ Below w.heap.size w w' := by
  have d1 : decide ((50 : Int) < (m1 : Int)) = false := by simp; omega
  have d2 : decide ((50 : Int) < (m2 : Int)) = false := by simp; omega
  have d3 : decide ((50 : Int) < (m3 : Int)) = false := by simp; omega
  have z0 : wrap64 0 = 0 := by decide +kernel
  have z1 : wrap64 1 = 1 := by decide +kernel
  have z2 : wrap64 (-1) = -1 := by decide +kernel
  have HK := Lib.hid hk
  have HAB := Lib.hid hab
  have HBA := Lib.hid hba
  have HAA := Lib.hid haa
  have HBC := Lib.hid hbc
  have HAC := Lib.hid hac
  have HR := Lib.hid hr
  have HI := Lib.hid hi
  clear hk hab hba haa hbc hac hr hi g1 g2 g3
  go_enter Tryd.func4, Tryd.ntmps4
  go_wp2_with fail
  refine HK.out.mono ?_
  rintro e w1 ⟨rfl, hb1⟩
  have B1 := Lib.hid hb1
  clear hb1 HK
  go_wp2_with fail
  refine (HAB.out w1 (Keeps.of_below B1.out)).mono ?_
  rintro e w' ⟨rfl, rfl⟩
  go_wp2_with fail
  refine (HR.out w1 (Keeps.of_below B1.out)).mono ?_
  rintro e w' ⟨rfl, q1, rfl⟩
  have K1 := Lib.hid ((show Keeps w w1 from Keeps.of_below B1.out).drewN q1)
  go_wp2_with fail
  refine (HBA.out (w1.drewN q1) K1.out).mono ?_
  rintro e w' ⟨rfl, rfl⟩
  go_wp2_with fail
  refine (HAA.out (w1.drewN q1) K1.out).mono ?_
  rintro e w' ⟨rfl, rfl⟩
  go_wp2_with fail
  refine (HBC.out (w1.drewN q1) K1.out).mono ?_
  rintro e w' ⟨rfl, rfl⟩
  go_wp2_with fail
  refine (HAC.out (w1.drewN q1) K1.out).mono ?_
  rintro e w' ⟨rfl, rfl⟩
  go_wp2_with fail
  refine (HI.out (w1.drewN q1) K1.out).mono ?_
  rintro e w' ⟨rfl, q2, rfl⟩
  go_wp2
  go_ret
  exact ⟨rfl, below_drewN B1.out (q1 + q2)⟩
set_option maxRecDepth 100000 in
set_option maxHeartbeats 2000000 in
theorem cl_zzm (P1 P2 P3 : Option Addr) (m1 c1 m2 c2 m3 c3 : Nat) (w : World) (hk : Calls Tryd.prog 16 #[] w fun e w' => e = .returned (.bool true) ∧ Below w.heap.size w w') (g1 : m1 ≤ 50) (g2 : m2 ≤ 50) (g3 : m3 ≤ 50)
    (hab : (∀ W : World, Keeps w W → Calls Tryd.prog 31 #[.slice P1 m1 c1, .slice P2 m2 c2] W fun e w' => e = .returned (.int .i64 (0)) ∧ W = w')) (hba : (∀ W : World, Keeps w W → Calls Tryd.prog 31 #[.slice P2 m2 c2, .slice P1 m1 c1] W fun e w' => e = .returned (.int .i64 (0)) ∧ W = w')) (haa : (∀ W : World, Keeps w W → Calls Tryd.prog 31 #[.slice P1 m1 c1, .slice P1 m1 c1] W fun e w' => e = .returned (.int .i64 (0)) ∧ W = w')) (hbc : (∀ W : World, Keeps w W → Calls Tryd.prog 31 #[.slice P2 m2 c2, .slice P3 m3 c3] W fun e w' => e = .returned (.int .i64 (0)) ∧ W = w')) (hac : (∀ W : World, Keeps w W → Calls Tryd.prog 31 #[.slice P1 m1 c1, .slice P3 m3 c3] W fun e w' => e = .returned (.int .i64 (-1)) ∧ W = w')) (hr : ∀ W : World, Keeps w W → Calls Tryd.prog 32 #[.slice P1 m1 c1, .slice P2 m2 c2] W fun e w' => e = .returned (.int .i64 (0)) ∧ ∃ q, w' = W.drewN q) (hi : ∀ W : World, Keeps w W → Calls Tryd.prog 33 #[.slice P1 m1 c1, .slice P2 m2 c2] W fun e w' => e = .returned (.bool true) ∧ ∃ q, w' = W.drewN q) :
    Calls Tryd.prog 4 #[.slice P1 m1 c1, .slice P2 m2 c2, .slice P3 m3 c3] w fun e w' => e = .returned (.bool true) ∧ Below w.heap.size w w' := by
  have d1 : decide ((50 : Int) < (m1 : Int)) = false := by simp; omega
  have d2 : decide ((50 : Int) < (m2 : Int)) = false := by simp; omega
  have d3 : decide ((50 : Int) < (m3 : Int)) = false := by simp; omega
  have z0 : wrap64 0 = 0 := by decide +kernel
  have z1 : wrap64 1 = 1 := by decide +kernel
  have z2 : wrap64 (-1) = -1 := by decide +kernel
  have HK := Lib.hid hk
  have HAB := Lib.hid hab
  have HBA := Lib.hid hba
  have HAA := Lib.hid haa
  have HBC := Lib.hid hbc
  have HAC := Lib.hid hac
  have HR := Lib.hid hr
  have HI := Lib.hid hi
  clear hk hab hba haa hbc hac hr hi g1 g2 g3
  go_enter Tryd.func4, Tryd.ntmps4
  go_wp2_with fail
  refine HK.out.mono ?_
  rintro e w1 ⟨rfl, hb1⟩
  have B1 := Lib.hid hb1
  clear hb1 HK
  go_wp2_with fail
  refine (HAB.out w1 (Keeps.of_below B1.out)).mono ?_
  rintro e w' ⟨rfl, rfl⟩
  go_wp2_with fail
  refine (HR.out w1 (Keeps.of_below B1.out)).mono ?_
  rintro e w' ⟨rfl, q1, rfl⟩
  have K1 := Lib.hid ((show Keeps w w1 from Keeps.of_below B1.out).drewN q1)
  go_wp2_with fail
  refine (HBA.out (w1.drewN q1) K1.out).mono ?_
  rintro e w' ⟨rfl, rfl⟩
  go_wp2_with fail
  refine (HAA.out (w1.drewN q1) K1.out).mono ?_
  rintro e w' ⟨rfl, rfl⟩
  go_wp2_with fail
  refine (HBC.out (w1.drewN q1) K1.out).mono ?_
  rintro e w' ⟨rfl, rfl⟩
  go_wp2_with fail
  refine (HAC.out (w1.drewN q1) K1.out).mono ?_
  rintro e w' ⟨rfl, rfl⟩
  go_wp2_with fail
  refine (HI.out (w1.drewN q1) K1.out).mono ?_
  rintro e w' ⟨rfl, q2, rfl⟩
  go_wp2
  go_ret
  exact ⟨rfl, below_drewN B1.out (q1 + q2)⟩
set_option maxRecDepth 100000 in
set_option maxHeartbeats 2000000 in
theorem cl_zzz (P1 P2 P3 : Option Addr) (m1 c1 m2 c2 m3 c3 : Nat) (w : World) (hk : Calls Tryd.prog 16 #[] w fun e w' => e = .returned (.bool true) ∧ Below w.heap.size w w') (g1 : m1 ≤ 50) (g2 : m2 ≤ 50) (g3 : m3 ≤ 50)
    (hab : (∀ W : World, Keeps w W → Calls Tryd.prog 31 #[.slice P1 m1 c1, .slice P2 m2 c2] W fun e w' => e = .returned (.int .i64 (0)) ∧ W = w')) (hba : (∀ W : World, Keeps w W → Calls Tryd.prog 31 #[.slice P2 m2 c2, .slice P1 m1 c1] W fun e w' => e = .returned (.int .i64 (0)) ∧ W = w')) (haa : (∀ W : World, Keeps w W → Calls Tryd.prog 31 #[.slice P1 m1 c1, .slice P1 m1 c1] W fun e w' => e = .returned (.int .i64 (0)) ∧ W = w')) (hbc : (∀ W : World, Keeps w W → Calls Tryd.prog 31 #[.slice P2 m2 c2, .slice P3 m3 c3] W fun e w' => e = .returned (.int .i64 (0)) ∧ W = w')) (hac : (∀ W : World, Keeps w W → Calls Tryd.prog 31 #[.slice P1 m1 c1, .slice P3 m3 c3] W fun e w' => e = .returned (.int .i64 (0)) ∧ W = w')) (hr : ∀ W : World, Keeps w W → Calls Tryd.prog 32 #[.slice P1 m1 c1, .slice P2 m2 c2] W fun e w' => e = .returned (.int .i64 (0)) ∧ ∃ q, w' = W.drewN q) (hi : ∀ W : World, Keeps w W → Calls Tryd.prog 33 #[.slice P1 m1 c1, .slice P2 m2 c2] W fun e w' => e = .returned (.bool true) ∧ ∃ q, w' = W.drewN q) :
    Calls Tryd.prog 4 #[.slice P1 m1 c1, .slice P2 m2 c2, .slice P3 m3 c3] w fun e w' => e = .returned (.bool true) ∧ Below w.heap.size w w' := by
  have d1 : decide ((50 : Int) < (m1 : Int)) = false := by simp; omega
  have d2 : decide ((50 : Int) < (m2 : Int)) = false := by simp; omega
  have d3 : decide ((50 : Int) < (m3 : Int)) = false := by simp; omega
  have z0 : wrap64 0 = 0 := by decide +kernel
  have z1 : wrap64 1 = 1 := by decide +kernel
  have z2 : wrap64 (-1) = -1 := by decide +kernel
  have HK := Lib.hid hk
  have HAB := Lib.hid hab
  have HBA := Lib.hid hba
  have HAA := Lib.hid haa
  have HBC := Lib.hid hbc
  have HAC := Lib.hid hac
  have HR := Lib.hid hr
  have HI := Lib.hid hi
  clear hk hab hba haa hbc hac hr hi g1 g2 g3
  go_enter Tryd.func4, Tryd.ntmps4
  go_wp2_with fail
  refine HK.out.mono ?_
  rintro e w1 ⟨rfl, hb1⟩
  have B1 := Lib.hid hb1
  clear hb1 HK
  go_wp2_with fail
  refine (HAB.out w1 (Keeps.of_below B1.out)).mono ?_
  rintro e w' ⟨rfl, rfl⟩
  go_wp2_with fail
  refine (HR.out w1 (Keeps.of_below B1.out)).mono ?_
  rintro e w' ⟨rfl, q1, rfl⟩
  have K1 := Lib.hid ((show Keeps w w1 from Keeps.of_below B1.out).drewN q1)
  go_wp2_with fail
  refine (HBA.out (w1.drewN q1) K1.out).mono ?_
  rintro e w' ⟨rfl, rfl⟩
  go_wp2_with fail
  refine (HAA.out (w1.drewN q1) K1.out).mono ?_
  rintro e w' ⟨rfl, rfl⟩
  go_wp2_with fail
  refine (HBC.out (w1.drewN q1) K1.out).mono ?_
  rintro e w' ⟨rfl, rfl⟩
  go_wp2_with fail
  refine (HAC.out (w1.drewN q1) K1.out).mono ?_
  rintro e w' ⟨rfl, rfl⟩
  go_wp2_with fail
  refine (HI.out (w1.drewN q1) K1.out).mono ?_
  rintro e w' ⟨rfl, q2, rfl⟩
  go_wp2
  go_ret
  exact ⟨rfl, below_drewN B1.out (q1 + q2)⟩
end Go.Proofs.YtlepmhjpdemojaaDoor
