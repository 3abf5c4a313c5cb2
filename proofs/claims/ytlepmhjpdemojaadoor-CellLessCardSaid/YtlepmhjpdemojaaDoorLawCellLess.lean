/- The law CellLess, whole. -/
import Derived.Test.YtlepmhjpdemojaaDoorLawCellLess0
import Derived.Test.YtlepmhjpdemojaaDoorIsRow
namespace Go.Proofs.YtlepmhjpdemojaaDoor
open Go.RowKit
set_option maxHeartbeats 2000000 in
theorem cl_big (P1 P2 P3 : Option Addr) (m1 c1 m2 c2 m3 c3 : Nat) (w : World) (hk : Calls Tryd.prog 16 #[] w fun e w' => e = .returned (.bool true) ∧ Below w.heap.size w w') (h : 50 < m1 ∨ 50 < m2 ∨ 50 < m3) :
    Calls Tryd.prog 4 #[.slice P1 m1 c1, .slice P2 m2 c2, .slice P3 m3 c3] w fun e w' => e = .returned (.bool true) ∧ Below w.heap.size w w' := by
  have HK := Lib.hid hk
  clear hk
  by_cases h1 : 50 < m1
  · have d1 : decide ((50 : Int) < (m1 : Int)) = true := by simp; omega
    clear h h1
    go_enter Tryd.func4, Tryd.ntmps4
    go_wp2_with fail
    refine HK.out.mono ?_
    rintro e w1 ⟨rfl, hb1⟩
    have B1 := Lib.hid hb1
    clear hb1 HK
    go_wp2
    go_ret
    exact ⟨rfl, B1.out⟩
  · by_cases h2 : 50 < m2
    · have d1 : decide ((50 : Int) < (m1 : Int)) = false := by simp; omega
      have d2 : decide ((50 : Int) < (m2 : Int)) = true := by simp; omega
      clear h h1 h2
      go_enter Tryd.func4, Tryd.ntmps4
      go_wp2_with fail
      refine HK.out.mono ?_
      rintro e w1 ⟨rfl, hb1⟩
      have B1 := Lib.hid hb1
      clear hb1 HK
      go_wp2
      go_ret
      exact ⟨rfl, B1.out⟩
    · have h3 : 50 < m3 := by omega
      have d1 : decide ((50 : Int) < (m1 : Int)) = false := by simp; omega
      have d2 : decide ((50 : Int) < (m2 : Int)) = false := by simp; omega
      have d3 : decide ((50 : Int) < (m3 : Int)) = true := by simp; omega
      clear h h1 h2 h3
      go_enter Tryd.func4, Tryd.ntmps4
      go_wp2_with fail
      refine HK.out.mono ?_
      rintro e w1 ⟨rfl, hb1⟩
      have B1 := Lib.hid hb1
      clear hb1 HK
      go_wp2
      go_ret
      exact ⟨rfl, B1.out⟩
theorem cellLess_walk (a0 : Option Addr) (len0 cap0 : Nat) (z0 : List Int) (a1 : Option Addr) (len1 cap1 : Nat) (z1 : List Int) (a2 : Option Addr) (len2 cap2 : Nat) (z2 : List Int) (w : World) (w0 : IsRow .i64 w a0 len0 cap0 z0) (w1 : IsRow .i64 w a1 len1 cap1 z1) (w2 : IsRow .i64 w a2 len2 cap2 z2) (hT : Tab w) (hw1 : 1 < w.heap.size) :
    Calls Tryd.prog 4 #[.slice a0 len0 cap0, .slice a1 len1 cap1, .slice a2 len2 cap2] w fun e w' => e = .returned (.bool true) ∧ Below w.heap.size w w' := by
  have hk := known_any w hT hw1
  by_cases hbig : 50 < len0 ∨ 50 < len1 ∨ 50 < len2
  · exact cl_big _ _ _ _ _ _ _ _ _ w hk hbig
  · have n0 := w0.nums.1
    have n1 := w1.nums.1
    have n2 := w2.nums.1
    generalize z0.take len0 = xs at n0
    generalize z1.take len1 = ys at n1
    generalize z2.take len2 = zs at n2
    have g0 : len0 ≤ 50 := by omega
    have g1 : len1 ≤ 50 := by omega
    have g2 : len2 ≤ 50 := by omega
    have L : ∀ (P Q : Option Addr) (m c n d : Nat) (us vs : List Int), Nums .i64 w P m us → Nums .i64 w Q n vs → m ≤ 50 → n ≤ 50 → ∀ v, cmpL us vs = v → ∀ W : World, Keeps w W → Calls Tryd.prog 31 #[.slice P m c, .slice Q n d] W fun e w' => e = .returned (.int .i64 v) ∧ W = w' :=
      fun P Q m c n d us vs hu hv hm hn v e W hW => e ▸ less_n P Q m c n d us vs W (hu.keep hW) (hv.keep hW) (by omega) (by omega)
    have R : ∀ v, cmpL xs ys = v → ∀ W : World, Keeps w W → Calls Tryd.prog 32 #[.slice a0 len0 cap0, .slice a1 len1 cap1] W fun e w' => e = .returned (.int .i64 v) ∧ ∃ q, w' = W.drewN q :=
      fun v e W hW => e ▸ rLess a0 a1 len0 cap0 len1 cap1 xs ys W (n0.keep hW) (n1.keep hW) (by omega) (by omega)
    have E : ∀ b, decide (xs = ys) = b → ∀ W : World, Keeps w W → Calls Tryd.prog 33 #[.slice a0 len0 cap0, .slice a1 len1 cap1] W fun e w' => e = .returned (.bool b) ∧ ∃ q, w' = W.drewN q :=
      fun b e W hW => e ▸ rInts a0 a1 len0 len1 cap0 cap1 xs ys W (n0.keep hW) (n1.keep hW) (by omega)
    have anti : cmpL ys xs = - cmpL xs ys := cmpL_anti xs ys
    have self : cmpL xs xs = 0 := cmpL_self xs
    have zero : ∀ v, cmpL xs ys = v → v ≠ 0 → decide (xs = ys) = false := fun v e hv => decide_eq_false fun h => hv (by rw [← e, h, cmpL_self])
    have zero' : cmpL xs ys = 0 → decide (xs = ys) = true := fun e => decide_eq_true (cmpL_zero.1 e)
    have tr : cmpL xs ys ≤ 0 → cmpL ys zs ≤ 0 → cmpL xs zs ≤ 0 := cmpL_trans
    rcases cmpL_in xs ys with e | e | e
    · have z := zero _ e (by decide)
      rcases cmpL_in ys zs with u | u | u
      · rcases cmpL_in xs zs with v | v | v
        · exact cl_mmm _ _ _ _ _ _ _ _ _ w hk g0 g1 g2 (L _ _ _ _ _ _ _ _ n0 n1 g0 g1 _ e) (L _ _ _ _ _ _ _ _ n1 n0 g1 g0 _ (by rw [anti, e]; try rfl)) (L _ _ _ _ _ _ _ _ n0 n0 g0 g0 _ self) (L _ _ _ _ _ _ _ _ n1 n2 g1 g2 _ u) (L _ _ _ _ _ _ _ _ n0 n2 g0 g2 _ v) (R _ e) (E _ z)
        · exact cl_mmz _ _ _ _ _ _ _ _ _ w hk g0 g1 g2 (L _ _ _ _ _ _ _ _ n0 n1 g0 g1 _ e) (L _ _ _ _ _ _ _ _ n1 n0 g1 g0 _ (by rw [anti, e]; try rfl)) (L _ _ _ _ _ _ _ _ n0 n0 g0 g0 _ self) (L _ _ _ _ _ _ _ _ n1 n2 g1 g2 _ u) (L _ _ _ _ _ _ _ _ n0 n2 g0 g2 _ v) (R _ e) (E _ z)
        · exact absurd (tr (by omega) (by omega)) (by omega)
      · rcases cmpL_in xs zs with v | v | v
        · exact cl_mzm _ _ _ _ _ _ _ _ _ w hk g0 g1 g2 (L _ _ _ _ _ _ _ _ n0 n1 g0 g1 _ e) (L _ _ _ _ _ _ _ _ n1 n0 g1 g0 _ (by rw [anti, e]; try rfl)) (L _ _ _ _ _ _ _ _ n0 n0 g0 g0 _ self) (L _ _ _ _ _ _ _ _ n1 n2 g1 g2 _ u) (L _ _ _ _ _ _ _ _ n0 n2 g0 g2 _ v) (R _ e) (E _ z)
        · exact cl_mzz _ _ _ _ _ _ _ _ _ w hk g0 g1 g2 (L _ _ _ _ _ _ _ _ n0 n1 g0 g1 _ e) (L _ _ _ _ _ _ _ _ n1 n0 g1 g0 _ (by rw [anti, e]; try rfl)) (L _ _ _ _ _ _ _ _ n0 n0 g0 g0 _ self) (L _ _ _ _ _ _ _ _ n1 n2 g1 g2 _ u) (L _ _ _ _ _ _ _ _ n0 n2 g0 g2 _ v) (R _ e) (E _ z)
        · exact absurd (tr (by omega) (by omega)) (by omega)
      · exact cl_mp _ _ _ _ _ _ _ _ _ w hk g0 g1 g2 (L _ _ _ _ _ _ _ _ n0 n1 g0 g1 _ e) (L _ _ _ _ _ _ _ _ n1 n0 g1 g0 _ (by rw [anti, e]; try rfl)) (L _ _ _ _ _ _ _ _ n0 n0 g0 g0 _ self) (L _ _ _ _ _ _ _ _ n1 n2 g1 g2 _ u) (R _ e) (E _ z)
    · have z := zero' e
      rcases cmpL_in ys zs with u | u | u
      · rcases cmpL_in xs zs with v | v | v
        · exact cl_zmm _ _ _ _ _ _ _ _ _ w hk g0 g1 g2 (L _ _ _ _ _ _ _ _ n0 n1 g0 g1 _ e) (L _ _ _ _ _ _ _ _ n1 n0 g1 g0 _ (by rw [anti, e]; try rfl)) (L _ _ _ _ _ _ _ _ n0 n0 g0 g0 _ self) (L _ _ _ _ _ _ _ _ n1 n2 g1 g2 _ u) (L _ _ _ _ _ _ _ _ n0 n2 g0 g2 _ v) (R _ e) (E _ z)
        · exact cl_zmz _ _ _ _ _ _ _ _ _ w hk g0 g1 g2 (L _ _ _ _ _ _ _ _ n0 n1 g0 g1 _ e) (L _ _ _ _ _ _ _ _ n1 n0 g1 g0 _ (by rw [anti, e]; try rfl)) (L _ _ _ _ _ _ _ _ n0 n0 g0 g0 _ self) (L _ _ _ _ _ _ _ _ n1 n2 g1 g2 _ u) (L _ _ _ _ _ _ _ _ n0 n2 g0 g2 _ v) (R _ e) (E _ z)
        · exact absurd (tr (by omega) (by omega)) (by omega)
      · rcases cmpL_in xs zs with v | v | v
        · exact cl_zzm _ _ _ _ _ _ _ _ _ w hk g0 g1 g2 (L _ _ _ _ _ _ _ _ n0 n1 g0 g1 _ e) (L _ _ _ _ _ _ _ _ n1 n0 g1 g0 _ (by rw [anti, e]; try rfl)) (L _ _ _ _ _ _ _ _ n0 n0 g0 g0 _ self) (L _ _ _ _ _ _ _ _ n1 n2 g1 g2 _ u) (L _ _ _ _ _ _ _ _ n0 n2 g0 g2 _ v) (R _ e) (E _ z)
        · exact cl_zzz _ _ _ _ _ _ _ _ _ w hk g0 g1 g2 (L _ _ _ _ _ _ _ _ n0 n1 g0 g1 _ e) (L _ _ _ _ _ _ _ _ n1 n0 g1 g0 _ (by rw [anti, e]; try rfl)) (L _ _ _ _ _ _ _ _ n0 n0 g0 g0 _ self) (L _ _ _ _ _ _ _ _ n1 n2 g1 g2 _ u) (L _ _ _ _ _ _ _ _ n0 n2 g0 g2 _ v) (R _ e) (E _ z)
        · exact absurd (tr (by omega) (by omega)) (by omega)
      · exact cl_zp _ _ _ _ _ _ _ _ _ w hk g0 g1 g2 (L _ _ _ _ _ _ _ _ n0 n1 g0 g1 _ e) (L _ _ _ _ _ _ _ _ n1 n0 g1 g0 _ (by rw [anti, e]; try rfl)) (L _ _ _ _ _ _ _ _ n0 n0 g0 g0 _ self) (L _ _ _ _ _ _ _ _ n1 n2 g1 g2 _ u) (R _ e) (E _ z)
    · have z := zero _ e (by decide)
      exact cl_p _ _ _ _ _ _ _ _ _ w hk g0 g1 g2 (L _ _ _ _ _ _ _ _ n0 n1 g0 g1 _ e) (L _ _ _ _ _ _ _ _ n1 n0 g1 g0 _ (by rw [anti, e]; try rfl)) (L _ _ _ _ _ _ _ _ n0 n0 g0 g0 _ self) (R _ e) (E _ z)
end Go.Proofs.YtlepmhjpdemojaaDoor
