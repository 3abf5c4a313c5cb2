/- The law MatchAll. -/
import Derived.Test.YtimffjonhoplpaaMatL
import Derived.Test.YtimffjonhoplpaaMatR3
import Derived.Test.YtimffjonhoplpaaRints
namespace Go.Proofs.Ytimffjonhoplpaa
open Go.RowKit Go.Shelf
attribute [local go_sem] Oper.semAt_some
set_option maxRecDepth 100000 in
set_option maxHeartbeats 8000000 in
theorem matchAll_walk (a0 a1 : Int) (a2 : Option Addr) (len2 cap2 : Nat) (z2 : List Int) (a3 : Int) (w : World) (h0 : inK .i64 a0) (h1 : inK .i64 a1) (w2 : IsRow .i64 w a2 len2 cap2 z2) (h3 : inK .i64 a3) :
    Calls Try.prog 3 #[.int .i64 a0, .int .i64 a1, .slice a2 len2 cap2, .int .i64 a3] w fun e w' => e = .returned (.bool true) ∧ Below w.heap.size w w' := by
  have hnz := w2.nums.1
  have HNZ := Lib.hid hnz
  clear w2 hnz
  go_enter Try.func3, Try.ntmps3
  go_wp2_with fail
  refine (known9_any w).mono ?_
  rintro e w1 ⟨rfl, hb1⟩
  have HB1 := Lib.hid hb1
  have hz1 := hb1.size
  clear hb1
  go_wp2_with fail
  refine (costs_any a0 a1 a3 a2 len2 cap2 _ w1 h0 h1 h3 (HNZ.out.keep (Keeps.of_below HB1.out))).mono ?_
  rintro e w2 ⟨v, us, rfl, hom, hb2⟩
  obtain ⟨n, hn⟩ : ∃ n : Nat, n = (a0 % 6).toNat := ⟨_, rfl⟩
  obtain ⟨m, hm⟩ : ∃ m : Nat, m = (a0 % 6).toNat + (a1 % 5).toNat := ⟨_, rfl⟩
  rw [← hm, ← hn] at hom
  have n5 : n ≤ 5 := by omega
  have m9 : m ≤ 9 := by omega
  have hok := matC_ok (zs := z2.take len2) (sp := a3) (show m ≤ 12 by omega) (show n ≤ m by omega)
  have hrl : ∀ r ∈ matC (z2.take len2) a3 m n, r.length ≤ 1000000 := fun r hr => by rw [(matC_row r hr).1]; omega
  have hML := matC_len (z2.take len2) a3 m n
  obtain ⟨M, hM⟩ : ∃ M, M = matC (z2.take len2) a3 m n := ⟨_, rfl⟩
  rw [← hM] at hom hok hrl hML
  obtain ⟨A, c, rfl, hmat⟩ := hom.mat
  rw [hML] at hmat ⊢
  have HM := Lib.hid hmat
  have HB2 := Lib.hid (HB1.out.trans (hb2.mono hz1))
  have hz2 := hb2.size
  have HR := Lib.hid hrl
  have HOK := Lib.hid hok
  clear hom hmat hb2 hrl hok hM hn hm hML
  go_wp2_with fail
  refine (assign_any A n c M w2 HM.out (by omega) HR.out).mono ?_
  rintro e w3 ⟨v1, rfl, ho1, hb3⟩
  rw [HOK.out]
  have HB3 := Lib.hid (HB2.out.trans (hb3.mono HB2.out.size))
  have HM3 := Lib.hid (HM.out.keep (Keeps.of_below hb3))
  have hz3 := hb3.size
  obtain ⟨P1, c1, rfl, -, -, hn1, -⟩ := ho1.form
  have HN1 := Lib.hid hn1
  clear hb3 ho1 hn1
  go_wp2_with fail
  refine (rAssign_any A n c M w3 HM3.out (by omega) HR.out).mono ?_
  rintro e w4 ⟨v2, rfl, ho2, hb4⟩
  rw [HOK.out]
  have HB4 := Lib.hid (HB3.out.trans (hb4.mono HB3.out.size))
  have HN1' := Lib.hid (HN1.out.keep (Keeps.of_below hb4))
  obtain ⟨P2, c2, rfl, -, -, hn2, -⟩ := ho2.form
  have HN2 := Lib.hid hn2
  have hTl : (toL M).length ≤ 4611686018427387904 := by have := toL_le M; omega
  clear hb4 ho2 hn2
  go_wp2_with fail
  refine (rInts P1 P2 _ _ c1 c2 _ _ w4 HN1'.out HN2.out hTl).mono ?_
  rintro e w5 ⟨rfl, q, rfl⟩
  rw [decide_eq_true rfl]
  go_wp2
  go_ret
  exact ⟨rfl, below_drewN HB4.out q⟩
end Go.Proofs.Ytimffjonhoplpaa
