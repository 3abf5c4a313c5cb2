/- The law RunsAll. -/
import Derived.IntWalk
import Derived.Test.YtaaciedelfaekaaDoorKnow5
import Derived.Test.YtaaciedelfaekaaDoorMath5
import Derived.Test.YtaaciedelfaekaaDoorFactsH
import Derived.Test.YtaaciedelfaekaaDoorFactsLaw2
import Derived.Test.YtaaciedelfaekaaDoorMake
import Derived.Test.YtaaciedelfaekaaDoorSet
import Derived.Test.YtaaciedelfaekaaDoorIsRow
import Derived.Test.YtaaciedelfaekaaDoorRfacts
import Derived.Test.YtaaciedelfaekaaDoorRrow5
namespace Go.Proofs.YtaaciedelfaekaaDoor
open Go.RowKit
attribute [local go_sem] Oper.semAt_some
set_option maxRecDepth 100000 in
set_option maxHeartbeats 8000000 in
theorem runsAll_walk (a0 : Int) (a1 : Option Addr) (len1 cap1 : Nat) (z1 : List Int) (a2 : Int) (a3 : Option Addr) (len3 cap3 : Nat) (z3 : List Int) (a4 : Int) (a5 : Int) (w : World) (h0 : inK .i64 a0) (w1 : IsRow .i64 w a1 len1 cap1 z1) (h2 : inK .i64 a2) (w3 : IsRow .i64 w a3 len3 cap3 z3) (h4 : inK .i64 a4) (h5 : inK .i64 a5) :
    Calls Tryd.prog 3 #[.int .i64 a0, .slice a1 len1 cap1, .int .i64 a2, .slice a3 len3 cap3, .int .i64 a4, .int .i64 a5] w fun e w' => e = .returned (.bool true) ∧ Below w.heap.size w w' := by
  obtain ⟨n1, lc1, cm1⟩ := w1.nums
  obtain ⟨n3, lc3, cm3⟩ := w3.nums
  have HW := Lib.hid (fun (x n : Int) (W : World) (h : inK .i64 x) (e1 : 1 ≤ n) (e2 : n ≤ 100) => lwithin5 x n W h e1 (by omega))
  have N1 := Lib.hid n1
  have N3 := Lib.hid n3
  have HKn := Lib.hid (known5_any w)
  clear w1 w3 n1 n3
  go_enter Tryd.func3, Tryd.ntmps3
  go_wp2_with fail
  refine HKn.out.mono ?_
  rintro e w1 ⟨rfl, hb1⟩
  have Hb1 := Lib.hid hb1
  clear hb1 HKn
  go_wp2_with fail
  refine (Facts_res a0 a2 a1 a3 len1 cap1 len3 cap3 _ _ w1 (N1.out.keep (Keeps.of_below Hb1.out)) (N3.out.keep (Keeps.of_below Hb1.out)) (by omega) (by omega) h0 h2).mono ?_
  rintro e w2 ⟨A, c, D, d, C, q, mm, m, cs, l, rfl, hF⟩
  have F := Lib.hid hF
  obtain ⟨k1, k2, k3, k4⟩ : 1 ≤ q ∧ q ≤ 4 ∧ mm ≤ 2 ∧ m ≤ 40 := ⟨hF.q1, hF.q4, hF.m2, hF.m40⟩
  have hb2 : Below w.heap.size w w2 := Hb1.out.trans (hF.below.mono Hb1.out.size)
  have hb3 : Below w2.heap.size w2 (w2.alloc (.cells #[.slice A q c, .int .i64 mm] 25)) := (Below.refl _ _).alloc (Nat.le_refl _) _
  obtain ⟨s1, s2, s3⟩ := set_bd a4 q k1 k2
  have Hb2 := Lib.hid hb2
  have Hb3 := Lib.hid hb3
  clear hF hb2 hb3 N1 N3
  go_wp2_with fail
  refine (set_any A q c mm a4 _ k1 k2 h4).mono ?_
  rintro e w4 ⟨rfl, rfl⟩
  obtain ⟨sa, hsa⟩ : ∃ sa, sa = a4 % 2 ^ q := ⟨_, rfl⟩
  rw [← hsa] at s1 s2 s3 ⊢
  have HSA := Lib.hid hsa
  clear hsa
  have hb4 : Below w2.heap.size w2 ((w2.alloc (.cells #[.slice A q c, .int .i64 mm] 25)).alloc (.cells #[.slice A q c, .int .i64 mm] 25)) := Hb3.out.alloc Hb3.out.size _
  have HB4 := Lib.hid hb4
  clear hb4
  have os : Own 25 ((w2.alloc (.cells #[.slice A q c, .int .i64 mm] 25)).alloc (.cells #[.slice A q c, .int .i64 mm] 25)) w2.heap.size [.slice A q c, .int .i64 mm] := (Below.heap_alloc _ _ _ (by simp)).trans (heap_alloc_new w2 _)
  have OS := Lib.hid os
  clear os
  generalize (w2.alloc (.cells #[.slice A q c, .int .i64 mm] 25)).alloc (.cells #[.slice A q c, .int .i64 mm] 25) = w4 at HB4 OS ⊢
  have hl4 : ∀ r ∈ l, r.key.length = q ∧ r.m.length = mm := F.out.lens
  have HL4 := Lib.hid (fun r hr => (show r.key.length ≤ 4 ∧ r.m.length = mm from ⟨by rw [(hl4 r hr).1]; exact k2, (hl4 r hr).2⟩))
  have hmk := fun W (hW : Below w2.heap.size w2 W) => make_any D m d C sa l W (F.out.rows.below hW (Nat.le_refl _)) F.out.em k4 F.out.small (fun r hr => by have := hl4 r hr; omega) s1 s2
  obtain ⟨L, hL⟩ : ∃ L, L = l.map (ofC sa) := ⟨_, rfl⟩
  have hLm : L.length = m := by rw [hL, List.length_map, F.out.em]
  obtain ⟨dd, hdd⟩ : ∃ dd, dd = dimN sa q := ⟨_, rfl⟩
  have hdd4 : dd ≤ 4 := by rw [hdd]; exact Nat.le_trans (dimN_le sa q) k2
  have hLo : OkL dd mm L := by rw [hL, hdd]; exact ok_cells sa F.out.right hl4 F.out.c16
  rw [← hL] at hmk
  have HMK := Lib.hid hmk
  have HLo := Lib.hid hLo
  have HLm := Lib.hid hLm
  have HLL := Lib.hid hL
  have HFA := Lib.hid (fun (set : Int) (W : World) (hW : Below w2.heap.size w2 W) (e1 : 0 ≤ set) (e2 : set ≤ 15) => rFacts_any D m d C mm set l W (F.out.rows.below hW (Nat.le_refl _)) F.out.em k4 F.out.small HL4.out (by omega) e1 e2)
  have hLi : ∀ x ∈ L, inK .i64 x.cnt := by rw [hL]; exact ofC_cnt sa l
  have hL1 : ∀ x ∈ L, x.cnt = 1 := by rw [hL]; exact ofC_one sa l
  have HL1 := Lib.hid hL1
  have REF := Lib.hid (fun (P : Option Addr) (c N k : Nat) (W : World) (hK : RowC W P N L) (hN : N = m) => rruns_row P c N k dd mm L W hK (by omega) (by omega) hLo (by omega) (by omega))
  have SML := Lib.hid (fun (k : Nat) (hk : 1 ≤ k) => runs_small (m := k) hk hLo (by omega) (by omega) (by omega))
  have RUN := Lib.hid (fun (P : Option Addr) (c N k : Nat) (W : World) (hK : RowC W P N L) (hN : N = m) (g1 : 1 ≤ k) (g2 : k ≤ 1000) => runs_row P c N k dd mm L W hK (by omega) (by omega) hLo (by omega) (by omega) hLi g1 (by omega))
  have Hb24 := Lib.hid (Hb2.out.trans (HB4.out.mono Hb2.out.size))
  clear hl4 hL hLm hdd hLo hmk hLi hL1
  go_wp2_with fail
  refine (HMK.out w4 HB4.out).mono ?_
  rintro e w5 ⟨lv, us, rfl, hg, hb5⟩
  obtain ⟨Pl, cl, fl, -, -, -, hPl⟩ := hg.form
  have hul := hg.len
  rw [HLm.out] at hul
  rw [hul] at fl
  subst fl
  have RL := Lib.hid hg.rowC.1
  have HPL := Lib.hid hPl
  have HGL := Lib.hid hg
  have HB5 := Lib.hid (HB4.out.trans (hb5.mono HB4.out.size))
  have Hb5 := Lib.hid (Hb24.out.trans (hb5.mono Hb24.out.size))
  have Hb45 := Lib.hid hb5
  clear hul hg hb5 hPl
  obtain ⟨kk, hkk⟩ : ∃ kk : Nat, (kk : Int) = a5 % 12 := ⟨(a5 % 12).toNat, by omega⟩
  have hkkn : kk < 12 := by omega
  have Hkk := Lib.hid hkk
  clear hkk
  go_wp2_with fail
  refine (HW.out a5 12 w5 h5 (by omega) (by omega)).mono ?_
  rintro e w' ⟨rfl, hw'⟩
  subst hw'
  rw [← Hkk.out]
  obtain ⟨K, hK⟩ : ∃ K, K = kk + 1 := ⟨_, rfl⟩
  have hw1 : IntKind.i64.wrap (1 + (kk : Int)) = (K : Int) := by rw [IntWalk.i64_in _ (by omega), hK]; push_cast; omega
  have hKb : 1 ≤ K ∧ K ≤ 12 := by omega
  clear hK hkkn
  have B0 := Lib.hid (Below.refl w5.heap.size w5)
  go_wp2_with fail
  refine (RUN.out Pl cl m K w5 (RL.out.keep (Keeps.of_below B0.out)) rfl (by omega) (by omega)).mono ?_
  rintro e x1 ⟨P1, c1, rfl, hC1, b1⟩
  have HC1 := Lib.hid hC1
  have B1 := Lib.hid (B0.out.trans (b1.mono B0.out.size))
  clear hC1 b1
  go_wp2_with fail
  refine (REF.out Pl cl m K x1 (RL.out.keep (Keeps.of_below B1.out)) rfl).mono ?_
  rintro e y1 ⟨Q1, d1, rfl, hD1, b1⟩
  have HD1 := Lib.hid hD1
  have HC1' := Lib.hid (HC1.out.keep (Keeps.of_below b1))
  have C1 := Lib.hid (B1.out.trans (b1.mono B1.out.size))
  clear hD1 b1
  have hsm1 := SML.out K (by omega)
  obtain ⟨R1, hR1⟩ : ∃ R, R = (runsP K [] L).length := ⟨_, rfl⟩
  rw [← hR1] at HC1' HD1 hsm1 ⊢
  have HS1 := Lib.hid (rSameR_any P1 Q1 c1 d1 R1 (runsP K [] L) y1 HC1'.out HD1.out hR1 hsm1.2 (by omega))
  clear hR1 hsm1
  go_wp2_with fail
  refine HS1.out.mono ?_
  rintro e z1 ⟨rfl, b1⟩
  have E1 := Lib.hid (C1.out.trans (b1.mono C1.out.size))
  clear b1
  go_wp2_with fail
  refine (RUN.out Pl cl m 500 z1 (RL.out.keep (Keeps.of_below E1.out)) rfl (by omega) (by omega)).mono ?_
  rintro e x2 ⟨P2, c2, rfl, hC2, b2⟩
  have HC2 := Lib.hid hC2
  have B2 := Lib.hid (E1.out.trans (b2.mono E1.out.size))
  clear hC2 b2
  go_wp2_with fail
  refine (REF.out Pl cl m 500 x2 (RL.out.keep (Keeps.of_below B2.out)) rfl).mono ?_
  rintro e y2 ⟨Q2, d2, rfl, hD2, b2⟩
  have HD2 := Lib.hid hD2
  have HC2' := Lib.hid (HC2.out.keep (Keeps.of_below b2))
  have C2 := Lib.hid (B2.out.trans (b2.mono B2.out.size))
  clear hD2 b2
  have hsm2 := SML.out 500 (by omega)
  obtain ⟨R2, hR2⟩ : ∃ R, R = (runsP 500 [] L).length := ⟨_, rfl⟩
  rw [← hR2] at HC2' HD2 hsm2 ⊢
  have HS2 := Lib.hid (rSameR_any P2 Q2 c2 d2 R2 (runsP 500 [] L) y2 HC2'.out HD2.out hR2 hsm2.2 (by omega))
  clear hR2 hsm2
  go_wp2_with fail
  refine HS2.out.mono ?_
  rintro e z2 ⟨rfl, b2⟩
  have E2 := Lib.hid (C2.out.trans (b2.mono C2.out.size))
  clear b2
  obtain ⟨rb, hrb⟩ : ∃ rb, rb = riseB L := ⟨_, rfl⟩
  have hkl : ∀ x ∈ L, x.key.length ≤ 1000000 := fun x hx => by have := (HLo.out x hx).1; omega
  have hs1 := sorted_any Pl cl m L z2 (RL.out.keep (Keeps.of_below E2.out)) HLm.out.symm (by omega) hkl
  rw [← hrb] at hs1
  have HS1' := Lib.hid hs1
  have HRB := Lib.hid hrb
  have HKL := Lib.hid hkl
  clear hs1 hrb hkl
  go_wp2_with fail
  refine HS1'.out.mono ?_
  rintro e z3 ⟨rfl, b3⟩
  have E3 := Lib.hid (E2.out.trans (b3.mono E2.out.size))
  clear b3
  have hs2 := rSorted_any Pl cl m L z3 (RL.out.keep (Keeps.of_below E3.out)) HLm.out.symm HKL.out (by omega)
  rw [← HRB.out] at hs2
  have HS2' := Lib.hid hs2
  clear hs2
  go_wp2_with fail
  refine HS2'.out.mono ?_
  rintro e z4 ⟨rfl, b4⟩
  have E4 := Lib.hid (Hb5.out.trans ((E3.out.trans (b4.mono E3.out.size)).mono Hb5.out.size))
  have drb : (rb == rb) = true := by simp
  clear b4
  go_wp2
  go_ret
  exact ⟨rfl, E4.out⟩
end Go.Proofs.YtaaciedelfaekaaDoor
