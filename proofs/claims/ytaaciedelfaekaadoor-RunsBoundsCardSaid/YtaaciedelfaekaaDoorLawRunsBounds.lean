/- The law RunsBounds. -/
import Derived.IntWalk
import Derived.Test.YtaaciedelfaekaaDoorKnow5
import Derived.Test.YtaaciedelfaekaaDoorMath5
import Derived.Test.YtaaciedelfaekaaDoorFactsH
import Derived.Test.YtaaciedelfaekaaDoorFactsLaw2
import Derived.Test.YtaaciedelfaekaaDoorMake
import Derived.Test.YtaaciedelfaekaaDoorSet
import Derived.Test.YtaaciedelfaekaaDoorIsRow
import Derived.Test.YtaaciedelfaekaaDoorRfacts
import Derived.Test.YtaaciedelfaekaaDoorOk5
namespace Go.Proofs.YtaaciedelfaekaaDoor
open Go.RowKit
attribute [local go_sem] Oper.semAt_some
set_option maxRecDepth 100000 in
set_option maxHeartbeats 8000000 in
theorem runsBounds_walk (a0 : Int) (a1 : Option Addr) (len1 cap1 : Nat) (z1 : List Int) (a2 : Int) (a3 : Option Addr) (len3 cap3 : Nat) (z3 : List Int) (a4 : Int) (a5 : Int) (w : World) (h0 : inK .i64 a0) (w1 : IsRow .i64 w a1 len1 cap1 z1) (h2 : inK .i64 a2) (w3 : IsRow .i64 w a3 len3 cap3 z3) (h4 : inK .i64 a4) (h5 : inK .i64 a5) :
    Calls Tryd.prog 4 #[.int .i64 a0, .slice a1 len1 cap1, .int .i64 a2, .slice a3 len3 cap3, .int .i64 a4, .int .i64 a5] w fun e w' => e = .returned (.bool true) ∧ Below w.heap.size w w' := by
  obtain ⟨n1, lc1, cm1⟩ := w1.nums
  obtain ⟨n3, lc3, cm3⟩ := w3.nums
  have HW := Lib.hid (fun (x n : Int) (W : World) (h : inK .i64 x) (e1 : 1 ≤ n) (e2 : n ≤ 100) => lwithin5 x n W h e1 (by omega))
  have N1 := Lib.hid n1
  have N3 := Lib.hid n3
  have HKn := Lib.hid (known5_any w)
  clear w1 w3 n1 n3
  go_enter Tryd.func4, Tryd.ntmps4
  go_wp2_with fail
  refine HKn.out.mono ?_
  rintro e w1 ⟨rfl, hb1⟩
  have Hb1 := Lib.hid hb1
  clear hb1 HKn
  go_wp2_with fail
  refine (Facts_res a0 a2 a1 a3 len1 cap1 len3 cap3 _ _ w1 (N1.out.keep (Keeps.of_below Hb1.out)) (N3.out.keep (Keeps.of_below Hb1.out)) (by omega) (by omega) h0 h2).mono ?_
  rintro e w2 ⟨A, c, D, d, C, q, mm, m, cs, l, rfl, hF⟩
  have F := Lib.hid hF
  obtain ⟨k1, k2, k3, k4⟩ : 1 ≤ q ∧ q ≤ 4 ∧ mm ≤ 2 ∧ m ≤ 40 := ⟨hF.q1, hF.q4, hF.m2, hF.m40⟩
  have hb2 : Below w.heap.size w w2 := Hb1.out.trans (hF.below.mono Hb1.out.size)
  have hb3 : Below w2.heap.size w2 (w2.alloc (.cells #[.slice A q c, .int .i64 mm] 25)) := (Below.refl _ _).alloc (Nat.le_refl _) _
  obtain ⟨s1, s2, s3⟩ := set_bd a4 q k1 k2
  have Hb2 := Lib.hid hb2
  have Hb3 := Lib.hid hb3
  clear hF hb2 hb3 N1 N3
  obtain ⟨kk, hkk⟩ : ∃ kk : Nat, (kk : Int) = a5 % 12 := ⟨(a5 % 12).toNat, by omega⟩
  have hkkn : kk < 12 := by omega
  have Hkk := Lib.hid hkk
  clear hkk
  go_wp2_with fail
  refine (HW.out a5 12 _ h5 (by omega) (by omega)).mono ?_
  rintro e w' ⟨rfl, hw'⟩
  subst hw'
  rw [← Hkk.out]
  obtain ⟨K, hK⟩ : ∃ K, K = kk + 1 := ⟨_, rfl⟩
  have hw1 : IntKind.i64.wrap (1 + (kk : Int)) = (K : Int) := by rw [IntWalk.i64_in _ (by omega), hK]; push_cast; omega
  have hKb : 1 ≤ K ∧ K ≤ 12 := by omega
  clear hK hkkn
  go_wp2_with fail
  refine (set_any A q c mm a4 _ k1 k2 h4).mono ?_
  rintro e w4 ⟨rfl, rfl⟩
  obtain ⟨sa, hsa⟩ : ∃ sa, sa = a4 % 2 ^ q := ⟨_, rfl⟩
  rw [← hsa] at s1 s2 s3 ⊢
  have HSA := Lib.hid hsa
  clear hsa
  have hb4 : Below w2.heap.size w2 ((w2.alloc (.cells #[.slice A q c, .int .i64 mm] 25)).alloc (.cells #[.slice A q c, .int .i64 mm] 25)) := Hb3.out.alloc Hb3.out.size _
  have HB4 := Lib.hid hb4
  clear hb4
  have os : Own 25 ((w2.alloc (.cells #[.slice A q c, .int .i64 mm] 25)).alloc (.cells #[.slice A q c, .int .i64 mm] 25)) w2.heap.size [.slice A q c, .int .i64 mm] := (Below.heap_alloc _ _ _ (by simp)).trans (heap_alloc_new w2 _)
  have OS := Lib.hid os
  clear os
  generalize (w2.alloc (.cells #[.slice A q c, .int .i64 mm] 25)).alloc (.cells #[.slice A q c, .int .i64 mm] 25) = w4 at HB4 OS ⊢
  have hl4 : ∀ r ∈ l, r.key.length = q ∧ r.m.length = mm := F.out.lens
  have HL4 := Lib.hid (fun r hr => (show r.key.length ≤ 4 ∧ r.m.length = mm from ⟨by rw [(hl4 r hr).1]; exact k2, (hl4 r hr).2⟩))
  have hmk := fun W (hW : Below w2.heap.size w2 W) => make_any D m d C sa l W (F.out.rows.below hW (Nat.le_refl _)) F.out.em k4 F.out.small (fun r hr => by have := hl4 r hr; omega) s1 s2
  obtain ⟨L, hL⟩ : ∃ L, L = l.map (ofC sa) := ⟨_, rfl⟩
  have hLm : L.length = m := by rw [hL, List.length_map, F.out.em]
  obtain ⟨dd, hdd⟩ : ∃ dd, dd = dimN sa q := ⟨_, rfl⟩
  have hdd4 : dd ≤ 4 := by rw [hdd]; exact Nat.le_trans (dimN_le sa q) k2
  have hLo : OkL dd mm L := by rw [hL, hdd]; exact ok_cells sa F.out.right hl4 F.out.c16
  rw [← hL] at hmk
  have HMK := Lib.hid hmk
  have HLo := Lib.hid hLo
  have HLm := Lib.hid hLm
  have HLL := Lib.hid hL
  have HFA := Lib.hid (fun (set : Int) (W : World) (hW : Below w2.heap.size w2 W) (e1 : 0 ≤ set) (e2 : set ≤ 15) => rFacts_any D m d C mm set l W (F.out.rows.below hW (Nat.le_refl _)) F.out.em k4 F.out.small HL4.out (by omega) e1 e2)
  have hLi : ∀ x ∈ L, inK .i64 x.cnt := by rw [hL]; exact ofC_cnt sa l
  have hL1 : ∀ x ∈ L, x.cnt = 1 := by rw [hL]; exact ofC_one sa l
  have HL1 := Lib.hid hL1
  have RUN := Lib.hid (fun (P : Option Addr) (c N k : Nat) (W : World) (hK : RowC W P N L) (hN : N = m) (g1 : 1 ≤ k) (g2 : k ≤ 1000) => runs_row P c N k dd mm L W hK (by omega) (by omega) hLo (by omega) (by omega) hLi g1 (by omega))
  have Hb24 := Lib.hid (Hb2.out.trans (HB4.out.mono Hb2.out.size))
  clear hl4 hL hLm hdd hLo hmk hLi hL1
  go_wp2_with fail
  refine (HMK.out w4 HB4.out).mono ?_
  rintro e w5 ⟨lv, us, rfl, hg, hb5⟩
  obtain ⟨Pl, cl, fl, -, -, -, hPl⟩ := hg.form
  have hul := hg.len
  rw [HLm.out] at hul
  rw [hul] at fl
  subst fl
  have RL := Lib.hid hg.rowC.1
  have HPL := Lib.hid hPl
  have HGL := Lib.hid hg
  have HB5 := Lib.hid (HB4.out.trans (hb5.mono HB4.out.size))
  have Hb5 := Lib.hid (Hb24.out.trans (hb5.mono Hb24.out.size))
  have Hb45 := Lib.hid hb5
  clear hul hg hb5 hPl
  obtain ⟨Js, hJs⟩ : ∃ Js, Js = runsP K [] L := ⟨_, rfl⟩
  obtain ⟨R, hR⟩ : ∃ R, R = Js.length := ⟨_, rfl⟩
  have hRm : R ≤ 40 := by rw [hR, hJs]; have := runs_num hKb.1 L; have := HLm.out; omega
  have hEA : ∀ J ∈ Js, riseB J = true ∧ 1 ≤ J.length ∧ J.length ≤ K := fun J hJ => by
    have h1 := runs_each hKb.1 L [] (by simp [RiseC]) (by simp) J (hJs ▸ hJ)
    exact ⟨rise_prs h1.1, h1.2⟩
  have hFU : ∀ (i : Nat) J, Js[i]? = some J → i + 1 < R → J.length = K := fun i J hJ hi => runs_full hKb.1 L [] i J (hJs ▸ hJ) (by rw [← hJs, ← hR]; exact hi)
  have hok : ∀ J ∈ Js, OkL dd mm J := fun J hJ x hx => runs_ok (m := K) L [] HLo.out (fun y hy => absurd hy List.not_mem_nil) x (by rw [← hJs]; exact List.mem_flatten.2 ⟨J, hJ, hx⟩)
  have HEA := Lib.hid hEA
  have HFU := Lib.hid hFU
  have HOK := Lib.hid hok
  have HJs := Lib.hid hJs
  have HR := Lib.hid hR
  clear hEA hFU hJs hR hok
  go_wp2_with fail
  have hr := RUN.out Pl cl m K w5 RL.out rfl hKb.1 (by omega)
  rw [← HJs.out, ← HR.out] at hr
  refine hr.mono ?_
  clear hr
  rintro e w8 ⟨P8, c8, rfl, hC8, b8⟩
  have HC8 := Lib.hid hC8
  have HB8 := Lib.hid (Hb5.out.trans (b8.mono Hb5.out.size))
  clear hC8 b8
  go_wp2_with fail
  go_loopw [17] (fun s17 wr => ∃ (i : Nat), s17 = .int .i64 i ∧ i ≤ R ∧ Below w8.heap.size w8 wr) (fun s17 _ => R - (intOf s17).toNat)
  case atStart => exact ⟨0, rfl, Nat.zero_le _, Below.refl _ _⟩
  case round =>
    obtain ⟨i, rfl, hi, hb⟩ := hrel
    rename World => wr
    have Hbr := Lib.hid hb
    clear hb
    by_cases hlt : i < R
    · have d1 : decide ((i : Int) < (R : Int)) = true := decide_eq_true (by omega)
      obtain ⟨ad, rfl, hc⟩ := HC8.out.keep (Keeps.of_below Hbr.out) (by omega)
      obtain ⟨J, hJ⟩ : ∃ J, Js[i]? = some J := ⟨_, List.getElem?_eq_getElem (by rw [← HR.out]; exact hlt)⟩
      obtain ⟨Pi, ci, a0, hrow, -⟩ := hc i J hJ
      obtain ⟨hri, hj1, hjK⟩ := HEA.out J (List.mem_of_getElem? hJ)
      have hfu := HFU.out i J hJ
      have hok := HOK.out J (List.mem_of_getElem? hJ)
      obtain ⟨j, hj⟩ : ∃ j, j = J.length := ⟨_, rfl⟩
      rw [← hj] at a0 hrow hj1 hjK hfu
      have hs := sorted_any Pi ci j J wr hrow hj (by omega) (fun x hx => by have := (hok x hx).1; have := hdd4; omega)
      rw [hri] at hs
      have HS := Lib.hid hs
      obtain ⟨R1, hR1⟩ : ∃ R1, R = R1 + 1 := ⟨R - 1, by omega⟩
      have hsub : (R : Int) - 1 = (R1 : Int) := by rw [hR1]; push_cast; omega
      have hwR : IntKind.i64.wrap (R1 : Int) = (R1 : Int) := IntWalk.i64_in _ (by omega)
      have e1 : decide ((j : Int) < 1) = false := decide_eq_false (by omega)
      have e2 : decide (j < 1) = false := decide_eq_false (by omega)
      have e3 : decide ((K : Int) < (j : Int)) = false := decide_eq_false (by omega)
      have e4 : decide (K < j) = false := decide_eq_false (by omega)
      have i0 : (0 : Int) ≤ (i : Int) := by omega
      have i1 : (i : Int) < (R : Int) := by omega
      have HR1 := Lib.hid hR1
      clear hc hJ hj hrow hri hs hok hR1
      have FIN : ∀ (w9 : World), Below wr.heap.size wr w9 → Below w8.heap.size w8 w9 := fun w9 h9 => Hbr.out.trans (h9.mono Hbr.out.size)
      have FIN := Lib.hid FIN
      by_cases hlast : i < R1
      · have e5 : decide ((i : Int) < (R1 : Int)) = true := decide_eq_true (by omega)
        have e6 : decide (i < R1) = true := decide_eq_true hlast
        have hjk : j = K := hfu (by have := HR1.out; omega)
        have e7 : ((j : Int) != (K : Int)) = false := by rw [hjk]; simp
        have e8 : (j != K) = false := by rw [hjk]; simp
        clear hlast hjk hfu
        go_wp2_with fail
        refine HS.out.mono ?_
        rintro e w9 ⟨rfl, hb9⟩
        have HB9 := Lib.hid (FIN.out w9 hb9)
        clear hb9
        go_wp2
        go_roundw
        case rel => exact ⟨i + 1, by go_num, by omega, HB9.out⟩
        case measure => simp [intOf]; omega
      · have e5 : decide ((i : Int) < (R1 : Int)) = false := decide_eq_false (by omega)
        have e6 : decide (i < R1) = false := decide_eq_false hlast
        clear hlast hfu
        go_wp2_with fail
        refine HS.out.mono ?_
        rintro e w9 ⟨rfl, hb9⟩
        have HB9 := Lib.hid (FIN.out w9 hb9)
        clear hb9
        go_wp2
        go_roundw
        case rel => exact ⟨i + 1, by go_num, by omega, HB9.out⟩
        case measure => simp [intOf]; omega
    · obtain rfl : i = R := by omega
      have d1 : decide ((i : Int) < (i : Int)) = false := by simp
      go_wp2
      go_ret
      exact ⟨rfl, HB8.out.trans (Hbr.out.mono HB8.out.size)⟩
end Go.Proofs.YtaaciedelfaekaaDoor
