/- The law RunsMore. -/
import Derived.IntWalk
import Derived.Test.YtaaciedelfaekaaDoorKnow5
import Derived.Test.YtaaciedelfaekaaDoorMath5
import Derived.Test.YtaaciedelfaekaaDoorFactsH
import Derived.Test.YtaaciedelfaekaaDoorFactsLaw2
import Derived.Test.YtaaciedelfaekaaDoorMake
import Derived.Test.YtaaciedelfaekaaDoorSet
import Derived.Test.YtaaciedelfaekaaDoorIsRow
import Derived.Test.YtaaciedelfaekaaDoorRfacts
namespace Go.Proofs.YtaaciedelfaekaaDoor
open Go.RowKit
attribute [local go_sem] Oper.semAt_some
set_option maxRecDepth 100000 in
set_option maxHeartbeats 8000000 in
theorem runsMore_walk (a0 : Int) (a1 : Option Addr) (len1 cap1 : Nat) (z1 : List Int) (a2 : Int) (a3 : Option Addr) (len3 cap3 : Nat) (z3 : List Int) (a4 : Int) (a5 : Int) (w : World) (h0 : inK .i64 a0) (w1 : IsRow .i64 w a1 len1 cap1 z1) (h2 : inK .i64 a2) (w3 : IsRow .i64 w a3 len3 cap3 z3) (h4 : inK .i64 a4) (h5 : inK .i64 a5) :
    Calls Tryd.prog 10 #[.int .i64 a0, .slice a1 len1 cap1, .int .i64 a2, .slice a3 len3 cap3, .int .i64 a4, .int .i64 a5] w fun e w' => e = .returned (.bool true) ∧ Below w.heap.size w w' := by
  obtain ⟨n1, lc1, cm1⟩ := w1.nums
  obtain ⟨n3, lc3, cm3⟩ := w3.nums
  have HW := Lib.hid (fun (x n : Int) (W : World) (h : inK .i64 x) (e1 : 1 ≤ n) (e2 : n ≤ 100) => lwithin5 x n W h e1 (by omega))
  have N1 := Lib.hid n1
  have N3 := Lib.hid n3
  have HKn := Lib.hid (known5_any w)
  clear w1 w3 n1 n3
  go_enter Tryd.func10, Tryd.ntmps10
  go_wp2_with fail
  refine HKn.out.mono ?_
  rintro e w1 ⟨rfl, hb1⟩
  have Hb1 := Lib.hid hb1
  clear hb1 HKn
  go_wp2_with fail
  refine (Facts_res a0 a2 a1 a3 len1 cap1 len3 cap3 _ _ w1 (N1.out.keep (Keeps.of_below Hb1.out)) (N3.out.keep (Keeps.of_below Hb1.out)) (by omega) (by omega) h0 h2).mono ?_
  rintro e w2 ⟨A, c, D, d, C, q, mm, m, cs, l, rfl, hF⟩
  have F := Lib.hid hF
  obtain ⟨k1, k2, k3, k4⟩ : 1 ≤ q ∧ q ≤ 4 ∧ mm ≤ 2 ∧ m ≤ 40 := ⟨hF.q1, hF.q4, hF.m2, hF.m40⟩
  have hb2 : Below w.heap.size w w2 := Hb1.out.trans (hF.below.mono Hb1.out.size)
  have hb3 : Below w2.heap.size w2 (w2.alloc (.cells #[.slice A q c, .int .i64 mm] 25)) := (Below.refl _ _).alloc (Nat.le_refl _) _
  obtain ⟨s1, s2, s3⟩ := set_bd a4 q k1 k2
  have Hb2 := Lib.hid hb2
  have Hb3 := Lib.hid hb3
  clear hF hb2 hb3 N1 N3
  go_wp2_with fail
  refine (set_any A q c mm a4 _ k1 k2 h4).mono ?_
  rintro e w4 ⟨rfl, rfl⟩
  obtain ⟨sa, hsa⟩ : ∃ sa, sa = a4 % 2 ^ q := ⟨_, rfl⟩
  rw [← hsa] at s1 s2 s3 ⊢
  have HSA := Lib.hid hsa
  clear hsa
  have hb4 : Below w2.heap.size w2 ((w2.alloc (.cells #[.slice A q c, .int .i64 mm] 25)).alloc (.cells #[.slice A q c, .int .i64 mm] 25)) := Hb3.out.alloc Hb3.out.size _
  have HB4 := Lib.hid hb4
  clear hb4
  have os : Own 25 ((w2.alloc (.cells #[.slice A q c, .int .i64 mm] 25)).alloc (.cells #[.slice A q c, .int .i64 mm] 25)) w2.heap.size [.slice A q c, .int .i64 mm] := (Below.heap_alloc _ _ _ (by simp)).trans (heap_alloc_new w2 _)
  have OS := Lib.hid os
  clear os
  generalize (w2.alloc (.cells #[.slice A q c, .int .i64 mm] 25)).alloc (.cells #[.slice A q c, .int .i64 mm] 25) = w4 at HB4 OS ⊢
  have hl4 : ∀ r ∈ l, r.key.length = q ∧ r.m.length = mm := F.out.lens
  have HL4 := Lib.hid (fun r hr => (show r.key.length ≤ 4 ∧ r.m.length = mm from ⟨by rw [(hl4 r hr).1]; exact k2, (hl4 r hr).2⟩))
  have hmk := fun W (hW : Below w2.heap.size w2 W) => make_any D m d C sa l W (F.out.rows.below hW (Nat.le_refl _)) F.out.em k4 F.out.small (fun r hr => by have := hl4 r hr; omega) s1 s2
  obtain ⟨L, hL⟩ : ∃ L, L = l.map (ofC sa) := ⟨_, rfl⟩
  have hLm : L.length = m := by rw [hL, List.length_map, F.out.em]
  obtain ⟨dd, hdd⟩ : ∃ dd, dd = dimN sa q := ⟨_, rfl⟩
  have hdd4 : dd ≤ 4 := by rw [hdd]; exact Nat.le_trans (dimN_le sa q) k2
  have hLo : OkL dd mm L := by rw [hL, hdd]; exact ok_cells sa F.out.right hl4 F.out.c16
  rw [← hL] at hmk
  have HMK := Lib.hid hmk
  have HLo := Lib.hid hLo
  have HLm := Lib.hid hLm
  have HLL := Lib.hid hL
  have HFA := Lib.hid (fun (set : Int) (W : World) (hW : Below w2.heap.size w2 W) (e1 : 0 ≤ set) (e2 : set ≤ 15) => rFacts_any D m d C mm set l W (F.out.rows.below hW (Nat.le_refl _)) F.out.em k4 F.out.small HL4.out (by omega) e1 e2)
  have hLi : ∀ x ∈ L, inK .i64 x.cnt := by rw [hL]; exact ofC_cnt sa l
  have hL1 : ∀ x ∈ L, x.cnt = 1 := by rw [hL]; exact ofC_one sa l
  have HL1 := Lib.hid hL1
  have RUN := Lib.hid (fun (P : Option Addr) (c N k : Nat) (W : World) (hK : RowC W P N L) (hN : N = m) (g1 : 1 ≤ k) (g2 : k ≤ 1000) => runs_row P c N k dd mm L W hK (by omega) (by omega) hLo (by omega) (by omega) hLi g1 (by omega))
  have Hb24 := Lib.hid (Hb2.out.trans (HB4.out.mono Hb2.out.size))
  clear hl4 hL hLm hdd hLo hmk hLi hL1
  go_wp2_with fail
  refine (HMK.out w4 HB4.out).mono ?_
  rintro e w5 ⟨lv, us, rfl, hg, hb5⟩
  obtain ⟨Pl, cl, fl, -, -, -, hPl⟩ := hg.form
  have hul := hg.len
  rw [HLm.out] at hul
  rw [hul] at fl
  subst fl
  have RL := Lib.hid hg.rowC.1
  have HPL := Lib.hid hPl
  have HGL := Lib.hid hg
  have HB5 := Lib.hid (HB4.out.trans (hb5.mono HB4.out.size))
  have Hb5 := Lib.hid (Hb24.out.trans (hb5.mono Hb24.out.size))
  have Hb45 := Lib.hid hb5
  clear hul hg hb5 hPl
  obtain ⟨kk, hkk⟩ : ∃ kk : Nat, (kk : Int) = a5 % 12 := ⟨(a5 % 12).toNat, by omega⟩
  have hkkn : kk < 12 := by omega
  have Hkk := Lib.hid hkk
  clear hkk
  go_wp2_with fail
  refine (HW.out a5 12 w5 h5 (by omega) (by omega)).mono ?_
  rintro e w' ⟨rfl, hw'⟩
  subst hw'
  rw [← Hkk.out]
  obtain ⟨K, hK⟩ : ∃ K, K = kk + 1 := ⟨_, rfl⟩
  have hw1 : IntKind.i64.wrap (1 + (kk : Int)) = (K : Int) := by rw [IntWalk.i64_in _ (by omega), hK]; push_cast; omega
  have hKb : 1 ≤ K ∧ K ≤ 12 := by omega
  clear hK hkkn
  have o5 := OS.out.below Hb45.out OS.out.lt
  have b0 := o5.cell (i := 0) rfl
  have b1 := o5.cell (i := 1) rfl
  try dsimp only at b0 b1
  clear o5
  go_wp2_with fail
  refine (set_any A q c mm a4 _ k1 k2 h4).mono ?_
  rintro e w6 ⟨rfl, rfl⟩
  rw [← HSA.out]
  clear b0 b1
  have hb6 : Below w5.heap.size w5 (w5.alloc (.cells #[.slice A q c, .int .i64 mm] 25)) := (Below.refl _ _).alloc (Nat.le_refl _) _
  have Hb6 := Lib.hid hb6
  clear hb6
  generalize w5.alloc (.cells #[.slice A q c, .int .i64 mm] 25) = w6 at Hb6 ⊢
  obtain ⟨NG, hNG⟩ : ∃ NG, NG = (grpR L).length := ⟨_, rfl⟩
  obtain ⟨Js, hJs⟩ : ∃ Js, Js = runsP K [] L := ⟨_, rfl⟩
  obtain ⟨R, hR⟩ : ∃ R, R = Js.length := ⟨_, rfl⟩
  obtain ⟨NT, hNT⟩ : ∃ NT, NT = Js.flatten.length := ⟨_, rfl⟩
  have hge : NG ≤ NT := by rw [hNG, hNT, hJs]; exact runs_ge K L
  have hle : NT ≤ m := by
    have := runs_len (m := K) L []
    rw [← hJs, ← hNT, HLm.out] at this
    simpa using this
  have hfew : NG ≤ K → R ≤ 1 := fun h => by rw [hR, hJs]; exact runs_few L (by omega)
  have htwo : K < NG → 2 ≤ R := fun h => by rw [hR, hJs]; exact runs_two hKb.1 L (by omega)
  have hRm : R ≤ 40 := by rw [hR, hJs]; have := runs_num hKb.1 L; have := HLm.out; omega
  have HNG := Lib.hid hNG
  have HJs := Lib.hid hJs
  have HNT := Lib.hid hNT
  have HR := Lib.hid hR
  clear hNG hJs hNT hR
  go_wp2_with fail
  refine (HFA.out sa w6 (HB5.out.trans (Hb6.out.mono HB5.out.size)) s1 s2).mono ?_
  rintro e w7 ⟨vf, uf, rfl, gf, bf⟩
  rw [← HLL.out] at gf
  obtain ⟨Pf, cf, ff, -⟩ := gf.form
  have lf : uf.length = NG := by rw [gf.len, HNG.out]
  rw [lf] at ff
  subst ff
  have B57 := Lib.hid (Hb6.out.trans (bf.mono Hb6.out.size))
  clear gf bf lf
  go_wp2_with fail
  have hr := RUN.out Pl cl m K w7 (RL.out.keep (Keeps.of_below B57.out)) rfl hKb.1 (by omega)
  rw [← HJs.out, ← HR.out] at hr
  refine hr.mono ?_
  clear hr
  rintro e w8 ⟨P8, c8, rfl, hC8, b8⟩
  have HC8 := Lib.hid hC8
  have HB8 := Lib.hid (Hb5.out.trans ((B57.out.trans (b8.mono B57.out.size)).mono Hb5.out.size))
  clear hC8 b8
  go_wp2_with fail
  go_loopw [17, 20] (fun s17 s20 wr => ∃ i n : Nat, s17 = .int .i64 n ∧ s20 = .int .i64 i ∧ i ≤ R ∧ n = (upTo Js i).length ∧ Below w8.heap.size w8 wr) (fun _ s20 _ => R - (intOf s20).toNat)
  case atStart => exact ⟨0, 0, rfl, rfl, Nat.zero_le _, rfl, Below.refl _ _⟩
  case round =>
    obtain ⟨i, n, rfl, rfl, hi, hn, hb⟩ := hrel
    rename World => wr
    have Hn := Lib.hid hn
    have Hbr := Lib.hid hb
    clear hn hb
    by_cases hlt : i < R
    · have d1 : decide ((i : Int) < (R : Int)) = true := decide_eq_true (by omega)
      obtain ⟨ad, rfl, hc⟩ := HC8.out.keep (Keeps.of_below Hbr.out) (by omega)
      obtain ⟨J, hJ⟩ : ∃ J, Js[i]? = some J := ⟨_, List.getElem?_eq_getElem (by rw [← HR.out]; exact hlt)⟩
      obtain ⟨Pi, ci, a0, -⟩ := hc i J hJ
      obtain ⟨j, hj⟩ : ∃ j, j = J.length := ⟨_, rfl⟩
      rw [← hj] at a0
      have hup : n + j = (upTo Js (i + 1)).length := by rw [upTo_next hJ, List.length_append, ← Hn.out, hj]
      have hbd : n + j ≤ NT := by
        obtain ⟨r, hr⟩ := @upTo_app Js (i + 1)
        rw [HNT.out, hr, hup, List.length_append]
        omega
      have HU := Lib.hid hup
      have hwn : IntKind.i64.wrap ((n : Int) + (j : Int)) = ((n + j : Nat) : Int) := by rw [IntWalk.i64_in _ (by omega)]; push_cast; rfl
      have i0 : (0 : Int) ≤ (i : Int) := by omega
      have i1 : (i : Int) < (R : Int) := by omega
      clear hc hJ hj hup
      go_wp2
      go_roundw
      case rel => exact ⟨i + 1, n + j, by go_num, by go_num, by omega, HU.out, Hbr.out⟩
      case measure => simp [intOf]; omega
    · obtain rfl : i = R := by omega
      have d1 : decide ((i : Int) < (i : Int)) = false := by simp
      have hnn : n = NT := by rw [Hn.out, HNT.out, HR.out, upTo_all]
      subst hnn
      have dg : decide ((NG : Int) ≤ (n : Int)) = true := decide_eq_true (by omega)
      have dg2 : decide (NG ≤ n) = true := decide_eq_true hge
      have dm : decide ((n : Int) ≤ (m : Int)) = true := decide_eq_true (by omega)
      have dm2 : decide (n ≤ m) = true := decide_eq_true hle
      by_cases hc : NG ≤ K
      · have hR1 := hfew hc
        have e1 : decide ((K : Int) < (NG : Int)) = false := decide_eq_false (by omega)
        have e2 : decide (K < NG) = false := decide_eq_false (by omega)
        have e3 : decide ((i : Int) ≤ 1) = true := decide_eq_true (by omega)
        have e4 : decide (i ≤ 1) = true := decide_eq_true hR1
        have e5 : decide ((NG : Int) ≤ (K : Int)) = true := decide_eq_true (by omega)
        have e6 : decide (NG ≤ K) = true := decide_eq_true hc
        clear hfew htwo hc hR1 hge hle
        go_wp2
        go_ret
        exact ⟨rfl, HB8.out.trans (Hbr.out.mono HB8.out.size)⟩
      · have hR2 := htwo (by omega)
        have e1 : decide ((K : Int) < (NG : Int)) = true := decide_eq_true (by omega)
        have e2 : decide (K < NG) = true := decide_eq_true (by omega)
        have e3 : decide ((2 : Int) ≤ (i : Int)) = true := decide_eq_true (by omega)
        have e4 : decide (2 ≤ i) = true := decide_eq_true hR2
        have e5 : decide ((NG : Int) ≤ (K : Int)) = false := decide_eq_false (by omega)
        have e6 : decide (NG ≤ K) = false := decide_eq_false (by omega)
        clear hfew htwo hc hR2 hge hle
        go_wp2
        go_ret
        exact ⟨rfl, HB8.out.trans (Hbr.out.mono HB8.out.size)⟩
end Go.Proofs.YtaaciedelfaekaaDoor
