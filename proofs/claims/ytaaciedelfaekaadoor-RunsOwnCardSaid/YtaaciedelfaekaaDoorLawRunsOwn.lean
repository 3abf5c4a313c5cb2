/- The law RunsOwn. -/
import Derived.IntWalk
import Derived.Test.YtaaciedelfaekaaDoorKnow5
import Derived.Test.YtaaciedelfaekaaDoorMath5
import Derived.Test.YtaaciedelfaekaaDoorFactsH
import Derived.Test.YtaaciedelfaekaaDoorFactsLaw2
import Derived.Test.YtaaciedelfaekaaDoorMake
import Derived.Test.YtaaciedelfaekaaDoorSet
import Derived.Test.YtaaciedelfaekaaDoorIsRow
import Derived.Test.YtaaciedelfaekaaDoorRfacts
import Derived.Test.YtaaciedelfaekaaDoorRrow5
import Derived.Test.YtaaciedelfaekaaDoorShp5
namespace Go.Proofs.YtaaciedelfaekaaDoor
open Go.RowKit
attribute [local go_sem] Oper.semAt_some
set_option maxRecDepth 100000 in
set_option maxHeartbeats 8000000 in
theorem runsOwn_walk (a0 : Int) (a1 : Option Addr) (len1 cap1 : Nat) (z1 : List Int) (a2 : Int) (a3 : Option Addr) (len3 cap3 : Nat) (z3 : List Int) (a4 : Int) (a5 : Int) (w : World) (h0 : inK .i64 a0) (w1 : IsRow .i64 w a1 len1 cap1 z1) (h2 : inK .i64 a2) (w3 : IsRow .i64 w a3 len3 cap3 z3) (h4 : inK .i64 a4) (_h5 : inK .i64 a5) :
    Calls Tryd.prog 8 #[.int .i64 a0, .slice a1 len1 cap1, .int .i64 a2, .slice a3 len3 cap3, .int .i64 a4, .int .i64 a5] w fun e w' => e = .returned (.bool true) ∧ Below w.heap.size w w' := by
  obtain ⟨n1, lc1, cm1⟩ := w1.nums
  obtain ⟨n3, lc3, cm3⟩ := w3.nums
  have N1 := Lib.hid n1
  have N3 := Lib.hid n3
  have HKn := Lib.hid (known5_any w)
  clear w1 w3 n1 n3
  go_enter Tryd.func8, Tryd.ntmps8
  go_wp2_with fail
  refine HKn.out.mono ?_
  rintro e w1 ⟨rfl, hb1⟩
  have Hb1 := Lib.hid hb1
  clear hb1 HKn
  go_wp2_with fail
  refine (Facts_res a0 a2 a1 a3 len1 cap1 len3 cap3 _ _ w1 (N1.out.keep (Keeps.of_below Hb1.out)) (N3.out.keep (Keeps.of_below Hb1.out)) (by omega) (by omega) h0 h2).mono ?_
  rintro e w2 ⟨A, c, D, d, C, q, mm, m, cs, l, rfl, hF⟩
  have F := Lib.hid hF
  obtain ⟨k1, k2, k3, k4⟩ : 1 ≤ q ∧ q ≤ 4 ∧ mm ≤ 2 ∧ m ≤ 40 := ⟨hF.q1, hF.q4, hF.m2, hF.m40⟩
  have hb2 : Below w.heap.size w w2 := Hb1.out.trans (hF.below.mono Hb1.out.size)
  have hb3 : Below w2.heap.size w2 (w2.alloc (.cells #[.slice A q c, .int .i64 mm] 25)) := (Below.refl _ _).alloc (Nat.le_refl _) _
  obtain ⟨s1, s2, s3⟩ := set_bd a4 q k1 k2
  have Hb2 := Lib.hid hb2
  have Hb3 := Lib.hid hb3
  clear hF hb2 hb3 N1 N3
  go_wp2_with fail
  refine (set_any A q c mm a4 _ k1 k2 h4).mono ?_
  rintro e w4 ⟨rfl, rfl⟩
  obtain ⟨sa, hsa⟩ : ∃ sa, sa = a4 % 2 ^ q := ⟨_, rfl⟩
  rw [← hsa] at s1 s2 s3 ⊢
  have HSA := Lib.hid hsa
  clear hsa
  have hb4 : Below w2.heap.size w2 ((w2.alloc (.cells #[.slice A q c, .int .i64 mm] 25)).alloc (.cells #[.slice A q c, .int .i64 mm] 25)) := Hb3.out.alloc Hb3.out.size _
  have HB4 := Lib.hid hb4
  clear hb4
  have os : Own 25 ((w2.alloc (.cells #[.slice A q c, .int .i64 mm] 25)).alloc (.cells #[.slice A q c, .int .i64 mm] 25)) w2.heap.size [.slice A q c, .int .i64 mm] := (Below.heap_alloc _ _ _ (by simp)).trans (heap_alloc_new w2 _)
  have OS := Lib.hid os
  clear os
  generalize (w2.alloc (.cells #[.slice A q c, .int .i64 mm] 25)).alloc (.cells #[.slice A q c, .int .i64 mm] 25) = w4 at HB4 OS ⊢
  have hl4 : ∀ r ∈ l, r.key.length = q ∧ r.m.length = mm := F.out.lens
  have HL4 := Lib.hid (fun r hr => (show r.key.length ≤ 4 ∧ r.m.length = mm from ⟨by rw [(hl4 r hr).1]; exact k2, (hl4 r hr).2⟩))
  have hmk := fun W (hW : Below w2.heap.size w2 W) => make_any D m d C sa l W (F.out.rows.below hW (Nat.le_refl _)) F.out.em k4 F.out.small (fun r hr => by have := hl4 r hr; omega) s1 s2
  obtain ⟨L, hL⟩ : ∃ L, L = l.map (ofC sa) := ⟨_, rfl⟩
  have hLm : L.length = m := by rw [hL, List.length_map, F.out.em]
  obtain ⟨dd, hdd⟩ : ∃ dd, dd = dimN sa q := ⟨_, rfl⟩
  have hdd4 : dd ≤ 4 := by rw [hdd]; exact Nat.le_trans (dimN_le sa q) k2
  have hLo : OkL dd mm L := by rw [hL, hdd]; exact ok_cells sa F.out.right hl4 F.out.c16
  rw [← hL] at hmk
  have HMK := Lib.hid hmk
  have HLo := Lib.hid hLo
  have HLm := Lib.hid hLm
  have HLL := Lib.hid hL
  have HFA := Lib.hid (fun (set : Int) (W : World) (hW : Below w2.heap.size w2 W) (e1 : 0 ≤ set) (e2 : set ≤ 15) => rFacts_any D m d C mm set l W (F.out.rows.below hW (Nat.le_refl _)) F.out.em k4 F.out.small HL4.out (by omega) e1 e2)
  have hLi : ∀ x ∈ L, inK .i64 x.cnt := by rw [hL]; exact ofC_cnt sa l
  have hL1 : ∀ x ∈ L, x.cnt = 1 := by rw [hL]; exact ofC_one sa l
  have HL1 := Lib.hid hL1
  have REF := Lib.hid (fun (P : Option Addr) (c N k : Nat) (W : World) (hK : RowC W P N L) (hN : N = m) => rruns_row P c N k dd mm L W hK (by omega) (by omega) hLo (by omega) (by omega))
  have SML := Lib.hid (fun (k : Nat) (hk : 1 ≤ k) => runs_small (m := k) hk hLo (by omega) (by omega) (by omega))
  have RAW := Lib.hid (fun (P : Option Addr) (c N : Nat) (W : World) (hK : RowC W P N L) (hN : N = m) => runs_any P c N 3 mm L W hK (by omega) (by omega) (okL_good hLo (by omega) hLi) k3 (by omega) (by omega))
  have RUN := Lib.hid (fun (P : Option Addr) (c N k : Nat) (W : World) (hK : RowC W P N L) (hN : N = m) (g1 : 1 ≤ k) (g2 : k ≤ 1000) => runs_row P c N k dd mm L W hK (by omega) (by omega) hLo (by omega) (by omega) hLi g1 (by omega))
  have Hb24 := Lib.hid (Hb2.out.trans (HB4.out.mono Hb2.out.size))
  clear hl4 hL hLm hdd hLo hmk hLi hL1
  go_wp2_with fail
  refine (HMK.out w4 HB4.out).mono ?_
  rintro e w5 ⟨lv, us, rfl, hg, hb5⟩
  obtain ⟨Pl, cl, fl, -, -, -, hPl⟩ := hg.form
  have hul := hg.len
  rw [HLm.out] at hul
  rw [hul] at fl
  subst fl
  have RL := Lib.hid hg.rowC.1
  have HPL := Lib.hid hPl
  have HGL := Lib.hid hg
  have HB5 := Lib.hid (HB4.out.trans (hb5.mono HB4.out.size))
  have Hb5 := Lib.hid (Hb24.out.trans (hb5.mono Hb24.out.size))
  have Hb45 := Lib.hid hb5
  clear hul hg hb5 hPl
  go_wp2_with fail
  refine (HMK.out w5 HB5.out).mono ?_
  rintro e w6 ⟨mv, um, rfl, hgm, hb6⟩
  obtain ⟨Pm, cm, fm, -⟩ := hgm.form
  have hum := hgm.len
  rw [HLm.out] at hum
  rw [hum] at fm
  subst fm
  have RM := Lib.hid hgm.rowC.1
  have RL6 := Lib.hid (RL.out.keep (Keeps.of_below hb6))
  have Hb6 := Lib.hid (Hb5.out.trans (hb6.mono Hb5.out.size))
  clear hum hgm hb6
  obtain ⟨Js, hJs⟩ : ∃ Js, Js = runsP 3 [] L := ⟨_, rfl⟩
  obtain ⟨R, hR⟩ : ∃ R, R = Js.length := ⟨_, rfl⟩
  have hRm : R ≤ 40 := by rw [hR, hJs]; have := runs_num (m := 3) (by omega) L; have := HLm.out; omega
  have hEA : ∀ J ∈ Js, 1 ≤ J.length ∧ J.length ≤ 3 := fun J hJ => (runs_each (m := 3) (by omega) L [] (by simp [RiseC]) (by simp) J (hJs ▸ hJ)).2
  have hEV : ∀ J ∈ Js, ∀ x ∈ J, EvenC mm x := fun J hJ x hx => (runs_ok (m := 3) L [] HLo.out (fun y hy => absurd hy List.not_mem_nil) x (by rw [← hJs]; exact List.mem_flatten.2 ⟨J, hJ, hx⟩)).2.2
  have HEA := Lib.hid hEA
  have HEV := Lib.hid hEV
  have HJs := Lib.hid hJs
  have HR := Lib.hid hR
  clear hEA hEV hJs hR
  go_wp2_with fail
  have hr := RAW.out Pl cl m w6 RL6.out rfl
  rw [← HJs.out] at hr
  refine hr.mono ?_
  clear hr
  rintro e w8 ⟨v8, gs, rfl, hZ, b8⟩
  obtain ⟨P8, c8, f8, -, -, hC8, -⟩ := hZ.form
  rw [← HR.out] at f8 hC8
  subst f8
  have hACC : ∀ (i : Nat) (J : List Cel), Js[i]? = some J → ∃ p : Value × List V5, gs[i]? = some p ∧ GRs w6.heap.size w8 p.1 p.2 J := fun i J hJ => by
    obtain ⟨p, hp⟩ : ∃ p, gs[i]? = some p := ⟨_, List.getElem?_eq_getElem (by rw [hZ.2.1]; exact (List.getElem?_eq_some_iff.1 hJ).1)⟩
    exact ⟨p, hp, hZ.2.2 i p J hp hJ⟩
  have hOUT : 0 < R → ∃ ad, P8 = some ad ∧ ∀ (i : Nat) (p : Value × List V5), gs[i]? = some p → w8.cell? (ad.add i) = some p.1 := fun hR0 => by
    obtain ⟨Pq, cq, eq, -, -, hq⟩ := own_form hZ.1
    dsimp only at eq hq
    obtain ⟨g, rfl, -, hc⟩ := hq (by have := hZ.2.1; dsimp only at this; rw [this, ← HR.out]; exact hR0)
    injection eq with eq _ _
    exact ⟨_, eq, fun i p hp => by rw [add0]; exact hc i p.1 (by rw [List.getElem?_map, hp]; rfl)⟩
  have HACC := Lib.hid hACC
  have HOUT := Lib.hid hOUT
  have RL8 := Lib.hid (RL6.out.keep (Keeps.of_below b8))
  have RM8 := Lib.hid (RM.out.keep (Keeps.of_below b8))
  have Hb8 := Lib.hid (Hb6.out.trans (b8.mono Hb6.out.size))
  have B68 := Lib.hid b8
  clear hZ hC8 hACC hOUT b8
  go_upto_block 0 with (fail)
  go_cut [] (fun wx => Shp w6.heap.size w8 wx)
  case first =>
    go_wp2_with fail
    go_loopw [19] (fun s19 wr => ∃ (i : Nat), s19 = .int .i64 i ∧ i ≤ R ∧ Shp w6.heap.size w8 wr) (fun s19 _ => R - (intOf s19).toNat)
    case atStart => exact ⟨0, rfl, Nat.zero_le _, Shp.refl _ _⟩
    case round =>
      obtain ⟨i, rfl, hi, hs⟩ := hrel
      rename World => wr
      have HS := Lib.hid hs
      clear hs
      by_cases hlt : i < R
      · have d1 : decide ((i : Int) < (R : Int)) = true := decide_eq_true (by omega)
        obtain ⟨J, hJ⟩ : ∃ J, Js[i]? = some J := ⟨_, List.getElem?_eq_getElem (by rw [← HR.out]; exact hlt)⟩
        obtain ⟨p, hp, hG⟩ := HACC.out i J hJ
        obtain ⟨ad, rfl, hout⟩ := HOUT.out (by omega)
        obtain ⟨hj1, hj3⟩ := HEA.out J (List.mem_of_getElem? hJ)
        obtain ⟨g, c, hpv, hgB, hacc⟩ := hG.accs hj1 (HEV.out J (List.mem_of_getElem? hJ))
        obtain ⟨n, hn⟩ : ∃ n, n = J.length := ⟨_, rfl⟩
        rw [← hn] at hpv hacc hj1 hj3
        have a8 := hout i p hp
        rw [hpv] at a8
        have HA8 := Lib.hid (fun (W : World) (hW : Shp w6.heap.size w8 W) => hW.same _ _ a8 slice_nint)
        have HAC := Lib.hid hacc
        have i0 : (0 : Int) ≤ (i : Int) := by omega
        have i1 : (i : Int) < (R : Int) := by omega
        clear hJ hp hG hout hpv hacc a8 hn
        go_wp2_with fail
        go_loopw [20] (fun s20 wy => ∃ (k : Nat), s20 = .int .i64 k ∧ k ≤ n ∧ Shp w6.heap.size w8 wy) (fun s20 _ => n - (intOf s20).toNat)
        case atStart => exact ⟨0, rfl, Nat.zero_le _, HS.out⟩
        case round =>
          obtain ⟨k, rfl, hk, hs2⟩ := hrel
          rename World => wy
          have HS2 := Lib.hid hs2
          have a0 := HA8.out wy hs2
          clear hs2
          by_cases hlk : k < n
          · have d2 : decide ((k : Int) < (n : Int)) = true := decide_eq_true (by omega)
            obtain ⟨hcn, hfz, Ps, cs, Pn, cn, hs8, hn8, hel⟩ := HAC.out k hlk
            have hfc := HS2.out.fz _ (hfz (k * 5 + 1))
            obtain ⟨vc, hvc⟩ := HS2.out.ex _ ⟨_, hcn.choose_spec⟩
            have hw := HS2.out.write hcn hgB a5
            obtain ⟨wk, hwk⟩ : ∃ wk, wk = wy.setCell ⟨g, k * 5 + 1, none⟩ (.int .i64 a5) := ⟨_, rfl⟩
            rw [← hwk] at hw
            have HWK := Lib.hid hwk
            have HSK := Lib.hid hw
            have HM8 := Lib.hid (fun (W : World) (hW : Shp w6.heap.size w8 W) => And.intro (hW.same _ _ hs8 slice_nint) (hW.same _ _ hn8 slice_nint))
            have HEL := Lib.hid hel
            have j0 : (0 : Int) ≤ (k : Int) := by omega
            have j1 : (k : Int) < (n : Int) := by omega
            clear hcn hfz hs8 hn8 hel hw hwk
            go_wp2_with fail
            rw [← HWK.out]
            clear hvc hfc a0
            go_loopw [21] (fun s21 wz => ∃ (j : Nat), s21 = .int .i64 j ∧ j ≤ mm ∧ Shp w6.heap.size w8 wz) (fun s21 _ => mm - (intOf s21).toNat)
            case atStart => exact ⟨0, rfl, Nat.zero_le _, HSK.out⟩
            case round =>
              obtain ⟨j, rfl, hj, hs3⟩ := hrel
              rename World => wz
              have HS3 := Lib.hid hs3
              have a0 := HA8.out wz hs3
              obtain ⟨b2, b3⟩ := HM8.out wz hs3
              clear hs3
              by_cases hlj : j < mm
              · have d3 : decide ((j : Int) < (mm : Int)) = true := decide_eq_true (by omega)
                obtain ⟨gs', gn, rfl, rfl, hb1, hb2, hz1, hz2, hcc⟩ := HEL.out (by omega)
                obtain ⟨h1, h2⟩ := hcc j hlj
                obtain ⟨v1, hv1⟩ := HS3.out.ex _ ⟨_, h1.choose_spec⟩
                obtain ⟨v2, hv2⟩ := HS3.out.ex _ ⟨_, h2.choose_spec⟩
                have f1 := HS3.out.fz _ (hz1 j)
                have f2 := HS3.out.fz _ (hz2 j)
                have hm1 := HS3.out.write h2 hb2 a5
                obtain ⟨wm, hwm⟩ : ∃ wm, wm = wz.setCell ⟨gn, j, none⟩ (.int .i64 a5) := ⟨_, rfl⟩
                rw [← hwm] at hm1
                obtain ⟨v3, hv3⟩ := hm1.ex _ ⟨_, h1.choose_spec⟩
                have f3 := hm1.fz _ (hz1 j)
                have hm2 := (hm1.write h1 hb1 a5).drew
                have FIN := Lib.hid hm2
                have HWM := Lib.hid hwm
                have l0 : (0 : Int) ≤ (j : Int) := by omega
                have l1 : (j : Int) < (mm : Int) := by omega
                clear hcc h1 h2 hz1 hz2 hm1 hwm hm2
                go_wp2_with fail
                refine region_P (S := fun W' => W'.cell? (ad.add i) = some (.slice (some ⟨g, 0, none⟩) n c) ∧ W'.cell? ⟨g, k * 5 + 2, none⟩ = some (.slice (some ⟨gs', 0, none⟩) mm cs) ∧ W'.cell? ⟨g, k * 5 + 3, none⟩ = some (.slice (some ⟨gn, 0, none⟩) mm cn)) (kill := [21,23]) (by kernel_rfl) ⟨a0, b2, b3⟩ (fun hHeld => ?_)
                refine anyP_take (i := 0) (v := ?vso0) rfl (by kernel_rfl) (by kernel_rfl) (by kernel_rfl) (by kernel_rfl) (by kernel_rfl) (fun _ _ _ h => h) (Or.inl ⟨by rfl, ?yso0⟩) hHeld ?rso0
                case yso0 => (intro W hW; obtain ⟨g0, g1, g2⟩ := hW; go_simp; first | done | with_reducible rfl)
                try simp only [List.getElem_toArray, List.getElem_cons_zero, Act.put, List.setIfInBounds_toArray, List.set_cons_zero, List.set_cons_succ]
                refine anyP_take (i := 1) (v := ?vso1) rfl (by kernel_rfl) (by kernel_rfl) (by kernel_rfl) (by kernel_rfl) (by kernel_rfl) (fun _ _ _ h => h) (Or.inl ⟨by rfl, ?yso1⟩) hHeld ?rso1
                case yso1 => (intro W hW; obtain ⟨g0, g1, g2⟩ := hW; go_simp; first | done | with_reducible rfl)
                try simp only [List.getElem_toArray, List.getElem_cons_succ, List.getElem_cons_zero, Act.put, List.setIfInBounds_toArray, List.set_cons_zero, List.set_cons_succ]
                refine anyP_take (i := 2) (v := ?vso2) rfl (by kernel_rfl) (by kernel_rfl) (by kernel_rfl) (by kernel_rfl) (by kernel_rfl) (fun _ _ _ h => h) (Or.inl ⟨by rfl, ?yso2⟩) hHeld ?rso2
                case yso2 => (intro W hW; obtain ⟨g0, g1, g2⟩ := hW; go_simp; first | done | with_reducible rfl)
                try simp only [List.getElem_toArray, List.getElem_cons_succ, List.getElem_cons_zero, Act.put, List.setIfInBounds_toArray, List.set_cons_zero, List.set_cons_succ]
                refine anyP_take (i := 3) (v := ?vso3) rfl (by kernel_rfl) (by kernel_rfl) (by kernel_rfl) (by kernel_rfl) (by kernel_rfl) (fun _ _ _ h => h) (Or.inl ⟨by rfl, ?yso3⟩) hHeld ?rso3
                case yso3 => (intro W hW; obtain ⟨g0, g1, g2⟩ := hW; go_simp; first | done | with_reducible rfl)
                try simp only [List.getElem_toArray, List.getElem_cons_succ, List.getElem_cons_zero, Act.put, List.setIfInBounds_toArray, List.set_cons_zero, List.set_cons_succ]
                refine anyP_take (i := 4) (v := ?vso4) rfl (by kernel_rfl) (by kernel_rfl) (by kernel_rfl) (by kernel_rfl) (by kernel_rfl) (fun _ _ _ h => h) (Or.inl ⟨by rfl, ?yso4⟩) hHeld ?rso4
                case yso4 => (intro W hW; obtain ⟨g0, g1, g2⟩ := hW; go_simp; first | done | with_reducible rfl)
                try simp only [List.getElem_toArray, List.getElem_cons_succ, List.getElem_cons_zero, Act.put, List.setIfInBounds_toArray, List.set_cons_zero, List.set_cons_succ]
                refine anyP_take (i := 5) (v := ?vso5) rfl (by kernel_rfl) (by kernel_rfl) (by kernel_rfl) (by kernel_rfl) (by kernel_rfl) (fun _ _ _ h => h) (Or.inl ⟨by rfl, ?yso5⟩) hHeld ?rso5
                case yso5 => (intro W hW; obtain ⟨g0, g1, g2⟩ := hW; go_simp; first | done | with_reducible rfl)
                try simp only [List.getElem_toArray, List.getElem_cons_succ, List.getElem_cons_zero, Act.put, List.setIfInBounds_toArray, List.set_cons_zero, List.set_cons_succ]
                refine anyP_take (i := 6) (v := ?vso6) rfl (by kernel_rfl) (by kernel_rfl) (by kernel_rfl) (by kernel_rfl) (by kernel_rfl) (fun _ _ _ h => h) (Or.inl ⟨by rfl, ?yso6⟩) hHeld ?rso6
                case yso6 => (intro W hW; obtain ⟨g0, g1, g2⟩ := hW; go_simp; first | done | with_reducible rfl)
                try simp only [List.getElem_toArray, List.getElem_cons_succ, List.getElem_cons_zero, Act.put, List.setIfInBounds_toArray, List.set_cons_zero, List.set_cons_succ]
                refine anyP_take (i := 7) (v := ?vso7) rfl (by kernel_rfl) (by kernel_rfl) (by kernel_rfl) (by kernel_rfl) (by kernel_rfl) (fun _ _ _ h => h) (Or.inl ⟨by rfl, ?yso7⟩) hHeld ?rso7
                case yso7 => (intro W hW; obtain ⟨g0, g1, g2⟩ := hW; go_simp; first | done | with_reducible rfl)
                try simp only [List.getElem_toArray, List.getElem_cons_succ, List.getElem_cons_zero, Act.put, List.setIfInBounds_toArray, List.set_cons_zero, List.set_cons_succ]
                refine anyP_take (i := 8) (v := ?vso8) rfl (by kernel_rfl) (by kernel_rfl) (by kernel_rfl) (by kernel_rfl) (by kernel_rfl) (fun _ _ _ h => h) (Or.inl ⟨by rfl, ?yso8⟩) hHeld ?rso8
                case yso8 => (intro W hW; obtain ⟨g0, g1, g2⟩ := hW; go_simp; first | done | with_reducible rfl)
                try simp only [List.getElem_toArray, List.getElem_cons_succ, List.getElem_cons_zero, Act.put, List.setIfInBounds_toArray, List.set_cons_zero, List.set_cons_succ]
                refine anyP_take (i := 9) (v := ?vso9) rfl (by kernel_rfl) (by kernel_rfl) (by kernel_rfl) (by kernel_rfl) (by kernel_rfl) (fun _ _ _ h => h) (Or.inl ⟨by rfl, ?yso9⟩) hHeld ?rso9
                case yso9 => (intro W hW; obtain ⟨g0, g1, g2⟩ := hW; go_simp; first | done | with_reducible rfl)
                try simp only [List.getElem_toArray, List.getElem_cons_succ, List.getElem_cons_zero, Act.put, List.setIfInBounds_toArray, List.set_cons_zero, List.set_cons_succ]
                refine anyP_take (i := 10) (v := ?vso10) rfl (by kernel_rfl) (by kernel_rfl) (by kernel_rfl) (by kernel_rfl) (by kernel_rfl) (fun _ _ _ h => h) (Or.inl ⟨by rfl, ?yso10⟩) hHeld ?rso10
                case yso10 => (intro W hW; obtain ⟨g0, g1, g2⟩ := hW; go_simp; first | done | with_reducible rfl)
                try simp only [List.getElem_toArray, List.getElem_cons_succ, List.getElem_cons_zero, Act.put, List.setIfInBounds_toArray, List.set_cons_zero, List.set_cons_succ]
                refine anyP_take (i := 11) (v := ?vso11) rfl (by kernel_rfl) (by kernel_rfl) (by kernel_rfl) (by kernel_rfl) (by kernel_rfl) (fun _ _ _ h => h) (Or.inl ⟨by rfl, ?yso11⟩) hHeld ?rso11
                case yso11 => (intro W hW; obtain ⟨g0, g1, g2⟩ := hW; go_simp; first | done | with_reducible rfl)
                try simp only [List.getElem_toArray, List.getElem_cons_succ, List.getElem_cons_zero, Act.put, List.setIfInBounds_toArray, List.set_cons_zero, List.set_cons_succ]
                refine anyP_take (i := 12) (v := ?vso12) rfl (by kernel_rfl) (by kernel_rfl) (by kernel_rfl) (by kernel_rfl) (by kernel_rfl) (fun _ _ _ h => h) (Or.inl ⟨by rfl, ?yso12⟩) hHeld ?rso12
                case yso12 => (intro W hW; obtain ⟨g0, g1, g2⟩ := hW; go_simp; first | done | with_reducible rfl)
                try simp only [List.getElem_toArray, List.getElem_cons_succ, List.getElem_cons_zero, Act.put, List.setIfInBounds_toArray, List.set_cons_zero, List.set_cons_succ]
                refine anyP_take (i := 13) (v := ?vso13) rfl (by kernel_rfl) (by kernel_rfl) (by kernel_rfl) (by kernel_rfl) (by kernel_rfl) (fun _ _ _ h => h) (Or.inl ⟨by rfl, ?yso13⟩) hHeld ?rso13
                case yso13 => (intro W hW; obtain ⟨g0, g1, g2⟩ := hW; go_simp; first | done | with_reducible rfl)
                try simp only [List.getElem_toArray, List.getElem_cons_succ, List.getElem_cons_zero, Act.put, List.setIfInBounds_toArray, List.set_cons_zero, List.set_cons_succ]
                refine anyP_take (i := 14) (v := ?vso14) rfl (by kernel_rfl) (by kernel_rfl) (by kernel_rfl) (by kernel_rfl) (by kernel_rfl) (fun _ _ _ h => h) (Or.inl ⟨by rfl, ?yso14⟩) hHeld ?rso14
                case yso14 => (intro W hW; obtain ⟨g0, g1, g2⟩ := hW; go_simp; first | done | with_reducible rfl)
                try simp only [List.getElem_toArray, List.getElem_cons_succ, List.getElem_cons_zero, Act.put, List.setIfInBounds_toArray, List.set_cons_zero, List.set_cons_succ]
                refine anyP_take (i := 15) (v := ?vso15) rfl (by kernel_rfl) (by kernel_rfl) (by kernel_rfl) (by kernel_rfl) (by kernel_rfl) (fun _ _ _ h => h) (Or.inl ⟨by rfl, ?yso15⟩) hHeld ?rso15
                case yso15 => (intro W hW; obtain ⟨g0, g1, g2⟩ := hW; go_simp; first | done | with_reducible rfl)
                try simp only [List.getElem_toArray, List.getElem_cons_succ, List.getElem_cons_zero, Act.put, List.setIfInBounds_toArray, List.set_cons_zero, List.set_cons_succ]
                refine anyP_take (i := 16) (v := ?vso16) rfl (by kernel_rfl) (by kernel_rfl) (by kernel_rfl) (by kernel_rfl) (by kernel_rfl) (fun _ _ _ h => h) (Or.inl ⟨by rfl, ?yso16⟩) hHeld ?rso16
                case yso16 => (intro W hW; obtain ⟨g0, g1, g2⟩ := hW; go_simp; first | done | with_reducible rfl)
                try simp only [List.getElem_toArray, List.getElem_cons_succ, List.getElem_cons_zero, Act.put, List.setIfInBounds_toArray, List.set_cons_zero, List.set_cons_succ]
                refine anyP_take (i := 18) (v := ?vso18) rfl (by kernel_rfl) (by kernel_rfl) (by kernel_rfl) (by kernel_rfl) (by kernel_rfl) (fun _ _ _ h => h) (Or.inl ⟨by rfl, ?yso18⟩) hHeld ?rso18
                case yso18 => (intro W hW; obtain ⟨g0, g1, g2⟩ := hW; go_simp; first | done | with_reducible rfl)
                try simp only [List.getElem_toArray, List.getElem_cons_succ, List.getElem_cons_zero, Act.put, List.setIfInBounds_toArray, List.set_cons_zero, List.set_cons_succ]
                refine anyP_ready (rs := [17, 19, 20]) (by kernel_rfl) (by simp) ?_
                refine AllP.cons rfl (fun K hK => ?_) (AllP.cons rfl (fun K hK => ?_) (AllP.cons rfl (fun K hK => ?_) AllP.nil))
                · go_simp
                  refine hK.out _ _ (fun _ h => h) ?_
                  clear hK K
                  try simp only [List.getElem_toArray, List.getElem_cons_succ, List.getElem_cons_zero, Act.put, List.setIfInBounds_toArray, List.set_cons_zero, List.set_cons_succ]
                  refine anyP_ready (rs := [19, 20]) (by kernel_rfl) (by simp) ?_
                  refine AllP.cons rfl (fun K hK => ?_) (AllP.cons rfl (fun K hK => ?_) AllP.nil)
                  · go_simp
                    refine hK.out _ _ (fun _ h => h) ?_
                    clear hK K
                    try simp only [List.getElem_toArray, List.getElem_cons_succ, List.getElem_cons_zero, Act.put, List.setIfInBounds_toArray, List.set_cons_zero, List.set_cons_succ]
                    refine anyP_ready (rs := [20]) (by kernel_rfl) (by simp) ?_
                    refine AllP.cons rfl (fun K hK => ?_) AllP.nil
                    go_simp
                    refine hK.out _ _ (fun _ h => h) ?_
                    clear hK K
                    try simp only [List.getElem_toArray, List.getElem_cons_succ, List.getElem_cons_zero, Act.put, List.setIfInBounds_toArray, List.set_cons_zero, List.set_cons_succ]
                    refine anyP_ready (rs := [21]) (by kernel_rfl) (by simp) ?_
                    refine AllP.cons rfl (fun K hK => ?_) AllP.nil
                    go_simp
                    refine hK.out _ _ (fun h => absurd (by decide) h) ?_
                    clear hK K
                    try simp only [List.getElem_toArray, List.getElem_cons_succ, List.getElem_cons_zero, Act.put, List.setIfInBounds_toArray, List.set_cons_zero, List.set_cons_succ]
                    rw [← HWM.out]
                    refine anyP_ready (rs := [22]) (by kernel_rfl) (by simp) ?_
                    refine AllP.cons rfl (fun K hK => ?_) AllP.nil
                    go_simp
                    refine hK.out _ _ (fun _ h => h) ?_
                    clear hK K
                    try simp only [List.getElem_toArray, List.getElem_cons_succ, List.getElem_cons_zero, Act.put, List.setIfInBounds_toArray, List.set_cons_zero, List.set_cons_succ]
                    refine anyP_ready (rs := [23]) (by kernel_rfl) (by simp) ?_
                    refine AllP.cons rfl (fun K hK => ?_) AllP.nil
                    go_simp
                    refine hK.out _ _ (fun h => absurd (by decide) h) ?_
                    clear hK K
                    try simp only [List.getElem_toArray, List.getElem_cons_succ, List.getElem_cons_zero, Act.put, List.setIfInBounds_toArray, List.set_cons_zero, List.set_cons_succ]
                    refine anyP_done (by kernel_rfl) ?_ _
                    go_wp2
                    go_roundw
                    case rel => exact ⟨j + 1, by go_num, by omega, FIN.out⟩
                    case measure => simp [intOf]; omega
                  · go_simp
                    refine hK.out _ _ (fun _ h => h) ?_
                    clear hK K
                    try simp only [List.getElem_toArray, List.getElem_cons_succ, List.getElem_cons_zero, Act.put, List.setIfInBounds_toArray, List.set_cons_zero, List.set_cons_succ]
                    refine anyP_ready (rs := [19, 21]) (by kernel_rfl) (by simp) ?_
                    refine AllP.cons rfl (fun K hK => ?_) (AllP.cons rfl (fun K hK => ?_) AllP.nil)
                    · go_simp
                      refine hK.out _ _ (fun _ h => h) ?_
                      clear hK K
                      try simp only [List.getElem_toArray, List.getElem_cons_succ, List.getElem_cons_zero, Act.put, List.setIfInBounds_toArray, List.set_cons_zero, List.set_cons_succ]
                      refine anyP_ready (rs := [21]) (by kernel_rfl) (by simp) ?_
                      refine AllP.cons rfl (fun K hK => ?_) AllP.nil
                      go_simp
                      refine hK.out _ _ (fun h => absurd (by decide) h) ?_
                      clear hK K
                      try simp only [List.getElem_toArray, List.getElem_cons_succ, List.getElem_cons_zero, Act.put, List.setIfInBounds_toArray, List.set_cons_zero, List.set_cons_succ]
                      rw [← HWM.out]
                      refine anyP_ready (rs := [22]) (by kernel_rfl) (by simp) ?_
                      refine AllP.cons rfl (fun K hK => ?_) AllP.nil
                      go_simp
                      refine hK.out _ _ (fun _ h => h) ?_
                      clear hK K
                      try simp only [List.getElem_toArray, List.getElem_cons_succ, List.getElem_cons_zero, Act.put, List.setIfInBounds_toArray, List.set_cons_zero, List.set_cons_succ]
                      refine anyP_ready (rs := [23]) (by kernel_rfl) (by simp) ?_
                      refine AllP.cons rfl (fun K hK => ?_) AllP.nil
                      go_simp
                      refine hK.out _ _ (fun h => absurd (by decide) h) ?_
                      clear hK K
                      try simp only [List.getElem_toArray, List.getElem_cons_succ, List.getElem_cons_zero, Act.put, List.setIfInBounds_toArray, List.set_cons_zero, List.set_cons_succ]
                      refine anyP_done (by kernel_rfl) ?_ _
                      go_wp2
                      go_roundw
                      case rel => exact ⟨j + 1, by go_num, by omega, FIN.out⟩
                      case measure => simp [intOf]; omega
                    · go_simp
                      refine hK.out _ _ (fun h => absurd (by decide) h) ?_
                      clear hK K
                      try simp only [List.getElem_toArray, List.getElem_cons_succ, List.getElem_cons_zero, Act.put, List.setIfInBounds_toArray, List.set_cons_zero, List.set_cons_succ]
                      rw [← HWM.out]
                      refine anyP_ready (rs := [19]) (by kernel_rfl) (by simp) ?_
                      refine AllP.cons rfl (fun K hK => ?_) AllP.nil
                      go_simp
                      refine hK.out _ _ (fun _ h => h) ?_
                      clear hK K
                      try simp only [List.getElem_toArray, List.getElem_cons_succ, List.getElem_cons_zero, Act.put, List.setIfInBounds_toArray, List.set_cons_zero, List.set_cons_succ]
                      refine anyP_ready (rs := [22]) (by kernel_rfl) (by simp) ?_
                      refine AllP.cons rfl (fun K hK => ?_) AllP.nil
                      go_simp
                      refine hK.out _ _ (fun _ h => h) ?_
                      clear hK K
                      try simp only [List.getElem_toArray, List.getElem_cons_succ, List.getElem_cons_zero, Act.put, List.setIfInBounds_toArray, List.set_cons_zero, List.set_cons_succ]
                      refine anyP_ready (rs := [23]) (by kernel_rfl) (by simp) ?_
                      refine AllP.cons rfl (fun K hK => ?_) AllP.nil
                      go_simp
                      refine hK.out _ _ (fun h => absurd (by decide) h) ?_
                      clear hK K
                      try simp only [List.getElem_toArray, List.getElem_cons_succ, List.getElem_cons_zero, Act.put, List.setIfInBounds_toArray, List.set_cons_zero, List.set_cons_succ]
                      refine anyP_done (by kernel_rfl) ?_ _
                      go_wp2
                      go_roundw
                      case rel => exact ⟨j + 1, by go_num, by omega, FIN.out⟩
                      case measure => simp [intOf]; omega
                · go_simp
                  refine hK.out _ _ (fun _ h => h) ?_
                  clear hK K
                  try simp only [List.getElem_toArray, List.getElem_cons_succ, List.getElem_cons_zero, Act.put, List.setIfInBounds_toArray, List.set_cons_zero, List.set_cons_succ]
                  refine anyP_ready (rs := [17, 20]) (by kernel_rfl) (by simp) ?_
                  refine AllP.cons rfl (fun K hK => ?_) (AllP.cons rfl (fun K hK => ?_) AllP.nil)
                  · go_simp
                    refine hK.out _ _ (fun _ h => h) ?_
                    clear hK K
                    try simp only [List.getElem_toArray, List.getElem_cons_succ, List.getElem_cons_zero, Act.put, List.setIfInBounds_toArray, List.set_cons_zero, List.set_cons_succ]
                    refine anyP_ready (rs := [20]) (by kernel_rfl) (by simp) ?_
                    refine AllP.cons rfl (fun K hK => ?_) AllP.nil
                    go_simp
                    refine hK.out _ _ (fun _ h => h) ?_
                    clear hK K
                    try simp only [List.getElem_toArray, List.getElem_cons_succ, List.getElem_cons_zero, Act.put, List.setIfInBounds_toArray, List.set_cons_zero, List.set_cons_succ]
                    refine anyP_ready (rs := [21]) (by kernel_rfl) (by simp) ?_
                    refine AllP.cons rfl (fun K hK => ?_) AllP.nil
                    go_simp
                    refine hK.out _ _ (fun h => absurd (by decide) h) ?_
                    clear hK K
                    try simp only [List.getElem_toArray, List.getElem_cons_succ, List.getElem_cons_zero, Act.put, List.setIfInBounds_toArray, List.set_cons_zero, List.set_cons_succ]
                    rw [← HWM.out]
                    refine anyP_ready (rs := [22]) (by kernel_rfl) (by simp) ?_
                    refine AllP.cons rfl (fun K hK => ?_) AllP.nil
                    go_simp
                    refine hK.out _ _ (fun _ h => h) ?_
                    clear hK K
                    try simp only [List.getElem_toArray, List.getElem_cons_succ, List.getElem_cons_zero, Act.put, List.setIfInBounds_toArray, List.set_cons_zero, List.set_cons_succ]
                    refine anyP_ready (rs := [23]) (by kernel_rfl) (by simp) ?_
                    refine AllP.cons rfl (fun K hK => ?_) AllP.nil
                    go_simp
                    refine hK.out _ _ (fun h => absurd (by decide) h) ?_
                    clear hK K
                    try simp only [List.getElem_toArray, List.getElem_cons_succ, List.getElem_cons_zero, Act.put, List.setIfInBounds_toArray, List.set_cons_zero, List.set_cons_succ]
                    refine anyP_done (by kernel_rfl) ?_ _
                    go_wp2
                    go_roundw
                    case rel => exact ⟨j + 1, by go_num, by omega, FIN.out⟩
                    case measure => simp [intOf]; omega
                  · go_simp
                    refine hK.out _ _ (fun _ h => h) ?_
                    clear hK K
                    try simp only [List.getElem_toArray, List.getElem_cons_succ, List.getElem_cons_zero, Act.put, List.setIfInBounds_toArray, List.set_cons_zero, List.set_cons_succ]
                    refine anyP_ready (rs := [17, 21]) (by kernel_rfl) (by simp) ?_
                    refine AllP.cons rfl (fun K hK => ?_) (AllP.cons rfl (fun K hK => ?_) AllP.nil)
                    · go_simp
                      refine hK.out _ _ (fun _ h => h) ?_
                      clear hK K
                      try simp only [List.getElem_toArray, List.getElem_cons_succ, List.getElem_cons_zero, Act.put, List.setIfInBounds_toArray, List.set_cons_zero, List.set_cons_succ]
                      refine anyP_ready (rs := [21]) (by kernel_rfl) (by simp) ?_
                      refine AllP.cons rfl (fun K hK => ?_) AllP.nil
                      go_simp
                      refine hK.out _ _ (fun h => absurd (by decide) h) ?_
                      clear hK K
                      try simp only [List.getElem_toArray, List.getElem_cons_succ, List.getElem_cons_zero, Act.put, List.setIfInBounds_toArray, List.set_cons_zero, List.set_cons_succ]
                      rw [← HWM.out]
                      refine anyP_ready (rs := [22]) (by kernel_rfl) (by simp) ?_
                      refine AllP.cons rfl (fun K hK => ?_) AllP.nil
                      go_simp
                      refine hK.out _ _ (fun _ h => h) ?_
                      clear hK K
                      try simp only [List.getElem_toArray, List.getElem_cons_succ, List.getElem_cons_zero, Act.put, List.setIfInBounds_toArray, List.set_cons_zero, List.set_cons_succ]
                      refine anyP_ready (rs := [23]) (by kernel_rfl) (by simp) ?_
                      refine AllP.cons rfl (fun K hK => ?_) AllP.nil
                      go_simp
                      refine hK.out _ _ (fun h => absurd (by decide) h) ?_
                      clear hK K
                      try simp only [List.getElem_toArray, List.getElem_cons_succ, List.getElem_cons_zero, Act.put, List.setIfInBounds_toArray, List.set_cons_zero, List.set_cons_succ]
                      refine anyP_done (by kernel_rfl) ?_ _
                      go_wp2
                      go_roundw
                      case rel => exact ⟨j + 1, by go_num, by omega, FIN.out⟩
                      case measure => simp [intOf]; omega
                    · go_simp
                      refine hK.out _ _ (fun h => absurd (by decide) h) ?_
                      clear hK K
                      try simp only [List.getElem_toArray, List.getElem_cons_succ, List.getElem_cons_zero, Act.put, List.setIfInBounds_toArray, List.set_cons_zero, List.set_cons_succ]
                      rw [← HWM.out]
                      refine anyP_ready (rs := [17]) (by kernel_rfl) (by simp) ?_
                      refine AllP.cons rfl (fun K hK => ?_) AllP.nil
                      go_simp
                      refine hK.out _ _ (fun _ h => h) ?_
                      clear hK K
                      try simp only [List.getElem_toArray, List.getElem_cons_succ, List.getElem_cons_zero, Act.put, List.setIfInBounds_toArray, List.set_cons_zero, List.set_cons_succ]
                      refine anyP_ready (rs := [22]) (by kernel_rfl) (by simp) ?_
                      refine AllP.cons rfl (fun K hK => ?_) AllP.nil
                      go_simp
                      refine hK.out _ _ (fun _ h => h) ?_
                      clear hK K
                      try simp only [List.getElem_toArray, List.getElem_cons_succ, List.getElem_cons_zero, Act.put, List.setIfInBounds_toArray, List.set_cons_zero, List.set_cons_succ]
                      refine anyP_ready (rs := [23]) (by kernel_rfl) (by simp) ?_
                      refine AllP.cons rfl (fun K hK => ?_) AllP.nil
                      go_simp
                      refine hK.out _ _ (fun h => absurd (by decide) h) ?_
                      clear hK K
                      try simp only [List.getElem_toArray, List.getElem_cons_succ, List.getElem_cons_zero, Act.put, List.setIfInBounds_toArray, List.set_cons_zero, List.set_cons_succ]
                      refine anyP_done (by kernel_rfl) ?_ _
                      go_wp2
                      go_roundw
                      case rel => exact ⟨j + 1, by go_num, by omega, FIN.out⟩
                      case measure => simp [intOf]; omega
                · go_simp
                  refine hK.out _ _ (fun _ h => h) ?_
                  clear hK K
                  try simp only [List.getElem_toArray, List.getElem_cons_succ, List.getElem_cons_zero, Act.put, List.setIfInBounds_toArray, List.set_cons_zero, List.set_cons_succ]
                  refine anyP_ready (rs := [17, 19, 21]) (by kernel_rfl) (by simp) ?_
                  refine AllP.cons rfl (fun K hK => ?_) (AllP.cons rfl (fun K hK => ?_) (AllP.cons rfl (fun K hK => ?_) AllP.nil))
                  · go_simp
                    refine hK.out _ _ (fun _ h => h) ?_
                    clear hK K
                    try simp only [List.getElem_toArray, List.getElem_cons_succ, List.getElem_cons_zero, Act.put, List.setIfInBounds_toArray, List.set_cons_zero, List.set_cons_succ]
                    refine anyP_ready (rs := [19, 21]) (by kernel_rfl) (by simp) ?_
                    refine AllP.cons rfl (fun K hK => ?_) (AllP.cons rfl (fun K hK => ?_) AllP.nil)
                    · go_simp
                      refine hK.out _ _ (fun _ h => h) ?_
                      clear hK K
                      try simp only [List.getElem_toArray, List.getElem_cons_succ, List.getElem_cons_zero, Act.put, List.setIfInBounds_toArray, List.set_cons_zero, List.set_cons_succ]
                      refine anyP_ready (rs := [21]) (by kernel_rfl) (by simp) ?_
                      refine AllP.cons rfl (fun K hK => ?_) AllP.nil
                      go_simp
                      refine hK.out _ _ (fun h => absurd (by decide) h) ?_
                      clear hK K
                      try simp only [List.getElem_toArray, List.getElem_cons_succ, List.getElem_cons_zero, Act.put, List.setIfInBounds_toArray, List.set_cons_zero, List.set_cons_succ]
                      rw [← HWM.out]
                      refine anyP_ready (rs := [22]) (by kernel_rfl) (by simp) ?_
                      refine AllP.cons rfl (fun K hK => ?_) AllP.nil
                      go_simp
                      refine hK.out _ _ (fun _ h => h) ?_
                      clear hK K
                      try simp only [List.getElem_toArray, List.getElem_cons_succ, List.getElem_cons_zero, Act.put, List.setIfInBounds_toArray, List.set_cons_zero, List.set_cons_succ]
                      refine anyP_ready (rs := [23]) (by kernel_rfl) (by simp) ?_
                      refine AllP.cons rfl (fun K hK => ?_) AllP.nil
                      go_simp
                      refine hK.out _ _ (fun h => absurd (by decide) h) ?_
                      clear hK K
                      try simp only [List.getElem_toArray, List.getElem_cons_succ, List.getElem_cons_zero, Act.put, List.setIfInBounds_toArray, List.set_cons_zero, List.set_cons_succ]
                      refine anyP_done (by kernel_rfl) ?_ _
                      go_wp2
                      go_roundw
                      case rel => exact ⟨j + 1, by go_num, by omega, FIN.out⟩
                      case measure => simp [intOf]; omega
                    · go_simp
                      refine hK.out _ _ (fun h => absurd (by decide) h) ?_
                      clear hK K
                      try simp only [List.getElem_toArray, List.getElem_cons_succ, List.getElem_cons_zero, Act.put, List.setIfInBounds_toArray, List.set_cons_zero, List.set_cons_succ]
                      rw [← HWM.out]
                      refine anyP_ready (rs := [19]) (by kernel_rfl) (by simp) ?_
                      refine AllP.cons rfl (fun K hK => ?_) AllP.nil
                      go_simp
                      refine hK.out _ _ (fun _ h => h) ?_
                      clear hK K
                      try simp only [List.getElem_toArray, List.getElem_cons_succ, List.getElem_cons_zero, Act.put, List.setIfInBounds_toArray, List.set_cons_zero, List.set_cons_succ]
                      refine anyP_ready (rs := [22]) (by kernel_rfl) (by simp) ?_
                      refine AllP.cons rfl (fun K hK => ?_) AllP.nil
                      go_simp
                      refine hK.out _ _ (fun _ h => h) ?_
                      clear hK K
                      try simp only [List.getElem_toArray, List.getElem_cons_succ, List.getElem_cons_zero, Act.put, List.setIfInBounds_toArray, List.set_cons_zero, List.set_cons_succ]
                      refine anyP_ready (rs := [23]) (by kernel_rfl) (by simp) ?_
                      refine AllP.cons rfl (fun K hK => ?_) AllP.nil
                      go_simp
                      refine hK.out _ _ (fun h => absurd (by decide) h) ?_
                      clear hK K
                      try simp only [List.getElem_toArray, List.getElem_cons_succ, List.getElem_cons_zero, Act.put, List.setIfInBounds_toArray, List.set_cons_zero, List.set_cons_succ]
                      refine anyP_done (by kernel_rfl) ?_ _
                      go_wp2
                      go_roundw
                      case rel => exact ⟨j + 1, by go_num, by omega, FIN.out⟩
                      case measure => simp [intOf]; omega
                  · go_simp
                    refine hK.out _ _ (fun _ h => h) ?_
                    clear hK K
                    try simp only [List.getElem_toArray, List.getElem_cons_succ, List.getElem_cons_zero, Act.put, List.setIfInBounds_toArray, List.set_cons_zero, List.set_cons_succ]
                    refine anyP_ready (rs := [17, 21]) (by kernel_rfl) (by simp) ?_
                    refine AllP.cons rfl (fun K hK => ?_) (AllP.cons rfl (fun K hK => ?_) AllP.nil)
                    · go_simp
                      refine hK.out _ _ (fun _ h => h) ?_
                      clear hK K
                      try simp only [List.getElem_toArray, List.getElem_cons_succ, List.getElem_cons_zero, Act.put, List.setIfInBounds_toArray, List.set_cons_zero, List.set_cons_succ]
                      refine anyP_ready (rs := [21]) (by kernel_rfl) (by simp) ?_
                      refine AllP.cons rfl (fun K hK => ?_) AllP.nil
                      go_simp
                      refine hK.out _ _ (fun h => absurd (by decide) h) ?_
                      clear hK K
                      try simp only [List.getElem_toArray, List.getElem_cons_succ, List.getElem_cons_zero, Act.put, List.setIfInBounds_toArray, List.set_cons_zero, List.set_cons_succ]
                      rw [← HWM.out]
                      refine anyP_ready (rs := [22]) (by kernel_rfl) (by simp) ?_
                      refine AllP.cons rfl (fun K hK => ?_) AllP.nil
                      go_simp
                      refine hK.out _ _ (fun _ h => h) ?_
                      clear hK K
                      try simp only [List.getElem_toArray, List.getElem_cons_succ, List.getElem_cons_zero, Act.put, List.setIfInBounds_toArray, List.set_cons_zero, List.set_cons_succ]
                      refine anyP_ready (rs := [23]) (by kernel_rfl) (by simp) ?_
                      refine AllP.cons rfl (fun K hK => ?_) AllP.nil
                      go_simp
                      refine hK.out _ _ (fun h => absurd (by decide) h) ?_
                      clear hK K
                      try simp only [List.getElem_toArray, List.getElem_cons_succ, List.getElem_cons_zero, Act.put, List.setIfInBounds_toArray, List.set_cons_zero, List.set_cons_succ]
                      refine anyP_done (by kernel_rfl) ?_ _
                      go_wp2
                      go_roundw
                      case rel => exact ⟨j + 1, by go_num, by omega, FIN.out⟩
                      case measure => simp [intOf]; omega
                    · go_simp
                      refine hK.out _ _ (fun h => absurd (by decide) h) ?_
                      clear hK K
                      try simp only [List.getElem_toArray, List.getElem_cons_succ, List.getElem_cons_zero, Act.put, List.setIfInBounds_toArray, List.set_cons_zero, List.set_cons_succ]
                      rw [← HWM.out]
                      refine anyP_ready (rs := [17]) (by kernel_rfl) (by simp) ?_
                      refine AllP.cons rfl (fun K hK => ?_) AllP.nil
                      go_simp
                      refine hK.out _ _ (fun _ h => h) ?_
                      clear hK K
                      try simp only [List.getElem_toArray, List.getElem_cons_succ, List.getElem_cons_zero, Act.put, List.setIfInBounds_toArray, List.set_cons_zero, List.set_cons_succ]
                      refine anyP_ready (rs := [22]) (by kernel_rfl) (by simp) ?_
                      refine AllP.cons rfl (fun K hK => ?_) AllP.nil
                      go_simp
                      refine hK.out _ _ (fun _ h => h) ?_
                      clear hK K
                      try simp only [List.getElem_toArray, List.getElem_cons_succ, List.getElem_cons_zero, Act.put, List.setIfInBounds_toArray, List.set_cons_zero, List.set_cons_succ]
                      refine anyP_ready (rs := [23]) (by kernel_rfl) (by simp) ?_
                      refine AllP.cons rfl (fun K hK => ?_) AllP.nil
                      go_simp
                      refine hK.out _ _ (fun h => absurd (by decide) h) ?_
                      clear hK K
                      try simp only [List.getElem_toArray, List.getElem_cons_succ, List.getElem_cons_zero, Act.put, List.setIfInBounds_toArray, List.set_cons_zero, List.set_cons_succ]
                      refine anyP_done (by kernel_rfl) ?_ _
                      go_wp2
                      go_roundw
                      case rel => exact ⟨j + 1, by go_num, by omega, FIN.out⟩
                      case measure => simp [intOf]; omega
                  · go_simp
                    refine hK.out _ _ (fun h => absurd (by decide) h) ?_
                    clear hK K
                    try simp only [List.getElem_toArray, List.getElem_cons_succ, List.getElem_cons_zero, Act.put, List.setIfInBounds_toArray, List.set_cons_zero, List.set_cons_succ]
                    rw [← HWM.out]
                    refine anyP_ready (rs := [17, 19]) (by kernel_rfl) (by simp) ?_
                    refine AllP.cons rfl (fun K hK => ?_) (AllP.cons rfl (fun K hK => ?_) AllP.nil)
                    · go_simp
                      refine hK.out _ _ (fun _ h => h) ?_
                      clear hK K
                      try simp only [List.getElem_toArray, List.getElem_cons_succ, List.getElem_cons_zero, Act.put, List.setIfInBounds_toArray, List.set_cons_zero, List.set_cons_succ]
                      refine anyP_ready (rs := [19]) (by kernel_rfl) (by simp) ?_
                      refine AllP.cons rfl (fun K hK => ?_) AllP.nil
                      go_simp
                      refine hK.out _ _ (fun _ h => h) ?_
                      clear hK K
                      try simp only [List.getElem_toArray, List.getElem_cons_succ, List.getElem_cons_zero, Act.put, List.setIfInBounds_toArray, List.set_cons_zero, List.set_cons_succ]
                      refine anyP_ready (rs := [22]) (by kernel_rfl) (by simp) ?_
                      refine AllP.cons rfl (fun K hK => ?_) AllP.nil
                      go_simp
                      refine hK.out _ _ (fun _ h => h) ?_
                      clear hK K
                      try simp only [List.getElem_toArray, List.getElem_cons_succ, List.getElem_cons_zero, Act.put, List.setIfInBounds_toArray, List.set_cons_zero, List.set_cons_succ]
                      refine anyP_ready (rs := [23]) (by kernel_rfl) (by simp) ?_
                      refine AllP.cons rfl (fun K hK => ?_) AllP.nil
                      go_simp
                      refine hK.out _ _ (fun h => absurd (by decide) h) ?_
                      clear hK K
                      try simp only [List.getElem_toArray, List.getElem_cons_succ, List.getElem_cons_zero, Act.put, List.setIfInBounds_toArray, List.set_cons_zero, List.set_cons_succ]
                      refine anyP_done (by kernel_rfl) ?_ _
                      go_wp2
                      go_roundw
                      case rel => exact ⟨j + 1, by go_num, by omega, FIN.out⟩
                      case measure => simp [intOf]; omega
                    · go_simp
                      refine hK.out _ _ (fun _ h => h) ?_
                      clear hK K
                      try simp only [List.getElem_toArray, List.getElem_cons_succ, List.getElem_cons_zero, Act.put, List.setIfInBounds_toArray, List.set_cons_zero, List.set_cons_succ]
                      refine anyP_ready (rs := [17]) (by kernel_rfl) (by simp) ?_
                      refine AllP.cons rfl (fun K hK => ?_) AllP.nil
                      go_simp
                      refine hK.out _ _ (fun _ h => h) ?_
                      clear hK K
                      try simp only [List.getElem_toArray, List.getElem_cons_succ, List.getElem_cons_zero, Act.put, List.setIfInBounds_toArray, List.set_cons_zero, List.set_cons_succ]
                      refine anyP_ready (rs := [22]) (by kernel_rfl) (by simp) ?_
                      refine AllP.cons rfl (fun K hK => ?_) AllP.nil
                      go_simp
                      refine hK.out _ _ (fun _ h => h) ?_
                      clear hK K
                      try simp only [List.getElem_toArray, List.getElem_cons_succ, List.getElem_cons_zero, Act.put, List.setIfInBounds_toArray, List.set_cons_zero, List.set_cons_succ]
                      refine anyP_ready (rs := [23]) (by kernel_rfl) (by simp) ?_
                      refine AllP.cons rfl (fun K hK => ?_) AllP.nil
                      go_simp
                      refine hK.out _ _ (fun h => absurd (by decide) h) ?_
                      clear hK K
                      try simp only [List.getElem_toArray, List.getElem_cons_succ, List.getElem_cons_zero, Act.put, List.setIfInBounds_toArray, List.set_cons_zero, List.set_cons_succ]
                      refine anyP_done (by kernel_rfl) ?_ _
                      go_wp2
                      go_roundw
                      case rel => exact ⟨j + 1, by go_num, by omega, FIN.out⟩
                      case measure => simp [intOf]; omega
              · obtain rfl : j = mm := by omega
                have d3 : decide ((j : Int) < (j : Int)) = false := by simp
                go_wp2
                go_roundw
                case rel => exact ⟨k + 1, by go_num, by omega, HS3.out⟩
                case measure => simp [intOf]; omega
          · obtain rfl : k = n := by omega
            have d2 : decide ((k : Int) < (k : Int)) = false := by simp
            go_wp2
            go_roundw
            case rel => exact ⟨i + 1, by go_num, by omega, HS2.out⟩
            case measure => simp [intOf]; omega
      · obtain rfl : i = R := by omega
        have d1 : decide ((i : Int) < (i : Int)) = false := by simp
        go_wp2
        go_meet
        exact HS.out
  case rest =>
    have hb9 := hcut.bel
    rename World => w9
    have hb69 : Below w6.heap.size w6 w9 := B68.out.trans hb9
    have RL9 := Lib.hid (RL6.out.keep (Keeps.of_below hb69))
    have RM9 := Lib.hid (RM.out.keep (Keeps.of_below hb69))
    have H9 := Lib.hid (Hb6.out.trans (hb69.mono Hb6.out.size))
    have hfew : FewC L := HLo.out.few (by omega) (by omega)
    have HSM := Lib.hid (same_yes Pl Pm m cl cm L w9 RL9.out RM9.out HLm.out.symm hfew (by omega))
    clear hcut hb9 hb69 hfew
    go_wp2_with fail
    refine HSM.out.mono ?_
    rintro e w10 ⟨rfl, b10⟩
    have RL10 := Lib.hid (RL9.out.keep (Keeps.of_below b10))
    have RM10 := Lib.hid (RM9.out.keep (Keeps.of_below b10))
    have H10 := Lib.hid (H9.out.trans (b10.mono H9.out.size))
    clear b10
    go_wp2_with fail
    refine (RUN.out Pl cl m 3 w10 RL10.out rfl (by omega) (by omega)).mono ?_
    rintro e x1 ⟨P1, c1, rfl, hC1, b1⟩
    have HC1 := Lib.hid hC1
    have RM11 := Lib.hid (RM10.out.keep (Keeps.of_below b1))
    have H11 := Lib.hid (H10.out.trans (b1.mono H10.out.size))
    clear hC1 b1
    go_wp2_with fail
    refine (REF.out Pm cm m 3 x1 RM11.out rfl).mono ?_
    rintro e y1 ⟨Q1, d1, rfl, hD1, b1⟩
    have HD1 := Lib.hid hD1
    have HC1' := Lib.hid (HC1.out.keep (Keeps.of_below b1))
    have H12 := Lib.hid (H11.out.trans (b1.mono H11.out.size))
    clear hD1 b1
    have hsm1 := SML.out 3 (by omega)
    obtain ⟨R1, hR1⟩ : ∃ R, R = (runsP 3 [] L).length := ⟨_, rfl⟩
    rw [← hR1] at HC1' HD1 hsm1 ⊢
    have HSR := Lib.hid (rSameR_any P1 Q1 c1 d1 R1 (runsP 3 [] L) y1 HC1'.out HD1.out hR1 hsm1.2 (by omega))
    clear hR1 hsm1
    go_wp2_with fail
    refine HSR.out.mono ?_
    rintro e z1 ⟨rfl, b1⟩
    have H13 := Lib.hid (H12.out.trans (b1.mono H12.out.size))
    clear b1
    go_wp2
    go_ret
    exact ⟨rfl, H13.out⟩
end Go.Proofs.YtaaciedelfaekaaDoor
