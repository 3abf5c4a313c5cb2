/- The law RunsTogether. -/
import Derived.IntWalk
import Derived.Test.YtaaciedelfaekaaDoorKnow5
import Derived.Test.YtaaciedelfaekaaDoorMath5
import Derived.Test.YtaaciedelfaekaaDoorFactsH
import Derived.Test.YtaaciedelfaekaaDoorFactsLaw2
import Derived.Test.YtaaciedelfaekaaDoorMake
import Derived.Test.YtaaciedelfaekaaDoorSet
import Derived.Test.YtaaciedelfaekaaDoorIsRow
import Derived.Test.YtaaciedelfaekaaDoorRfacts
import Derived.Test.YtaaciedelfaekaaDoorOk5
import Derived.Test.YtaaciedelfaekaaDoorAppR
import Derived.Test.YtaaciedelfaekaaDoorRgroup
namespace Go.Proofs.YtaaciedelfaekaaDoor
open Go.RowKit
attribute [local go_sem] Oper.semAt_some
set_option maxRecDepth 100000 in
set_option maxHeartbeats 8000000 in
theorem runsTogether_walk (a0 : Int) (a1 : Option Addr) (len1 cap1 : Nat) (z1 : List Int) (a2 : Int) (a3 : Option Addr) (len3 cap3 : Nat) (z3 : List Int) (a4 : Int) (a5 : Int) (w : World) (h0 : inK .i64 a0) (w1 : IsRow .i64 w a1 len1 cap1 z1) (h2 : inK .i64 a2) (w3 : IsRow .i64 w a3 len3 cap3 z3) (h4 : inK .i64 a4) (h5 : inK .i64 a5) :
    Calls Tryd.prog 5 #[.int .i64 a0, .slice a1 len1 cap1, .int .i64 a2, .slice a3 len3 cap3, .int .i64 a4, .int .i64 a5] w fun e w' => e = .returned (.bool true) ∧ Below w.heap.size w w' := by
  obtain ⟨n1, lc1, cm1⟩ := w1.nums
  obtain ⟨n3, lc3, cm3⟩ := w3.nums
  have HW := Lib.hid (fun (x n : Int) (W : World) (h : inK .i64 x) (e1 : 1 ≤ n) (e2 : n ≤ 100) => lwithin5 x n W h e1 (by omega))
  have N1 := Lib.hid n1
  have N3 := Lib.hid n3
  have HKn := Lib.hid (known5_any w)
  clear w1 w3 n1 n3
  go_enter Tryd.func5, Tryd.ntmps5
  go_wp2_with fail
  refine HKn.out.mono ?_
  rintro e w1 ⟨rfl, hb1⟩
  have Hb1 := Lib.hid hb1
  clear hb1 HKn
  go_wp2_with fail
  refine (Facts_res a0 a2 a1 a3 len1 cap1 len3 cap3 _ _ w1 (N1.out.keep (Keeps.of_below Hb1.out)) (N3.out.keep (Keeps.of_below Hb1.out)) (by omega) (by omega) h0 h2).mono ?_
  rintro e w2 ⟨A, c, D, d, C, q, mm, m, cs, l, rfl, hF⟩
  have F := Lib.hid hF
  obtain ⟨k1, k2, k3, k4⟩ : 1 ≤ q ∧ q ≤ 4 ∧ mm ≤ 2 ∧ m ≤ 40 := ⟨hF.q1, hF.q4, hF.m2, hF.m40⟩
  have hb2 : Below w.heap.size w w2 := Hb1.out.trans (hF.below.mono Hb1.out.size)
  have hb3 : Below w2.heap.size w2 (w2.alloc (.cells #[.slice A q c, .int .i64 mm] 25)) := (Below.refl _ _).alloc (Nat.le_refl _) _
  obtain ⟨s1, s2, s3⟩ := set_bd a4 q k1 k2
  have Hb2 := Lib.hid hb2
  have Hb3 := Lib.hid hb3
  clear hF hb2 hb3 N1 N3
  go_wp2_with fail
  refine (set_any A q c mm a4 _ k1 k2 h4).mono ?_
  rintro e w4 ⟨rfl, rfl⟩
  obtain ⟨sa, hsa⟩ : ∃ sa, sa = a4 % 2 ^ q := ⟨_, rfl⟩
  rw [← hsa] at s1 s2 s3 ⊢
  have HSA := Lib.hid hsa
  clear hsa
  have hb4 : Below w2.heap.size w2 ((w2.alloc (.cells #[.slice A q c, .int .i64 mm] 25)).alloc (.cells #[.slice A q c, .int .i64 mm] 25)) := Hb3.out.alloc Hb3.out.size _
  have HB4 := Lib.hid hb4
  clear hb4
  have os : Own 25 ((w2.alloc (.cells #[.slice A q c, .int .i64 mm] 25)).alloc (.cells #[.slice A q c, .int .i64 mm] 25)) w2.heap.size [.slice A q c, .int .i64 mm] := (Below.heap_alloc _ _ _ (by simp)).trans (heap_alloc_new w2 _)
  have OS := Lib.hid os
  clear os
  generalize (w2.alloc (.cells #[.slice A q c, .int .i64 mm] 25)).alloc (.cells #[.slice A q c, .int .i64 mm] 25) = w4 at HB4 OS ⊢
  have hl4 : ∀ r ∈ l, r.key.length = q ∧ r.m.length = mm := F.out.lens
  have HL4 := Lib.hid (fun r hr => (show r.key.length ≤ 4 ∧ r.m.length = mm from ⟨by rw [(hl4 r hr).1]; exact k2, (hl4 r hr).2⟩))
  have hmk := fun W (hW : Below w2.heap.size w2 W) => make_any D m d C sa l W (F.out.rows.below hW (Nat.le_refl _)) F.out.em k4 F.out.small (fun r hr => by have := hl4 r hr; omega) s1 s2
  obtain ⟨L, hL⟩ : ∃ L, L = l.map (ofC sa) := ⟨_, rfl⟩
  have hLm : L.length = m := by rw [hL, List.length_map, F.out.em]
  obtain ⟨dd, hdd⟩ : ∃ dd, dd = dimN sa q := ⟨_, rfl⟩
  have hdd4 : dd ≤ 4 := by rw [hdd]; exact Nat.le_trans (dimN_le sa q) k2
  have hLo : OkL dd mm L := by rw [hL, hdd]; exact ok_cells sa F.out.right hl4 F.out.c16
  rw [← hL] at hmk
  have HMK := Lib.hid hmk
  have HLo := Lib.hid hLo
  have HLm := Lib.hid hLm
  have HLL := Lib.hid hL
  have HFA := Lib.hid (fun (set : Int) (W : World) (hW : Below w2.heap.size w2 W) (e1 : 0 ≤ set) (e2 : set ≤ 15) => rFacts_any D m d C mm set l W (F.out.rows.below hW (Nat.le_refl _)) F.out.em k4 F.out.small HL4.out (by omega) e1 e2)
  have hLi : ∀ x ∈ L, inK .i64 x.cnt := by rw [hL]; exact ofC_cnt sa l
  have hL1 : ∀ x ∈ L, x.cnt = 1 := by rw [hL]; exact ofC_one sa l
  have HL1 := Lib.hid hL1
  have RUN := Lib.hid (fun (P : Option Addr) (c N k : Nat) (W : World) (hK : RowC W P N L) (hN : N = m) (g1 : 1 ≤ k) (g2 : k ≤ 1000) => runs_row P c N k dd mm L W hK (by omega) (by omega) hLo (by omega) (by omega) hLi g1 (by omega))
  have Hb24 := Lib.hid (Hb2.out.trans (HB4.out.mono Hb2.out.size))
  clear hl4 hL hLm hdd hLo hmk hLi hL1
  go_wp2_with fail
  refine (HMK.out w4 HB4.out).mono ?_
  rintro e w5 ⟨lv, us, rfl, hg, hb5⟩
  obtain ⟨Pl, cl, fl, -, -, -, hPl⟩ := hg.form
  have hul := hg.len
  rw [HLm.out] at hul
  rw [hul] at fl
  subst fl
  have RL := Lib.hid hg.rowC.1
  have HPL := Lib.hid hPl
  have HGL := Lib.hid hg
  have HB5 := Lib.hid (HB4.out.trans (hb5.mono HB4.out.size))
  have Hb5 := Lib.hid (Hb24.out.trans (hb5.mono Hb24.out.size))
  have Hb45 := Lib.hid hb5
  clear hul hg hb5 hPl
  obtain ⟨kk, hkk⟩ : ∃ kk : Nat, (kk : Int) = a5 % 12 := ⟨(a5 % 12).toNat, by omega⟩
  have hkkn : kk < 12 := by omega
  have Hkk := Lib.hid hkk
  clear hkk
  go_wp2_with fail
  refine (HW.out a5 12 w5 h5 (by omega) (by omega)).mono ?_
  rintro e w' ⟨rfl, hw'⟩
  subst hw'
  rw [← Hkk.out]
  obtain ⟨K, hK⟩ : ∃ K, K = kk + 1 := ⟨_, rfl⟩
  have hw1 : IntKind.i64.wrap (1 + (kk : Int)) = (K : Int) := by rw [IntWalk.i64_in _ (by omega), hK]; push_cast; omega
  have hKb : 1 ≤ K ∧ K ≤ 12 := by omega
  clear hK hkkn
  obtain ⟨Js, hJs⟩ : ∃ Js, Js = runsP K [] L := ⟨_, rfl⟩
  obtain ⟨R, hR⟩ : ∃ R, R = Js.length := ⟨_, rfl⟩
  have hRm : R ≤ 40 := by rw [hR, hJs]; have := runs_num hKb.1 L; have := HLm.out; omega
  have hFL : Js.flatten.length ≤ 40 := by
    have := runs_len (m := K) L []
    rw [← hJs, HLm.out, List.length_nil] at this
    omega
  have hpos : ∀ J ∈ Js, 1 ≤ J.length := fun J hJ => (runs_each hKb.1 L [] (by simp [RiseC]) (by simp) J (hJs ▸ hJ)).2.1
  have hok : OkL dd mm Js.flatten := by rw [hJs]; exact runs_ok (m := K) L [] HLo.out (fun y hy => absurd hy List.not_mem_nil)
  have hgr : grpR Js.flatten = grpR L := by rw [hJs]; exact runs_grp K L
  have HPOS := Lib.hid hpos
  have HOK := Lib.hid hok
  have HGR := Lib.hid hgr
  have HJs := Lib.hid hJs
  have HR := Lib.hid hR
  have HFL := Lib.hid hFL
  clear hpos hJs hR hok hgr hFL
  go_wp2_with fail
  have hr := RUN.out Pl cl m K w5 RL.out rfl hKb.1 (by omega)
  rw [← HJs.out, ← HR.out] at hr
  refine hr.mono ?_
  clear hr
  rintro e w8 ⟨P8, c8, rfl, hC8, b8⟩
  have HC8 := Lib.hid hC8
  have B58 := Lib.hid b8
  have HB8 := Lib.hid (Hb5.out.trans (b8.mono Hb5.out.size))
  clear hC8 b8
  go_wp2_with fail
  go_loopw [17, 18] (fun s17 s18 wr => ∃ (i : Nat) (us : List V5), s18 = .int .i64 i ∧ i ≤ R ∧ RowRd w8.heap.size w8 wr s17 us (upTo Js i) ∧ Below w8.heap.size w8 wr) (fun _ s18 _ => R - (intOf s18).toNat)
  case atStart => exact ⟨0, [], rfl, Nat.zero_le _, RowRd.nil _ _ _, Below.refl _ _⟩
  case round =>
    obtain ⟨i, us, rfl, hi, hRd, hb⟩ := hrel
    rename World => wr
    have HRD := Lib.hid hRd
    have Hbr := Lib.hid hb
    clear hRd hb
    by_cases hlt : i < R
    · have d1 : decide ((i : Int) < (R : Int)) = true := decide_eq_true (by omega)
      obtain ⟨ad, rfl, hc⟩ := HC8.out (by omega)
      obtain ⟨J, hJ⟩ : ∃ J, Js[i]? = some J := ⟨_, List.getElem?_eq_getElem (by rw [← HR.out]; exact hlt)⟩
      obtain ⟨Pi, ci, a0, hrow, -⟩ := hc i J hJ
      have hj1 := HPOS.out J (List.mem_of_getElem? hJ)
      obtain ⟨j, hj⟩ : ∃ j, j = J.length := ⟨_, rfl⟩
      rw [← hj] at a0 hrow hj1
      have a1 := Keeps.of_below Hbr.out _ _ a0
      have hup := upTo_next hJ
      have hbd : us.length + j ≤ 1000000 := by
        obtain ⟨r, hr⟩ := @upTo_app Js (i + 1)
        have h1 := HFL.out
        have h2 := HRD.out.2.1
        rw [hr, hup, List.length_append, List.length_append, ← h2, ← hj] at h1
        omega
      obtain ⟨v', us2, Y, hrun, hRd', -, hbY⟩ := app_read (c := ci) HRD.out hrow hj hj1 Hbr.out hbd Hbr.out.size
      rw [← hup] at hRd'
      have Hrun := Lib.hid hrun
      have HRD' := Lib.hid hRd'
      have HBY := Lib.hid (Hbr.out.trans hbY)
      have i0 : (0 : Int) ≤ (i : Int) := by omega
      have i1 : (i : Int) < (R : Int) := by omega
      clear hc hJ hj hrow hj1 a0 hup hbd hrun hRd' hbY
      go_wp2_with (first | (at_builtin; have _t := Hrun; refine wpList_append_eq rfl (.tmp 45) (.tmp 49) 29 rfl _ _ _ _ rfl rfl Hrun.out ?_; clear _t Hrun) | fail)
      go_roundw
      case rel => exact ⟨i + 1, us ++ us2, by go_num, by omega, HRD'.out, HBY.out⟩
      case measure => simp [intOf]; omega
    · obtain rfl : i = R := by omega
      have d1 : decide ((i : Int) < (i : Int)) = false := by simp
      have hall : upTo Js i = Js.flatten := by rw [HR.out, upTo_all]
      have hRd := HRD.out
      rw [hall] at hRd
      obtain ⟨Pa, ca, fa, hrow⟩ := hRd.row Hbr.out
      obtain ⟨NA, hNA⟩ : ∃ NA, NA = Js.flatten.length := ⟨_, rfl⟩
      have hNA40 : NA ≤ 40 := by rw [hNA]; exact HFL.out
      rw [← hNA] at fa hrow
      clear HRD hRd
      subst fa
      have hg := rGroup_any Pa ca NA mm Js.flatten wr hrow (fun x hx => ⟨(HOK.out x hx).2.2, by have := (HOK.out x hx).1; omega⟩) (by omega) hNA (by omega)
      rw [HGR.out] at hg
      have HG := Lib.hid hg
      have B5r := Lib.hid (B58.out.trans (Hbr.out.mono B58.out.size))
      obtain ⟨NG, hNG⟩ : ∃ NG, NG = (grpR L).length := ⟨_, rfl⟩
      have hNm : NG ≤ 40 := by have := grp_le L; have := HLm.out; omega
      have HNG := Lib.hid hNG
      have HNm := Lib.hid hNm
      clear hg hrow hNA hNG hNm hNA40 hall
      go_wp2_with fail
      refine HG.out.mono ?_
      rintro e w9 ⟨v9, u9, rfl, g9, b9⟩
      obtain ⟨P9, c9, f9, -⟩ := g9.form
      have l9 : u9.length = NG := by rw [g9.len, HNG.out]
      rw [l9] at f9
      subst f9
      have R9 := Lib.hid g9.rowC.1
      have B9 := Lib.hid (B5r.out.trans (b9.mono B5r.out.size))
      clear g9 b9 l9
      go_wp2_with fail
      refine (HFA.out sa w9 (HB5.out.trans (B9.out.mono HB5.out.size)) s1 s2).mono ?_
      rintro e w10 ⟨vf, uf, rfl, gf, bf⟩
      rw [← HLL.out] at gf
      obtain ⟨Pf, cf, ff, -⟩ := gf.form
      have lf : uf.length = NG := by rw [gf.len, HNG.out]
      rw [lf] at ff
      subst ff
      have RF := Lib.hid gf.rowC.1
      have R9' := Lib.hid (R9.out.keep (Keeps.of_below bf))
      have BF := Lib.hid (B9.out.trans (bf.mono B9.out.size))
      clear gf bf lf
      go_wp2_with fail
      have hfew : FewC (grpR L) := (grp_okL HLo.out).few (by omega) (by omega)
      refine (same_yes P9 Pf NG c9 cf (grpR L) w10 R9'.out RF.out HNG.out hfew (by have := HNm.out; omega)).mono ?_
      rintro e w11 ⟨rfl, b11⟩
      have B11 := Lib.hid (Hb5.out.trans ((BF.out.trans (b11.mono BF.out.size)).mono Hb5.out.size))
      clear b11 hfew
      go_wp2
      go_ret
      exact ⟨rfl, B11.out⟩
end Go.Proofs.YtaaciedelfaekaaDoor
