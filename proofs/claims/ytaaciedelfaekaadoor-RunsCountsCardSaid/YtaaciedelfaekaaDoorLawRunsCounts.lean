/- The law RunsCounts. -/
import Derived.IntWalk
import Derived.Test.YtaaciedelfaekaaDoorKnow5
import Derived.Test.YtaaciedelfaekaaDoorMath5
import Derived.Test.YtaaciedelfaekaaDoorFactsH
import Derived.Test.YtaaciedelfaekaaDoorFactsLaw2
import Derived.Test.YtaaciedelfaekaaDoorMake
import Derived.Test.YtaaciedelfaekaaDoorSet
import Derived.Test.YtaaciedelfaekaaDoorIsRow
import Derived.Test.YtaaciedelfaekaaDoorRfacts
import Derived.Test.YtaaciedelfaekaaDoorRef5a
namespace Go.Proofs.YtaaciedelfaekaaDoor
open Go.RowKit
attribute [local go_sem] Oper.semAt_some
set_option maxRecDepth 100000 in
set_option maxHeartbeats 8000000 in
theorem runsCounts_walk (a0 : Int) (a1 : Option Addr) (len1 cap1 : Nat) (z1 : List Int) (a2 : Int) (a3 : Option Addr) (len3 cap3 : Nat) (z3 : List Int) (a4 : Int) (a5 : Int) (w : World) (h0 : inK .i64 a0) (w1 : IsRow .i64 w a1 len1 cap1 z1) (h2 : inK .i64 a2) (w3 : IsRow .i64 w a3 len3 cap3 z3) (h4 : inK .i64 a4) (h5 : inK .i64 a5) :
    Calls Tryd.prog 11 #[.int .i64 a0, .slice a1 len1 cap1, .int .i64 a2, .slice a3 len3 cap3, .int .i64 a4, .int .i64 a5] w fun e w' => e = .returned (.bool true) ∧ Below w.heap.size w w' := by
  obtain ⟨n1, lc1, cm1⟩ := w1.nums
  obtain ⟨n3, lc3, cm3⟩ := w3.nums
  have HW := Lib.hid (fun (x n : Int) (W : World) (h : inK .i64 x) (e1 : 1 ≤ n) (e2 : n ≤ 100) => lwithin5 x n W h e1 (by omega))
  have N1 := Lib.hid n1
  have N3 := Lib.hid n3
  have HKn := Lib.hid (known5_any w)
  clear w1 w3 n1 n3
  go_enter Tryd.func11, Tryd.ntmps11
  go_wp2_with fail
  refine HKn.out.mono ?_
  rintro e w1 ⟨rfl, hb1⟩
  have Hb1 := Lib.hid hb1
  clear hb1 HKn
  go_wp2_with fail
  refine (Facts_res a0 a2 a1 a3 len1 cap1 len3 cap3 _ _ w1 (N1.out.keep (Keeps.of_below Hb1.out)) (N3.out.keep (Keeps.of_below Hb1.out)) (by omega) (by omega) h0 h2).mono ?_
  rintro e w2 ⟨A, c, D, d, C, q, mm, m, cs, l, rfl, hF⟩
  have F := Lib.hid hF
  obtain ⟨k1, k2, k3, k4⟩ : 1 ≤ q ∧ q ≤ 4 ∧ mm ≤ 2 ∧ m ≤ 40 := ⟨hF.q1, hF.q4, hF.m2, hF.m40⟩
  have hb2 : Below w.heap.size w w2 := Hb1.out.trans (hF.below.mono Hb1.out.size)
  have hb3 : Below w2.heap.size w2 (w2.alloc (.cells #[.slice A q c, .int .i64 mm] 25)) := (Below.refl _ _).alloc (Nat.le_refl _) _
  obtain ⟨s1, s2, s3⟩ := set_bd a4 q k1 k2
  have Hb2 := Lib.hid hb2
  have Hb3 := Lib.hid hb3
  clear hF hb2 hb3 N1 N3
  go_wp2_with fail
  refine (set_any A q c mm a4 _ k1 k2 h4).mono ?_
  rintro e w4 ⟨rfl, rfl⟩
  obtain ⟨sa, hsa⟩ : ∃ sa, sa = a4 % 2 ^ q := ⟨_, rfl⟩
  rw [← hsa] at s1 s2 s3 ⊢
  have HSA := Lib.hid hsa
  clear hsa
  have hb4 : Below w2.heap.size w2 ((w2.alloc (.cells #[.slice A q c, .int .i64 mm] 25)).alloc (.cells #[.slice A q c, .int .i64 mm] 25)) := Hb3.out.alloc Hb3.out.size _
  have HB4 := Lib.hid hb4
  clear hb4
  have os : Own 25 ((w2.alloc (.cells #[.slice A q c, .int .i64 mm] 25)).alloc (.cells #[.slice A q c, .int .i64 mm] 25)) w2.heap.size [.slice A q c, .int .i64 mm] := (Below.heap_alloc _ _ _ (by simp)).trans (heap_alloc_new w2 _)
  have OS := Lib.hid os
  clear os
  generalize (w2.alloc (.cells #[.slice A q c, .int .i64 mm] 25)).alloc (.cells #[.slice A q c, .int .i64 mm] 25) = w4 at HB4 OS ⊢
  have hl4 : ∀ r ∈ l, r.key.length = q ∧ r.m.length = mm := F.out.lens
  have HL4 := Lib.hid (fun r hr => (show r.key.length ≤ 4 ∧ r.m.length = mm from ⟨by rw [(hl4 r hr).1]; exact k2, (hl4 r hr).2⟩))
  have hmk := fun W (hW : Below w2.heap.size w2 W) => make_any D m d C sa l W (F.out.rows.below hW (Nat.le_refl _)) F.out.em k4 F.out.small (fun r hr => by have := hl4 r hr; omega) s1 s2
  obtain ⟨L, hL⟩ : ∃ L, L = l.map (ofC sa) := ⟨_, rfl⟩
  have hLm : L.length = m := by rw [hL, List.length_map, F.out.em]
  obtain ⟨dd, hdd⟩ : ∃ dd, dd = dimN sa q := ⟨_, rfl⟩
  have hdd4 : dd ≤ 4 := by rw [hdd]; exact Nat.le_trans (dimN_le sa q) k2
  have hLo : OkL dd mm L := by rw [hL, hdd]; exact ok_cells sa F.out.right hl4 F.out.c16
  rw [← hL] at hmk
  have HMK := Lib.hid hmk
  have HLo := Lib.hid hLo
  have HLm := Lib.hid hLm
  have HLL := Lib.hid hL
  have HFA := Lib.hid (fun (set : Int) (W : World) (hW : Below w2.heap.size w2 W) (e1 : 0 ≤ set) (e2 : set ≤ 15) => rFacts_any D m d C mm set l W (F.out.rows.below hW (Nat.le_refl _)) F.out.em k4 F.out.small HL4.out (by omega) e1 e2)
  have hLi : ∀ x ∈ L, inK .i64 x.cnt := by rw [hL]; exact ofC_cnt sa l
  have hL1 : ∀ x ∈ L, x.cnt = 1 := by rw [hL]; exact ofC_one sa l
  have HL1 := Lib.hid hL1
  have RUN := Lib.hid (fun (P : Option Addr) (c N k : Nat) (W : World) (hK : RowC W P N L) (hN : N = m) (g1 : 1 ≤ k) (g2 : k ≤ 1000) => runs_row P c N k dd mm L W hK (by omega) (by omega) hLo (by omega) (by omega) hLi g1 (by omega))
  have Hb24 := Lib.hid (Hb2.out.trans (HB4.out.mono Hb2.out.size))
  clear hl4 hL hLm hdd hLo hmk hLi hL1
  go_wp2_with fail
  refine (HMK.out w4 HB4.out).mono ?_
  rintro e w5 ⟨lv, us, rfl, hg, hb5⟩
  obtain ⟨Pl, cl, fl, -, -, -, hPl⟩ := hg.form
  have hul := hg.len
  rw [HLm.out] at hul
  rw [hul] at fl
  subst fl
  have RL := Lib.hid hg.rowC.1
  have HPL := Lib.hid hPl
  have HGL := Lib.hid hg
  have HB5 := Lib.hid (HB4.out.trans (hb5.mono HB4.out.size))
  have Hb5 := Lib.hid (Hb24.out.trans (hb5.mono Hb24.out.size))
  have Hb45 := Lib.hid hb5
  clear hul hg hb5 hPl
  obtain ⟨kk, hkk⟩ : ∃ kk : Nat, (kk : Int) = a5 % 9 := ⟨(a5 % 9).toNat, by omega⟩
  have hkkn : kk < 9 := by omega
  have Hkk := Lib.hid hkk
  clear hkk
  go_wp2_with fail
  refine (HW.out a5 9 w5 h5 (by omega) (by omega)).mono ?_
  rintro e w' ⟨rfl, hw'⟩
  subst hw'
  rw [← Hkk.out]
  obtain ⟨K, hK⟩ : ∃ K, K = kk + 1 := ⟨_, rfl⟩
  have hw1 : IntKind.i64.wrap (1 + (kk : Int)) = (K : Int) := by rw [IntWalk.i64_in _ (by omega), hK]; push_cast; omega
  have hKb : 1 ≤ K ∧ K ≤ 12 := by omega
  clear hK hkkn
  obtain ⟨Js, hJs⟩ : ∃ Js, Js = runsP K [] L := ⟨_, rfl⟩
  obtain ⟨R, hR⟩ : ∃ R, R = Js.length := ⟨_, rfl⟩
  have hP : PosC L := fun x hx => by have := HL1.out x hx; omega
  have hLc : cnts L = (m : Int) := by rw [cnts_one HL1.out, HLm.out]
  obtain ⟨hPJ, hcJ⟩ := runs_cnts (m := K) L [] (fun x hx => absurd hx List.not_mem_nil) hP (by rw [hLc]; simp only [cnts, List.map_nil, List.sum_nil]; omega)
  have hcJ2 : cnts Js.flatten = (m : Int) := by rw [hJs, hcJ, hLc]; simp [cnts]
  rw [← hJs] at hPJ
  have hRm : R ≤ 40 := by rw [hR, hJs]; have := runs_num hKb.1 L; have := HLm.out; omega
  have hJm : ∀ J ∈ Js, J.length ≤ 40 := fun J hJ => by
    have h1 := (runs_each hKb.1 L [] (by simp [RiseC]) (by simp) J (hJs ▸ hJ)).2.2
    omega
  have HJM := Lib.hid hJm
  have HPJ := Lib.hid hPJ
  have HCJ := Lib.hid hcJ2
  have HJs := Lib.hid hJs
  have HR := Lib.hid hR
  clear hJm hPJ hcJ hcJ2 hJs hR hP hLc
  go_wp2_with fail
  have hr := RUN.out Pl cl m K w5 RL.out rfl hKb.1 (by omega)
  rw [← HJs.out, ← HR.out] at hr
  refine hr.mono ?_
  clear hr
  rintro e w8 ⟨P8, c8, rfl, hC8, b8⟩
  have HC8 := Lib.hid hC8
  have HB8 := Lib.hid (Hb5.out.trans (b8.mono Hb5.out.size))
  clear hC8 b8
  go_wp2_with fail
  go_loopw [17, 18] (fun s17 s18 wr => ∃ (i : Nat), s17 = .int .i64 (cnts (upTo Js i)) ∧ s18 = .int .i64 i ∧ i ≤ R ∧ Below w8.heap.size w8 wr) (fun _ s18 _ => R - (intOf s18).toNat)
  case atStart => exact ⟨0, rfl, rfl, Nat.zero_le _, Below.refl _ _⟩
  case round =>
    obtain ⟨i, rfl, rfl, hi, hb⟩ := hrel
    rename World => wr
    obtain ⟨n0, hn0⟩ : ∃ n0, n0 = cnts (upTo Js i) := ⟨_, rfl⟩
    rw [← hn0]
    have Hn0 := Lib.hid hn0
    have Hbr := Lib.hid hb
    clear hn0 hb
    by_cases hlt : i < R
    · have d1 : decide ((i : Int) < (R : Int)) = true := decide_eq_true (by omega)
      obtain ⟨ad, rfl, hc⟩ := HC8.out.keep (Keeps.of_below Hbr.out) (by omega)
      obtain ⟨J, hJ⟩ : ∃ J, Js[i]? = some J := ⟨_, List.getElem?_eq_getElem (by rw [← HR.out]; exact hlt)⟩
      obtain ⟨Pi, ci, a0, hrow, -⟩ := hc i J hJ
      obtain ⟨j, hj⟩ : ∃ j, j = J.length := ⟨_, rfl⟩
      rw [← hj] at a0 hrow
      have hj40 : j ≤ 40 := by rw [hj]; exact HJM.out J (List.mem_of_getElem? hJ)
      have hup : cnts (upTo Js (i + 1)) = n0 + cnts J := by rw [upTo_next hJ, cnts_app, ← Hn0.out]
      have hpj : PosC J := fun x hx => HPJ.out x (List.mem_flatten.2 ⟨J, List.mem_of_getElem? hJ, hx⟩)
      have hbd : 0 ≤ n0 ∧ n0 + cnts J ≤ (m : Int) := by
        obtain ⟨r, hr⟩ := @upTo_app Js (i + 1)
        have hr1 : PosC r := fun x hx => HPJ.out x (by rw [hr]; exact List.mem_append_right _ hx)
        have hr2 := hr1.sum
        have h2 := HCJ.out
        rw [hr, cnts_app, hup] at h2
        have hr3 : PosC (upTo Js i) := fun x hx => HPJ.out x (by
          rw [hr, upTo_next hJ]
          exact List.mem_append_left _ (List.mem_append_left _ hx))
        have := hr3.sum
        rw [Hn0.out]
        rw [Hn0.out] at h2
        omega
      have HU := Lib.hid hup
      have HROW := Lib.hid hrow
      have HPj := Lib.hid hpj
      have HJl := Lib.hid hj
      have HBD := Lib.hid hbd
      have i0 : (0 : Int) ≤ (i : Int) := by omega
      have i1 : (i : Int) < (R : Int) := by omega
      have HA0 := Lib.hid a0
      clear hc hJ hj hup hrow hpj hbd a0
      go_wp2_with fail
      go_loopw [17, 19] (fun s17 s19 wy => ∃ (k : Nat), s17 = .int .i64 (n0 + cnts (J.take k)) ∧ s19 = .int .i64 k ∧ k ≤ j ∧ Below wr.heap.size wr wy) (fun _ s19 _ => j - (intOf s19).toNat)
      case atStart => exact ⟨0, by simp [cnts], rfl, Nat.zero_le _, Below.refl _ _⟩
      case round =>
        obtain ⟨k, rfl, rfl, hk, hb2⟩ := hrel
        rename World => wy
        have a0 := Keeps.of_below hb2 _ _ HA0.out
        have Hb2 := Lib.hid hb2
        obtain ⟨v0, hv0⟩ : ∃ v0, v0 = n0 + cnts (J.take k) := ⟨_, rfl⟩
        rw [← hv0]
        by_cases hlk : k < j
        · have d2 : decide ((k : Int) < (j : Int)) = true := decide_eq_true (by omega)
          obtain ⟨x, hx⟩ : ∃ x, J[k]? = some x := ⟨_, List.getElem?_eq_getElem (by rw [← HJl.out]; exact hlk)⟩
          obtain ⟨bd, rfl, hcl⟩ := HROW.out.keep (Keeps.of_below hb2) (by omega)
          obtain ⟨vk, vs, vn, vm, -, b1, -, -, -, -, -⟩ := hcl k x hx
          have hsn : cnts (J.take (k + 1)) = cnts (J.take k) + x.cnt := by rw [List.take_add_one, hx, Option.toList_some, cnts_app]; simp [cnts]
          have h1 := cnts_take J (k + 1) HPj.out
          have h2 := HPj.out x (List.mem_of_getElem? hx)
          have h3 := cnts_take J k HPj.out
          obtain ⟨xc, hxc⟩ : ∃ xc, xc = x.cnt := ⟨_, rfl⟩
          rw [← hxc] at b1 hsn h2
          have hvv : v0 + xc = n0 + cnts (J.take (k + 1)) := by rw [hv0, hsn]; omega
          have hwn : IntKind.i64.wrap (v0 + xc) = v0 + xc := IntWalk.i64_in _ (by have := HBD.out; omega)
          have HVV := Lib.hid hvv
          have i2 : (0 : Int) ≤ (k : Int) := by omega
          have i3 : (k : Int) < (j : Int) := by omega
          clear hcl hx hsn h1 h2 h3 hvv hv0 hb2 hxc
          go_wp2
          go_roundw
          case rel => exact ⟨k + 1, by rw [← HVV.out], by go_num, by omega, Hb2.out⟩
          case measure => simp [intOf]; omega
        · obtain rfl : k = j := by omega
          have d2 : decide ((k : Int) < (k : Int)) = false := by simp
          have hend : v0 = cnts (upTo Js (i + 1)) := by rw [hv0, HU.out, List.take_of_length_le (by rw [← HJl.out]; exact Nat.le_refl _)]
          have HEND := Lib.hid hend
          have HB2 := Lib.hid (Hbr.out.trans (hb2.mono Hbr.out.size))
          clear hend hb2 hv0
          go_wp2
          go_roundw
          case rel => exact ⟨i + 1, by rw [← HEND.out], by go_num, by omega, HB2.out⟩
          case measure => simp [intOf]; omega
    · obtain rfl : i = R := by omega
      have d1 : decide ((i : Int) < (i : Int)) = false := by simp
      have hnn : n0 = (m : Int) := by rw [Hn0.out, HR.out, upTo_all, HCJ.out]
      subst hnn
      have d2 : ((m : Int) == (m : Int)) = true := by simp
      have HS := Lib.hid (rSorted_any none 0 0 [] wr (fun h => absurd h (by omega)) rfl (fun y hy => absurd hy List.not_mem_nil) (by omega))
      go_wp2_with fail
      refine HS.out.mono ?_
      rintro e w9 ⟨rfl, hb9⟩
      have HB9 := Lib.hid ((HB8.out.trans (Hbr.out.mono HB8.out.size)).trans (hb9.mono (HB8.out.trans (Hbr.out.mono HB8.out.size)).size))
      have hrn : riseB [] = true := rfl
      clear hb9
      go_wp2
      go_ret
      exact ⟨rfl, HB9.out⟩
end Go.Proofs.YtaaciedelfaekaaDoor
