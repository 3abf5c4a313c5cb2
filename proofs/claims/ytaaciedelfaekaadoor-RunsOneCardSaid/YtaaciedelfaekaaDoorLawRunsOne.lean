/- The law RunsOne. -/
import Derived.IntWalk
import Derived.Test.YtaaciedelfaekaaDoorKnow5
import Derived.Test.YtaaciedelfaekaaDoorMath5
import Derived.Test.YtaaciedelfaekaaDoorFactsH
import Derived.Test.YtaaciedelfaekaaDoorFactsLaw2
import Derived.Test.YtaaciedelfaekaaDoorMake
import Derived.Test.YtaaciedelfaekaaDoorSet
import Derived.Test.YtaaciedelfaekaaDoorIsRow
import Derived.Test.YtaaciedelfaekaaDoorRfacts
import Derived.Test.YtaaciedelfaekaaDoorCut5
namespace Go.Proofs.YtaaciedelfaekaaDoor
open Go.RowKit
attribute [local go_sem] Oper.semAt_some
set_option maxRecDepth 100000 in
set_option maxHeartbeats 8000000 in
theorem runsOne_walk (a0 : Int) (a1 : Option Addr) (len1 cap1 : Nat) (z1 : List Int) (a2 : Int) (a3 : Option Addr) (len3 cap3 : Nat) (z3 : List Int) (a4 : Int) (a5 : Int) (w : World) (h0 : inK .i64 a0) (w1 : IsRow .i64 w a1 len1 cap1 z1) (h2 : inK .i64 a2) (w3 : IsRow .i64 w a3 len3 cap3 z3) (h4 : inK .i64 a4) (h5 : inK .i64 a5) :
    Calls Tryd.prog 6 #[.int .i64 a0, .slice a1 len1 cap1, .int .i64 a2, .slice a3 len3 cap3, .int .i64 a4, .int .i64 a5] w fun e w' => e = .returned (.bool true) ∧ Below w.heap.size w w' := by
  obtain ⟨n1, lc1, cm1⟩ := w1.nums
  obtain ⟨n3, lc3, cm3⟩ := w3.nums
  have HW := Lib.hid (fun (x n : Int) (W : World) (h : inK .i64 x) (e1 : 1 ≤ n) (e2 : n ≤ 100) => lwithin5 x n W h e1 (by omega))
  have N1 := Lib.hid n1
  have N3 := Lib.hid n3
  have HKn := Lib.hid (known5_any w)
  clear w1 w3 n1 n3
  go_enter Tryd.func6, Tryd.ntmps6
  go_wp2_with fail
  refine HKn.out.mono ?_
  rintro e w1 ⟨rfl, hb1⟩
  have Hb1 := Lib.hid hb1
  clear hb1 HKn
  go_wp2_with fail
  refine (Facts_res a0 a2 a1 a3 len1 cap1 len3 cap3 _ _ w1 (N1.out.keep (Keeps.of_below Hb1.out)) (N3.out.keep (Keeps.of_below Hb1.out)) (by omega) (by omega) h0 h2).mono ?_
  rintro e w2 ⟨A, c, D, d, C, q, mm, m, cs, l, rfl, hF⟩
  have F := Lib.hid hF
  obtain ⟨k1, k2, k3, k4⟩ : 1 ≤ q ∧ q ≤ 4 ∧ mm ≤ 2 ∧ m ≤ 40 := ⟨hF.q1, hF.q4, hF.m2, hF.m40⟩
  have hb2 : Below w.heap.size w w2 := Hb1.out.trans (hF.below.mono Hb1.out.size)
  have hb3 : Below w2.heap.size w2 (w2.alloc (.cells #[.slice A q c, .int .i64 mm] 25)) := (Below.refl _ _).alloc (Nat.le_refl _) _
  obtain ⟨s1, s2, s3⟩ := set_bd a4 q k1 k2
  have Hb2 := Lib.hid hb2
  have Hb3 := Lib.hid hb3
  clear hF hb2 hb3 N1 N3
  go_wp2_with fail
  refine (set_any A q c mm a4 _ k1 k2 h4).mono ?_
  rintro e w4 ⟨rfl, rfl⟩
  obtain ⟨sa, hsa⟩ : ∃ sa, sa = a4 % 2 ^ q := ⟨_, rfl⟩
  rw [← hsa] at s1 s2 s3 ⊢
  have HSA := Lib.hid hsa
  clear hsa
  have hb4 : Below w2.heap.size w2 ((w2.alloc (.cells #[.slice A q c, .int .i64 mm] 25)).alloc (.cells #[.slice A q c, .int .i64 mm] 25)) := Hb3.out.alloc Hb3.out.size _
  have HB4 := Lib.hid hb4
  clear hb4
  have os : Own 25 ((w2.alloc (.cells #[.slice A q c, .int .i64 mm] 25)).alloc (.cells #[.slice A q c, .int .i64 mm] 25)) w2.heap.size [.slice A q c, .int .i64 mm] := (Below.heap_alloc _ _ _ (by simp)).trans (heap_alloc_new w2 _)
  have OS := Lib.hid os
  clear os
  generalize (w2.alloc (.cells #[.slice A q c, .int .i64 mm] 25)).alloc (.cells #[.slice A q c, .int .i64 mm] 25) = w4 at HB4 OS ⊢
  have hl4 : ∀ r ∈ l, r.key.length = q ∧ r.m.length = mm := F.out.lens
  have HL4 := Lib.hid (fun r hr => (show r.key.length ≤ 4 ∧ r.m.length = mm from ⟨by rw [(hl4 r hr).1]; exact k2, (hl4 r hr).2⟩))
  have hmk := fun W (hW : Below w2.heap.size w2 W) => make_any D m d C sa l W (F.out.rows.below hW (Nat.le_refl _)) F.out.em k4 F.out.small (fun r hr => by have := hl4 r hr; omega) s1 s2
  obtain ⟨L, hL⟩ : ∃ L, L = l.map (ofC sa) := ⟨_, rfl⟩
  have hLm : L.length = m := by rw [hL, List.length_map, F.out.em]
  obtain ⟨dd, hdd⟩ : ∃ dd, dd = dimN sa q := ⟨_, rfl⟩
  have hdd4 : dd ≤ 4 := by rw [hdd]; exact Nat.le_trans (dimN_le sa q) k2
  have hLo : OkL dd mm L := by rw [hL, hdd]; exact ok_cells sa F.out.right hl4 F.out.c16
  rw [← hL] at hmk
  have HMK := Lib.hid hmk
  have HLo := Lib.hid hLo
  have HLm := Lib.hid hLm
  have HLL := Lib.hid hL
  have HFA := Lib.hid (fun (set : Int) (W : World) (hW : Below w2.heap.size w2 W) (e1 : 0 ≤ set) (e2 : set ≤ 15) => rFacts_any D m d C mm set l W (F.out.rows.below hW (Nat.le_refl _)) F.out.em k4 F.out.small HL4.out (by omega) e1 e2)
  have hLi : ∀ x ∈ L, inK .i64 x.cnt := by rw [hL]; exact ofC_cnt sa l
  have hL1 : ∀ x ∈ L, x.cnt = 1 := by rw [hL]; exact ofC_one sa l
  have HL1 := Lib.hid hL1
  have RUN := Lib.hid (fun (P : Option Addr) (c N k : Nat) (W : World) (hK : RowC W P N L) (hN : N = m) (g1 : 1 ≤ k) (g2 : k ≤ 1000) => runs_row P c N k dd mm L W hK (by omega) (by omega) hLo (by omega) (by omega) hLi g1 (by omega))
  have Hb24 := Lib.hid (Hb2.out.trans (HB4.out.mono Hb2.out.size))
  clear hl4 hL hLm hdd hLo hmk hLi hL1
  obtain ⟨NG, hNG⟩ : ∃ NG, NG = (grpR L).length := ⟨_, rfl⟩
  have hNm : NG ≤ 40 := by have := grp_le L; have := HLm.out; omega
  have HNG := Lib.hid hNG
  clear hNG
  go_wp2_with fail
  refine (HFA.out sa w4 HB4.out s1 s2).mono ?_
  rintro e w5 ⟨vf, uf, rfl, gf, bf⟩
  rw [← HLL.out] at gf
  obtain ⟨Pf, cf, ff, hcf1, hcf2, -, -⟩ := gf.form
  have lf : uf.length = NG := by rw [gf.len, HNG.out]
  rw [lf] at ff hcf1
  subst ff
  have RF := Lib.hid gf.rowC.1
  have hgi : ∀ x ∈ grpR L, inK .i64 x.cnt := fun x hx => by
    obtain ⟨i, hi⟩ := List.getElem?_of_mem hx
    obtain ⟨u, hu⟩ : ∃ u, uf[i]? = some u := ⟨_, List.getElem?_eq_getElem (by rw [gf.len]; exact (List.getElem?_eq_some_iff.1 hi).1)⟩
    exact (gf.2.2 i u x hu hi).2.2
  have HGI := Lib.hid hgi
  have B45 := Lib.hid bf
  have HB5' := Lib.hid (HB4.out.trans (bf.mono HB4.out.size))
  clear gf bf lf hgi
  go_wp2_with fail
  refine (HMK.out w5 HB5'.out).mono ?_
  rintro e w6 ⟨lv, us, rfl, hg, hb6⟩
  obtain ⟨Pl, cl, fl, -⟩ := hg.form
  have hul := hg.len
  rw [HLm.out] at hul
  rw [hul] at fl
  subst fl
  have RL := Lib.hid hg.rowC.1
  have RF6 := Lib.hid (RF.out.keep (Keeps.of_below hb6))
  have Hb6 := Lib.hid (Hb24.out.trans ((B45.out.trans (hb6.mono B45.out.size)).mono Hb24.out.size))
  clear hul hg hb6
  obtain ⟨R1, hR1⟩ : ∃ R, R = (runsP 1000 [] L).length := ⟨_, rfl⟩
  go_wp2_with fail
  have hr := RUN.out Pl cl m 1000 w6 RL.out rfl (by omega) (by omega)
  rw [← hR1] at hr
  refine hr.mono ?_
  clear hr
  rintro e w7 ⟨P7, c7, rfl, hC7, b7⟩
  have HR1 := Lib.hid hR1
  have HC7 := Lib.hid hC7
  have RF7 := Lib.hid (RF6.out.keep (Keeps.of_below b7))
  have Hb7 := Lib.hid (Hb6.out.trans (b7.mono Hb6.out.size))
  clear hR1 hC7 b7
  obtain ⟨kk, hkk⟩ : ∃ kk : Nat, (kk : Int) = a5 % 12 := ⟨(a5 % 12).toNat, by omega⟩
  have hkkn : kk < 12 := by omega
  have Hkk := Lib.hid hkk
  clear hkk
  go_wp2_with fail
  refine (HW.out a5 12 w7 h5 (by omega) (by omega)).mono ?_
  rintro e w' ⟨rfl, hw'⟩
  subst hw'
  rw [← Hkk.out]
  obtain ⟨K, hK⟩ : ∃ K, K = kk + 1 := ⟨_, rfl⟩
  have hw1 : IntKind.i64.wrap (1 + (kk : Int)) = (K : Int) := by rw [IntWalk.i64_in _ (by omega), hK]; push_cast; omega
  have hKb : 1 ≤ K ∧ K ≤ 12 := by omega
  clear hK hkkn
  have hn := grp_okL HLo.out
  obtain ⟨RT, hRT⟩ : ∃ R, R = (runsP K [] (grpR L)).length := ⟨_, rfl⟩
  have hr := runs_row Pf cf NG K dd mm (grpR L) w7 RF7.out HNG.out (by omega) hn (by omega) (by omega) HGI.out hKb.1 (by omega)
  rw [← hRT] at hr
  have HRR := Lib.hid hr
  have HRT := Lib.hid hRT
  clear hn hr hRT
  go_wp2_with fail
  refine HRR.out.mono ?_
  rintro e w8 ⟨P8, c8, rfl, hC8, b8⟩
  have HC8 := Lib.hid hC8
  have HC78 := Lib.hid (HC7.out.keep (Keeps.of_below b8))
  have RF8 := Lib.hid (RF7.out.keep (Keeps.of_below b8))
  have Hb8 := Lib.hid (Hb7.out.trans (b8.mono Hb7.out.size))
  clear hC8 b8 HRR
  by_cases hz : NG = 0
  · have hLn : L = [] := by
      by_cases h : L = []
      · exact h
      · have := grp_pos h
        have := HNG.out
        omega
    have e1 : R1 = 0 := by rw [HR1.out, hLn]; rfl
    have e2 : RT = 0 := by rw [HRT.out, hLn]; rfl
    have d1 : ((NG : Int) == 0) = true := by rw [hz]; rfl
    have d2 : ((R1 : Int) == 0) = true := by rw [e1]; rfl
    have d3 : ((RT : Int) == 0) = true := by rw [e2]; rfl
    clear hLn e1 e2 hz
    go_wp2
    go_ret
    exact ⟨rfl, Hb8.out⟩
  · have hLn : L ≠ [] := fun h => hz (by rw [HNG.out, h]; rfl)
    have hone : runsP 1000 [] L = [grpR L] := runs_one L [] (by simp [RiseC]) (by rw [show L.foldl putC [] = grpR L from rfl, ← HNG.out]; omega) (.inr hLn)
    have e1 : R1 = 1 := by rw [HR1.out, hone]; rfl
    obtain ⟨hch1, hch2⟩ := runs_chunk (K := K) hKb.1 (grpR_rise L)
    rw [← HRT.out, ← HNG.out] at hch1
    have hRTm : RT ≤ 52 := by
      rw [hch1]
      exact Nat.le_trans (Nat.div_le_self _ _) (by omega)
    rw [← HNG.out] at hch2
    obtain ⟨ad7, rfl, hc7⟩ := HC78.out (by omega)
    obtain ⟨Pi, ci, a0, hrow, -⟩ := hc7 0 (grpR L) (by rw [hone]; rfl)
    rw [← HNG.out] at a0 hrow
    rw [add0'] at a0
    have d0 : ((NG : Int) == 0) = false := by rw [beq_eq_false_iff_ne]; omega
    have d1 : ((R1 : Int) != 1) = false := by rw [e1]; rfl
    have hfew : FewC (grpR L) := (grp_okL HLo.out).few (by omega) (by omega)
    have HS := Lib.hid (same_yes Pi Pf NG ci cf (grpR L) w8 hrow RF8.out HNG.out hfew (by omega))
    have HFEW := Lib.hid hfew
    have HCH1 := Lib.hid hch1
    have HCH2 := Lib.hid hch2
    have hp : (0 : Int) < (R1 : Int) := by omega
    clear hLn hone hc7 hrow hfew hch1 hch2
    go_wp2_with fail
    refine HS.out.mono ?_
    rintro e w9 ⟨rfl, b9⟩
    have Hb9 := Lib.hid (Hb8.out.trans (b9.mono Hb8.out.size))
    have RF9 := Lib.hid (RF8.out.keep (Keeps.of_below b9))
    have HC9 := Lib.hid (HC8.out.keep (Keeps.of_below b9))
    clear b9 HS
    have hK0 : ¬ (K : Int) = 0 := by omega
    obtain ⟨NK, hNK⟩ : ∃ NK, NK = NG + K := ⟨_, rfl⟩
    obtain ⟨Q, hQ⟩ : ∃ Q, Q = NG + K - 1 := ⟨_, rfl⟩
    have hq0 : (NG : Int) + (K : Int) = (NK : Int) := by rw [hNK]; push_cast; rfl
    have hq1 : IntKind.i64.wrap (NK : Int) = (NK : Int) := IntWalk.i64_in _ (by omega)
    have hq2 : (NK : Int) - 1 = (Q : Int) := by omega
    have hq3 : IntKind.i64.wrap (Q : Int) = (Q : Int) := IntWalk.i64_in _ (by omega)
    have hq4 : (Q : Int).tdiv (K : Int) = (RT : Int) := by rw [HCH1.out, hQ]; exact (Int.ofNat_tdiv _ _).symm
    have hq5 : IntKind.i64.wrap (RT : Int) = (RT : Int) := IntWalk.i64_in _ (by omega)
    have dRT : ((RT : Int) != (RT : Int)) = false := by simp
    clear hNK hQ
    go_wp2_with fail
    clear hq0 hq1 hq2 hq3 hq4 hq5 dRT hK0 d0 d1 hp
    go_loopw [20] (fun s20 wr => ∃ (i : Nat), s20 = .int .i64 i ∧ i ≤ RT ∧ Below w9.heap.size w9 wr) (fun s20 _ => RT - (intOf s20).toNat)
    case atStart => exact ⟨0, rfl, Nat.zero_le _, Below.refl _ _⟩
    case round =>
      obtain ⟨i, rfl, hi, hb⟩ := hrel
      rename World => wr
      have Hbr := Lib.hid hb
      clear hb
      by_cases hlt : i < RT
      · have d1 : decide ((i : Int) < (RT : Int)) = true := decide_eq_true (by omega)
        obtain ⟨J, hJ⟩ : ∃ J, (runsP K [] (grpR L))[i]? = some J := ⟨_, List.getElem?_eq_getElem (by rw [← HRT.out]; exact hlt)⟩
        obtain ⟨ad, rfl, hc⟩ := HC9.out.keep (Keeps.of_below Hbr.out) (by omega)
        obtain ⟨Pi, ci, a0, hrow, -⟩ := hc i J hJ
        obtain ⟨hJe, hlo⟩ := HCH2.out i J hJ
        obtain ⟨lo, hlo'⟩ : ∃ lo, lo = i * K := ⟨_, rfl⟩
        rw [← hlo'] at hJe hlo
        obtain ⟨h1, hh1⟩ : ∃ h1, h1 = (i + 1) * K := ⟨_, rfl⟩
        have hh2 : h1 = lo + K := by rw [hh1, hlo', Nat.succ_mul]
        obtain ⟨hi2, hhi⟩ : ∃ hi2, hi2 = min NG h1 := ⟨_, rfl⟩
        obtain ⟨n, hn⟩ : ∃ n, n = J.length := ⟨_, rfl⟩
        have hnl : n = hi2 - lo := by rw [hn, hJe, List.length_take, List.length_drop, ← HNG.out, hhi]; omega
        rw [← hn] at a0 hrow
        obtain ⟨adf, rfl, hcf⟩ := RF9.out.keep (Keeps.of_below Hbr.out) (by omega)
        have hsub : RowC wr (some (adf.add (lo * 5))) n J := fun _ => ⟨_, rfl, fun j x hj => by
          rw [add_of_add, show lo * 5 + j * 5 = (lo + j) * 5 from by omega]
          refine hcf (lo + j) x ?_
          rw [hJe, List.getElem?_take] at hj
          split at hj
          · rw [List.getElem?_drop] at hj; exact hj
          · cases hj⟩
        have hfJ : FewC J := fun x hx => HFEW.out x (by rw [hJe] at hx; exact List.mem_of_mem_drop (List.mem_of_mem_take hx))
        have kd : Keeps wr wr.drew := (Keeps.refl wr).drewN 1
        have HS := Lib.hid (same_yes Pi (some (adf.add (lo * 5))) n ci (cf - lo) J wr.drew (hrow.keep kd) (hsub.keep kd) hn hfJ (by omega))
        have HBD := Lib.hid (Hbr.out.trans ((Below.refl wr.heap.size wr).drew.mono Hbr.out.size))
        have m7 : min (NG : Int) (h1 : Int) = (hi2 : Int) := by
          rcases Nat.le_total NG h1 with h | h
          · rw [hhi, Nat.min_eq_left h, Int.min_eq_left (by exact_mod_cast h)]
          · rw [hhi, Nat.min_eq_right h, Int.min_eq_right (by exact_mod_cast h)]
        have hbb : lo ≤ hi2 ∧ hi2 ≤ NG := by
          rw [hhi]
          exact ⟨Nat.le_min.2 ⟨Nat.le_of_lt hlo, by rw [hh2]; exact Nat.le_add_right _ _⟩, Nat.min_le_left _ _⟩
        clear hhi
        have m1 : (i : Int) * (K : Int) = (lo : Int) := by rw [hlo']; push_cast; rfl
        have m2 : IntKind.i64.wrap (lo : Int) = (lo : Int) := IntWalk.i64_in _ (by omega)
        obtain ⟨i1, hi1⟩ : ∃ i1, i1 = i + 1 := ⟨_, rfl⟩
        have m3 : (i : Int) + 1 = (i1 : Int) := by omega
        have m4 : IntKind.i64.wrap (i1 : Int) = (i1 : Int) := IntWalk.i64_in _ (by omega)
        have m5 : (i1 : Int) * (K : Int) = (h1 : Int) := by rw [hh1, hi1]; push_cast; rfl
        have m6 : IntKind.i64.wrap (h1 : Int) = (h1 : Int) := IntWalk.i64_in _ (by omega)
        have i0 : (0 : Int) ≤ (i : Int) := by omega
        have i2 : (i : Int) < (RT : Int) := by omega
        have l1 : (0 : Int) ≤ (lo : Int) := by omega
        have l2 : (lo : Int) ≤ (hi2 : Int) := by omega
        have l3 : (hi2 : Int) ≤ (cf : Int) := by omega
        have l4 : lo ≤ hi2 := by omega
        have l5 : hi2 ≤ cf := by omega
        have hns : hi2 - lo = n := hnl.symm
        have hne : ¬ cf = lo := by omega
        clear hnl
        have HI1 := Lib.hid hi1
        clear hJ hc hrow hJe hlo hlo' hh1 hh2 hn hcf hsub hfJ kd hi1
        go_wp2_with fail
        refine wp_region_held_drew (S := fun W' => W'.cell? (ad.add i) = some (.slice Pi n ci)) (by kernel_rfl) a0 (fun hHeld => ?_)
        refine wpAnyH_take (i := 0) (v := ?voa0) rfl (by kernel_rfl) (by kernel_rfl) (by kernel_rfl) (fun _ _ _ h => h) (Or.inl ⟨by rfl, ?yoa0⟩) hHeld ?roa0
        case yoa0 => (intro W hW; obtain g1 := hW; go_simp; first | done | with_reducible rfl)
        try simp only [List.getElem_toArray, List.getElem_cons_zero, Act.put, List.setIfInBounds_toArray, List.set_cons_zero, List.set_cons_succ]
        refine wpAnyH_take (i := 1) (v := ?voa1) rfl (by kernel_rfl) (by kernel_rfl) (by kernel_rfl) (fun _ _ _ h => h) (Or.inl ⟨by rfl, ?yoa1⟩) hHeld ?roa1
        case yoa1 => (intro W hW; obtain g1 := hW; go_simp; first | done | with_reducible rfl)
        try simp only [List.getElem_toArray, List.getElem_cons_succ, List.getElem_cons_zero, Act.put, List.setIfInBounds_toArray, List.set_cons_zero, List.set_cons_succ]
        refine wpAnyH_take (i := 2) (v := ?voa2) rfl (by kernel_rfl) (by kernel_rfl) (by kernel_rfl) (fun _ _ _ h => h) (Or.inl ⟨by rfl, ?yoa2⟩) hHeld ?roa2
        case yoa2 => (intro W hW; obtain g1 := hW; go_simp; first | done | with_reducible rfl)
        try simp only [List.getElem_toArray, List.getElem_cons_succ, List.getElem_cons_zero, Act.put, List.setIfInBounds_toArray, List.set_cons_zero, List.set_cons_succ]
        refine wpAnyH_take (i := 3) (v := ?voa3) rfl (by kernel_rfl) (by kernel_rfl) (by kernel_rfl) (fun _ _ _ h => h) (Or.inl ⟨by rfl, ?yoa3⟩) hHeld ?roa3
        case yoa3 => (intro W hW; obtain g1 := hW; go_simp; first | done | with_reducible rfl)
        try simp only [List.getElem_toArray, List.getElem_cons_succ, List.getElem_cons_zero, Act.put, List.setIfInBounds_toArray, List.set_cons_zero, List.set_cons_succ]
        refine wpAnyH_take (i := 4) (v := ?voa4) rfl (by kernel_rfl) (by kernel_rfl) (by kernel_rfl) (fun _ _ _ h => h) (Or.inl ⟨by rfl, ?yoa4⟩) hHeld ?roa4
        case yoa4 => (intro W hW; obtain g1 := hW; go_simp; first | done | with_reducible rfl)
        try simp only [List.getElem_toArray, List.getElem_cons_succ, List.getElem_cons_zero, Act.put, List.setIfInBounds_toArray, List.set_cons_zero, List.set_cons_succ]
        refine wpAnyH_take (i := 5) (v := ?voa5) rfl (by kernel_rfl) (by kernel_rfl) (by kernel_rfl) (fun _ _ _ h => h) (Or.inl ⟨by rfl, ?yoa5⟩) hHeld ?roa5
        case yoa5 => (intro W hW; obtain g1 := hW; go_simp; first | done | with_reducible rfl)
        try simp only [List.getElem_toArray, List.getElem_cons_succ, List.getElem_cons_zero, Act.put, List.setIfInBounds_toArray, List.set_cons_zero, List.set_cons_succ]
        refine wpAnyH_take (i := 6) (v := ?voa6) rfl (by kernel_rfl) (by kernel_rfl) (by kernel_rfl) (fun _ _ _ h => h) (Or.inl ⟨by rfl, ?yoa6⟩) hHeld ?roa6
        case yoa6 => (intro W hW; obtain g1 := hW; go_simp; first | done | with_reducible rfl)
        try simp only [List.getElem_toArray, List.getElem_cons_succ, List.getElem_cons_zero, Act.put, List.setIfInBounds_toArray, List.set_cons_zero, List.set_cons_succ]
        refine wpAnyH_take (i := 7) (v := ?voa7) rfl (by kernel_rfl) (by kernel_rfl) (by kernel_rfl) (fun _ _ _ h => h) (Or.inl ⟨by rfl, ?yoa7⟩) hHeld ?roa7
        case yoa7 => (intro W hW; obtain g1 := hW; go_simp; first | done | with_reducible rfl)
        try simp only [List.getElem_toArray, List.getElem_cons_succ, List.getElem_cons_zero, Act.put, List.setIfInBounds_toArray, List.set_cons_zero, List.set_cons_succ]
        refine wpAnyH_take (i := 8) (v := ?voa8) rfl (by kernel_rfl) (by kernel_rfl) (by kernel_rfl) (fun _ _ _ h => h) (Or.inl ⟨by rfl, ?yoa8⟩) hHeld ?roa8
        case yoa8 => (intro W hW; obtain g1 := hW; go_simp; first | done | with_reducible rfl)
        try simp only [List.getElem_toArray, List.getElem_cons_succ, List.getElem_cons_zero, Act.put, List.setIfInBounds_toArray, List.set_cons_zero, List.set_cons_succ]
        refine wpAnyH_take (i := 9) (v := ?voa9) rfl (by kernel_rfl) (by kernel_rfl) (by kernel_rfl) (fun _ _ _ h => h) (Or.inl ⟨by rfl, ?yoa9⟩) hHeld ?roa9
        case yoa9 => (intro W hW; obtain g1 := hW; go_simp; first | done | with_reducible rfl)
        try simp only [List.getElem_toArray, List.getElem_cons_succ, List.getElem_cons_zero, Act.put, List.setIfInBounds_toArray, List.set_cons_zero, List.set_cons_succ]
        refine wpAnyH_take (i := 10) (v := ?voa10) rfl (by kernel_rfl) (by kernel_rfl) (by kernel_rfl) (fun _ _ _ h => h) (Or.inl ⟨by rfl, ?yoa10⟩) hHeld ?roa10
        case yoa10 => (intro W hW; obtain g1 := hW; go_simp; first | done | with_reducible rfl)
        try simp only [List.getElem_toArray, List.getElem_cons_succ, List.getElem_cons_zero, Act.put, List.setIfInBounds_toArray, List.set_cons_zero, List.set_cons_succ]
        refine wpAnyH_take (i := 11) (v := ?voa11) rfl (by kernel_rfl) (by kernel_rfl) (by kernel_rfl) (fun _ _ _ h => h) (Or.inl ⟨by rfl, ?yoa11⟩) hHeld ?roa11
        case yoa11 => (intro W hW; obtain g1 := hW; go_simp; first | done | with_reducible rfl)
        try simp only [List.getElem_toArray, List.getElem_cons_succ, List.getElem_cons_zero, Act.put, List.setIfInBounds_toArray, List.set_cons_zero, List.set_cons_succ]
        refine wpAnyH_take (i := 12) (v := ?voa12) rfl (by kernel_rfl) (by kernel_rfl) (by kernel_rfl) (fun _ _ _ h => h) (Or.inl ⟨by rfl, ?yoa12⟩) hHeld ?roa12
        case yoa12 => (intro W hW; obtain g1 := hW; go_simp; first | done | with_reducible rfl)
        try simp only [List.getElem_toArray, List.getElem_cons_succ, List.getElem_cons_zero, Act.put, List.setIfInBounds_toArray, List.set_cons_zero, List.set_cons_succ]
        refine wpAnyH_take (i := 13) (v := ?voa13) rfl (by kernel_rfl) (by kernel_rfl) (by kernel_rfl) (fun _ _ _ h => h) (Or.inl ⟨by rfl, ?yoa13⟩) hHeld ?roa13
        case yoa13 => (intro W hW; obtain g1 := hW; go_simp; first | done | with_reducible rfl)
        try simp only [List.getElem_toArray, List.getElem_cons_succ, List.getElem_cons_zero, Act.put, List.setIfInBounds_toArray, List.set_cons_zero, List.set_cons_succ]
        refine wpAnyH_take (i := 14) (v := ?voa14) rfl (by kernel_rfl) (by kernel_rfl) (by kernel_rfl) (fun _ _ _ h => h) (Or.inl ⟨by rfl, ?yoa14⟩) hHeld ?roa14
        case yoa14 => (intro W hW; obtain g1 := hW; go_simp; first | done | with_reducible rfl)
        try simp only [List.getElem_toArray, List.getElem_cons_succ, List.getElem_cons_zero, Act.put, List.setIfInBounds_toArray, List.set_cons_zero, List.set_cons_succ]
        refine wpAnyH_take (i := 15) (v := ?voa15) rfl (by kernel_rfl) (by kernel_rfl) (by kernel_rfl) (fun _ _ _ h => h) (Or.inl ⟨by rfl, ?yoa15⟩) hHeld ?roa15
        case yoa15 => (intro W hW; obtain g1 := hW; go_simp; first | done | with_reducible rfl)
        try simp only [List.getElem_toArray, List.getElem_cons_succ, List.getElem_cons_zero, Act.put, List.setIfInBounds_toArray, List.set_cons_zero, List.set_cons_succ]
        refine wpAnyH_ready (rs := [16]) (by kernel_rfl) (by simp) ?_
        refine AllReadyH.cons rfl (fun K hK => ?_) (AllReadyH.nil)
        go_simp
        refine HS.out.mono ?_
        rintro e w' ⟨rfl, hb'⟩
        have kq := Keeps.of_below hb'
        have HB' := Lib.hid (HBD.out.trans (hb'.mono HBD.out.size))
        clear hb'
        refine hK.out _ _ (kq _ _ hHeld) (fun hHeld => ?_)
        clear hK K
        try simp only [List.getElem_toArray, List.getElem_cons_succ, List.getElem_cons_zero, Act.put, List.setIfInBounds_toArray, List.set_cons_zero, List.set_cons_succ]
        refine wpAnyH_take (i := 17) (v := ?voa17) rfl (by kernel_rfl) (by kernel_rfl) (by kernel_rfl) (fun _ _ _ h => h) (Or.inl ⟨by rfl, ?yoa17⟩) hHeld ?roa17
        case yoa17 => (intro W hW; obtain g1 := hW; go_simp; first | done | with_reducible rfl)
        try simp only [List.getElem_toArray, List.getElem_cons_succ, List.getElem_cons_zero, Act.put, List.setIfInBounds_toArray, List.set_cons_zero, List.set_cons_succ]
        refine wpAnyH_done (by kernel_rfl) ?_ _
        go_wp2
        go_roundw
        case rel => exact ⟨i + 1, by have := HI1.out; go_num, by omega, HB'.out⟩
        case measure => have := HI1.out; simp [intOf]; omega
      · obtain rfl : i = RT := by omega
        have d1 : decide ((i : Int) < (i : Int)) = false := by simp
        go_wp2
        go_ret
        exact ⟨rfl, Hb9.out.trans (Hbr.out.mono Hb9.out.size)⟩
end Go.Proofs.YtaaciedelfaekaaDoor
