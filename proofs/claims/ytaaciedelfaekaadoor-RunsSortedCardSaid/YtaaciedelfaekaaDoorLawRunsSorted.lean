/- The law RunsSorted. -/
import Derived.IntWalk
import Derived.Test.YtaaciedelfaekaaDoorSw5
import Derived.Test.YtaaciedelfaekaaDoorKeyRow
import Derived.Test.YtaaciedelfaekaaDoorGood5
import Derived.Test.YtaaciedelfaekaaDoorMath5
import Derived.Test.YtaaciedelfaekaaDoorWith5
import Derived.Test.YtaaciedelfaekaaDoorIsRow
namespace Go.Proofs.YtaaciedelfaekaaDoor
open Go.RowKit
attribute [local go_sem] Oper.semAt_some
set_option maxRecDepth 100000 in
set_option maxHeartbeats 8000000 in
theorem runsSorted_walk (a0 : Option Addr) (len0 cap0 : Nat) (z0 : List Int) (a1 : Int) (w : World) (w0 : IsRow .i64 w a0 len0 cap0 z0) (h1 : inK .i64 a1) :
    Calls Tryd.prog 7 #[.slice a0 len0 cap0, .int .i64 a1] w fun e w' => e = .returned (.bool true) ∧ Below w.heap.size w w' := by
  obtain ⟨n0, lc0, cm0⟩ := w0.nums
  have HW := Lib.hid (fun (x n : Int) (W : World) (h : inK .i64 x) (e1 : 1 ≤ n) (e2 : n ≤ 100) => lwithin5 x n W h e1 (by omega))
  obtain ⟨zs, hzs⟩ : ∃ zs, zs = z0.take len0 := ⟨_, rfl⟩
  rw [← hzs] at n0
  have N0 := Lib.hid n0
  have HKn := Lib.hid (known5_any w)
  clear w0 n0 hzs
  go_enter Tryd.func7, Tryd.ntmps7
  go_wp2_with fail
  refine HKn.out.mono ?_
  rintro e w1 ⟨rfl, hb1⟩
  have Hb1 := Lib.hid hb1
  have N1 := Lib.hid (N0.out.keep (Keeps.of_below hb1))
  clear hb1 HKn N0
  obtain ⟨n, hn⟩ : ∃ n, n = min len0 20 := ⟨_, rfl⟩
  have HN := Lib.hid hn
  have hn20 : n ≤ 20 := by omega
  have hnl : n ≤ len0 := by omega
  clear hn
  go_upto_block 0 with (fail)
  go_cut [5] (fun s5 wx => ∃ (us : List V5) (ks : List Int), GRs w1.heap.size wx s5 us (ks.map (cK 0)) ∧ ks.Pairwise (· < ·) ∧ ks.length ≤ 20 ∧ Below w1.heap.size w1 wx)
  case first =>
    go_wp2_with fail
    go_loopw [5, 6, 7] (fun s5 s6 s7 wr => ∃ (i : Nat) (us : List V5) (ks : List Int) (l : Int), s7 = .int .i64 i ∧ i ≤ n ∧ s6 = .int .i64 l ∧ GRs w1.heap.size wr s5 us (ks.map (cK 0)) ∧ (ks.Pairwise (· < ·) ∧ ks.length = i ∧ (∀ k ∈ ks, k ≤ l) ∧ 0 ≤ l ∧ l ≤ 5 * i) ∧ Below w1.heap.size w1 wr) (fun _ _ s7 _ => n - (intOf s7).toNat)
    case atStart => exact ⟨0, [], [], 0, rfl, Nat.zero_le _, rfl, GRs.nil _ _, ⟨List.Pairwise.nil, rfl, fun k hk => absurd hk List.not_mem_nil, by omega, by omega⟩, Below.refl _ _⟩
    case round =>
      obtain ⟨i, us, ks, l, rfl, hi, rfl, hg, ⟨hks1, hks2, hks3, hl0, hl5⟩, hb⟩ := hrel
      rename World => wr
      have HG := Lib.hid hg
      have Hbr := Lib.hid hb
      have HK1 := Lib.hid hks1
      have HK3 := Lib.hid hks3
      clear hg hb hks1 hks3
      by_cases hlt : i < n
      · have d1 : decide ((i : Int) < (len0 : Int)) = true := decide_eq_true (by omega)
        have d2 : decide ((i : Int) < 20) = true := decide_eq_true (by omega)
        have d3 : decide (i < len0) = true := decide_eq_true (by omega)
        have d4 : decide (i < 20) = true := decide_eq_true (by omega)
        obtain ⟨z, hz⟩ : ∃ z, zs[i]? = some z := ⟨_, List.getElem?_eq_getElem (by rw [N1.out.1]; omega)⟩
        obtain ⟨ad, rfl, hc⟩ := N1.out.2.2 (by omega)
        have a0 := Keeps.of_below Hbr.out _ _ (hc i z hz)
        have hzi := N1.out.2.1 z (List.mem_of_getElem? hz)
        obtain ⟨k, hkk⟩ : ∃ k, k = z % 5 := ⟨_, rfl⟩
        have hkb2 : 0 ≤ k ∧ k < 5 := by omega
        obtain ⟨l1, hl1⟩ : ∃ l1, l1 = l + 1 := ⟨_, rfl⟩
        obtain ⟨l2, hl2⟩ : ∃ l2, l2 = l1 + k := ⟨_, rfl⟩
        have hq1 : IntKind.i64.wrap l1 = l1 := IntWalk.i64_in _ (by omega)
        have hq2 : IntKind.i64.wrap l2 = l2 := IntWalk.i64_in _ (by omega)
        have hq3 := hl1.symm
        have hq4 := hl2.symm
        have HKK := Lib.hid hkk
        have i0 : (0 : Int) ≤ (i : Int) := by omega
        have i1 : (i : Int) < (len0 : Int) := by omega
        have hul : us.length = i := by rw [HG.out.len, List.length_map, hks2]
        obtain ⟨v', us', Y, hrun, hG', hbY⟩ := key_app l2 0 HG.out (by simp [inK]; omega) (by simp [inK]) (by omega) Hbr.out.size
        have hmp : (ks ++ [l2]).map (cK 0) = ks.map (cK 0) ++ [cK 0 l2] := by rw [List.map_append]; rfl
        rw [← hmp] at hG'
        have Hrun := Lib.hid hrun
        have HG' := Lib.hid hG'
        have HBY := Lib.hid (Hbr.out.trans hbY)
        have hpw : (ks ++ [l2]).Pairwise (· < ·) := List.pairwise_append.2 ⟨HK1.out, List.pairwise_singleton _ _, fun x hx y hy => by rw [List.mem_singleton] at hy; have := HK3.out x hx; omega⟩
        have hle : ∀ x ∈ ks ++ [l2], x ≤ l2 := fun x hx => by
          rcases List.mem_append.1 hx with hx | hx
          · have := HK3.out x hx; omega
          · rw [List.mem_singleton] at hx; omega
        have hlen : (ks ++ [l2]).length = i + 1 := by rw [List.length_append, hks2]; rfl
        have hbd : 0 ≤ l2 ∧ l2 ≤ 5 * ((i + 1 : Nat) : Int) := by omega
        have HALL := Lib.hid (And.intro hpw (And.intro hlen (And.intro hle hbd)))
        clear hc hz hkk hrun hG' hbY hpw hle hlen hmp hbd hl1 hl2
        go_wp2_with fail
        refine (HW.out z 5 wr hzi (by omega) (by omega)).mono ?_
        rintro e w' ⟨rfl, hw'⟩
        subst hw'
        rw [← HKK.out]
        go_wp2_with (first | (at_builtin; have _t := Hrun; refine wpList_append_eq rfl (.tmp 31) (.tmp 35) 29 rfl _ _ _ _ rfl rfl Hrun.out ?_; clear _t Hrun) | fail)
        go_roundw
        case rel => exact ⟨i + 1, us', ks ++ [l2], l2, by go_num, by omega, rfl, HG'.out, ⟨HALL.out.1, HALL.out.2.1, HALL.out.2.2.1, HALL.out.2.2.2.1, by have := HALL.out.2.2.2.2; omega⟩, HBY.out⟩
        case measure => simp [intOf]; omega
      · obtain rfl : i = n := by omega
        have FINL : Hid (∃ (us : List V5) (ks : List Int), GRs w1.heap.size wr u5 us (ks.map (cK 0)) ∧ ks.Pairwise (· < ·) ∧ ks.length ≤ 20 ∧ Below w1.heap.size w1 wr) := Lib.hid ⟨us, ks, HG.out, HK1.out, by omega, Hbr.out⟩
        have hw40 := HN.out
        by_cases hA : i < len0
        · have d1 : decide ((i : Int) < (len0 : Int)) = true := decide_eq_true (by omega)
          have d2 : decide ((i : Int) < 20) = false := decide_eq_false (by omega)
          have d3 : decide (i < len0) = true := decide_eq_true hA
          have d4 : decide (i < 20) = false := decide_eq_false (by omega)
          clear hA hw40 HG
          go_wp2
          go_meet
          exact FINL.out
        · have d1 : decide ((i : Int) < (len0 : Int)) = false := decide_eq_false (by omega)
          have d3 : decide (i < len0) = false := decide_eq_false hA
          clear hA hw40 HG
          go_wp2
          go_meet
          exact FINL.out
  case rest =>
    obtain ⟨us, ks, hg, hpw, hlen, hb⟩ := hcut
    rename World => wy
    obtain ⟨N, hN⟩ : ∃ N, N = ks.length := ⟨_, rfl⟩
    have hjl : (ks.map (cK 0)).length = N := by rw [List.length_map, hN]
    have hul : us.length = N := by rw [hg.len, hjl]
    obtain ⟨Pl, cl, fl, -⟩ := hg.form
    rw [hul] at fl
    subst fl
    have hrow := hg.rowC.1
    have hN20 : N ≤ 20 := by omega
    have hs := sorted_any Pl cl N (ks.map (cK 0)) wy hrow hjl.symm (by omega) (fun x hx => by
      obtain ⟨k, -, rfl⟩ := List.mem_map.1 hx
      show 1 ≤ 1000000
      omega)
    rw [rise_prs (rise_keys hpw)] at hs
    have HS := Lib.hid hs
    have HG := Lib.hid hg
    have HPW := Lib.hid hpw
    have HN' := Lib.hid hN
    have HBY := Lib.hid (Hb1.out.trans (hb.mono Hb1.out.size))
    have HB1y := Lib.hid hb
    have HUL := Lib.hid hul
    clear hs hg hpw hN hb hrow hjl hul hlen
    go_wp2_with fail
    refine HS.out.mono ?_
    rintro e w2 ⟨rfl, b2⟩
    have HG2 := Lib.hid (HG.out.below b2)
    have HB2 := Lib.hid (HBY.out.trans (b2.mono HBY.out.size))
    have HB12 := Lib.hid (HB1y.out.trans (b2.mono HB1y.out.size))
    clear b2 HS HG
    by_cases hsm : N < 2
    · have d1 : decide ((N : Int) < 2) = true := decide_eq_true (by omega)
      have d2 : decide (N < 2) = true := decide_eq_true hsm
      clear hsm
      go_wp2
      go_ret
      exact ⟨rfl, HB2.out⟩
    · have d1 : decide ((N : Int) < 2) = false := decide_eq_false (by omega)
      have d2 : decide (N < 2) = false := decide_eq_false hsm
      obtain ⟨N1', hN1'⟩ : ∃ N1', N = N1' + 1 := ⟨N - 1, by omega⟩
      have hq1 : (N : Int) - 1 = (N1' : Int) := by omega
      have hq2 : IntKind.i64.wrap (N1' : Int) = (N1' : Int) := IntWalk.i64_in _ (by omega)
      obtain ⟨k, hk⟩ : ∃ k : Nat, (k : Int) = a1 % (N1' : Int) := ⟨(a1 % (N1' : Int)).toNat, by have := Int.emod_nonneg a1 (show (N1' : Int) ≠ 0 by omega); omega⟩
      have hk1 : k < N1' := by have := Int.emod_lt_of_pos a1 (show (0 : Int) < (N1' : Int) by omega); omega
      have HK := Lib.hid hk
      have HN1 := Lib.hid hN1'
      have hN1b : 1 ≤ N1' ∧ N1' ≤ 20 := by omega
      clear hk hsm hN1'
      go_wp2_with fail
      refine (HW.out a1 (N1' : Int) w2 h1 (by omega) (by omega)).mono ?_
      rintro e w' ⟨rfl, hw'⟩
      subst hw'
      rw [← HK.out]
      obtain ⟨gm, cm, W3, hrun1, hgm1, hm3, hb3⟩ := lit_cells HG2.out (by omega) HB12.out.size
      have hgm2 := (hm3.1.lt gm rfl).2
      obtain ⟨go', co, W4, hrun2, hgo1, ho4, hb4⟩ := lit_cells (HG2.out.below hb3) (by omega) (Nat.le_trans HB12.out.size hb3.size)
      have hne : go' ≠ gm := by omega
      have Hrun1 := Lib.hid hrun1
      have Hrun2 := Lib.hid hrun2
      have HM := Lib.hid (hm3.below hb4)
      have HO := Lib.hid ho4
      have HNE := Lib.hid hne
      have HB4 := Lib.hid (HB12.out.trans ((hb3.mono HB12.out.size).trans (hb4.mono (Nat.le_trans HB12.out.size hb3.size))))
      have hgw : w1.heap.size ≤ gm ∧ w1.heap.size ≤ go' := ⟨Nat.le_trans HB12.out.size hgm1, Nat.le_trans HB12.out.size (Nat.le_trans hb3.size hgo1)⟩
      have HGW := Lib.hid hgw
      clear hrun1 hrun2 hm3 ho4 hne hgm1 hgm2 hgo1 hb3 hb4 hgw HG2
      go_upto_region 16 with (first | (at_builtin; have _t := Hrun1; refine wpList_append_eq rfl (.tmp 48) (.tmp 49) 29 rfl _ _ _ _ rfl rfl Hrun1.out ?_; clear _t Hrun1) | (at_builtin; have _t := Hrun2; refine wpList_append_eq rfl (.tmp 51) (.tmp 52) 29 rfl _ _ _ _ rfl rfl Hrun2.out ?_; clear _t Hrun2) | fail)
      obtain ⟨L, hL⟩ : ∃ L, L = ks.map (cK 0) := ⟨_, rfl⟩
      have hLn : L.length = N := by rw [hL, List.length_map, ← HN'.out]
      obtain ⟨kx, hkx⟩ : ∃ x, ks[k]? = some x := ⟨_, List.getElem?_eq_getElem (by rw [← HN'.out]; have := HN1.out; omega)⟩
      obtain ⟨ky, hky⟩ : ∃ x, ks[k + 1]? = some x := ⟨_, List.getElem?_eq_getElem (by rw [← HN'.out]; have := HN1.out; omega)⟩
      have hx : L[k]? = some (cK 0 kx) := by rw [hL, List.getElem?_map, hkx]; rfl
      have hy : L[k + 1]? = some (cK 0 ky) := by rw [hL, List.getElem?_map, hky]; rfl
      have hxy := keys_at HPW.out hkx hky
      have HKL := Lib.hid (show ∀ x ∈ L, x.key.length ≤ 1000000 from fun x hx => by
        rw [hL] at hx
        obtain ⟨k, -, rfl⟩ := List.mem_map.1 hx
        show 1 ≤ 1000000
        omega)
      rw [← hL] at HM HO
      have HX := Lib.hid hx
      have HY := Lib.hid hy
      have HXY := Lib.hid hxy
      have HLn := Lib.hid hLn
      obtain ⟨k2, hk2⟩ : ∃ k2, k2 = k + 1 := ⟨_, rfl⟩
      have hkN : k2 < N := by have := HN1.out; omega
      rw [← hk2] at HY
      have HK2 := Lib.hid hk2
      have m1 : (k : Int) + 1 = (k2 : Int) := by omega
      have m2 : IntKind.i64.wrap (k2 : Int) = (k2 : Int) := IntWalk.i64_in _ (by omega)
      have i0 : (0 : Int) ≤ (k : Int) := by omega
      have i1 : (k : Int) < (N : Int) := by omega
      have i2 : (0 : Int) ≤ (k2 : Int) := by omega
      have i3 : (k2 : Int) < (N : Int) := by omega
      clear hx hy hxy hLn hkx hky hL hk2
      go_cut [] (fun wx => ∃ ul, GRs w1.heap.size wx (.slice (some ⟨gm, 0, none⟩) N cm) ul ((L.set k (cK 0 ky)).set k2 (cK 0 kx)) ∧ GRs w1.heap.size wx (.slice (some ⟨go', 0, none⟩) N co) us L ∧ Below w1.heap.size w1 wx)
      case first =>
        have hMd := HM.out
        have hOd := HO.out
        have hbd := HB4.out
        obtain ⟨⟨pa, pb, pc, pd, pe⟩, hp⟩ : ∃ p, us[k]? = some p := ⟨_, List.getElem?_eq_getElem (by rw [HUL.out]; omega)⟩
        obtain ⟨⟨qa, qb, qc, qd, qe⟩, hq⟩ : ∃ p, us[k2]? = some p := ⟨_, List.getElem?_eq_getElem (by rw [HUL.out]; omega)⟩
        have hpo := hMd.2.2 k _ _ hp HX.out
        have hqo := hMd.2.2 k2 _ _ hq HY.out
        obtain ⟨q0, q1, q2, q3, q4⟩ := hMd.five hp
        obtain ⟨r0, r1, r2, r3, r4⟩ := hMd.five hq
        obtain ⟨hm5, hst⟩ := hMd.setN (a := k) HUL.out hqo (by omega)
        have ho5 := hOd.setO (a := k) (q := ⟨qa, qb, qc, qd, qe⟩) hMd.1 rfl (fun e => HNE.out (by injection e))
        have hb5 := setF_bel (a := k) (q := ⟨qa, qb, qc, qd, qe⟩) hbd HGW.out.1
        have hp5 := hst _ _ hpo
        have hq5 : (us.set k ⟨qa, qb, qc, qd, qe⟩)[k2]? = some ⟨qa, qb, qc, qd, qe⟩ := by rw [List.getElem?_set_ne (by omega)]; exact hq
        obtain ⟨e1, hpc, -⟩ := hpo
        obtain ⟨e2, hqc, -⟩ := hqo
        replace e1 : pb = .int .i64 0 := e1
        replace e2 : qb = .int .i64 0 := e2
        obtain ⟨A1, d1', f1, -⟩ := hpc.key.form
        obtain ⟨A2, d2', f2, -⟩ := hpc.sum.form
        obtain ⟨A3, d3', f3, -⟩ := hpc.mn.form
        obtain ⟨A4, d4', f4, -⟩ := hpc.mx.form
        obtain ⟨A5, d5', f5, -⟩ := hqc.key.form
        obtain ⟨A6, d6', f6, -⟩ := hqc.sum.form
        obtain ⟨A7, d7', f7, -⟩ := hqc.mn.form
        obtain ⟨A8, d8', f8, -⟩ := hqc.mx.form
        replace f1 : pa = .slice A1 1 d1' := f1
        replace f2 : pc = .slice A2 0 d2' := f2
        replace f3 : pd = .slice A3 0 d3' := f3
        replace f4 : pe = .slice A4 0 d4' := f4
        replace f5 : qa = .slice A5 1 d5' := f5
        replace f6 : qc = .slice A6 0 d6' := f6
        replace f7 : qd = .slice A7 0 d7' := f7
        replace f8 : qe = .slice A8 0 d8' := f8
        dsimp only at q0 q1 q2 q3 q4 r0 r1 r2 r3 r4
        subst e1 e2 f1 f2 f3 f4 f5 f6 f7 f8
        obtain ⟨W5, hW5⟩ : ∃ W5, W5 = setF W4 gm k ⟨.slice A5 1 d5', .int .i64 0, .slice A6 0 d6', .slice A7 0 d7', .slice A8 0 d8'⟩ := ⟨_, rfl⟩
        rw [← hW5] at hm5 ho5 hb5 hp5
        obtain ⟨s0, s1, s2, s3, s4⟩ := hm5.five hq5
        dsimp only at s0 s1 s2 s3 s4
        obtain ⟨hm6, -⟩ := hm5.setN (a := k2) (by rw [List.length_set]; exact HUL.out) hp5 (by omega)
        have ho6 := ho5.setO (a := k2) (q := ⟨.slice A1 1 d1', .int .i64 0, .slice A2 0 d2', .slice A3 0 d3', .slice A4 0 d4'⟩) hm5.1 rfl (fun e => HNE.out (by injection e))
        have hb6 := setF_bel (a := k2) (q := ⟨.slice A1 1 d1', .int .i64 0, .slice A2 0 d2', .slice A3 0 d3', .slice A4 0 d4'⟩) hb5 HGW.out.1
        have FIN0 := (show ∃ ul, GRs w1.heap.size _ (.slice (some ⟨gm, 0, none⟩) N cm) ul ((L.set k (cK 0 ky)).set k2 (cK 0 kx)) ∧ GRs w1.heap.size _ (.slice (some ⟨go', 0, none⟩) N co) us L ∧ Below w1.heap.size w1 _ from ⟨_, hm6.below (Below.refl _ _).drew, ho6.below (Below.refl _ _).drew, hb6.drew⟩)
        simp only [setF] at FIN0 hW5
        have FIN := Lib.hid FIN0
        have HW5 := Lib.hid hW5
        have hf0 := hMd.froz (k * 5)
        have hf1 := hMd.froz (k * 5 + 1)
        have hf2 := hMd.froz (k * 5 + 2)
        have hf3 := hMd.froz (k * 5 + 3)
        have hf4 := hMd.froz (k * 5 + 4)
        have hf5 := hm5.froz (k2 * 5)
        have hf6 := hm5.froz (k2 * 5 + 1)
        have hf7 := hm5.froz (k2 * 5 + 2)
        have hf8 := hm5.froz (k2 * 5 + 3)
        have hf9 := hm5.froz (k2 * 5 + 4)
        clear FIN0 hm5 ho5 hb5 hp5 hq5 hm6 ho6 hb6 hst hpc hqc hp hq hMd hOd hbd hW5 HX HY HXY HLn HM HO HNE HB4 HGW HB2 HB12 HB1y HBY HPW
        go_wp2_with fail
        refine region_P (S := fun W' => (W'.cell? ⟨gm, k * 5, none⟩ = some (.slice A1 1 d1') ∧ W'.cell? ⟨gm, k * 5 + 1, none⟩ = some (.int .i64 0) ∧ W'.cell? ⟨gm, k * 5 + 2, none⟩ = some (.slice A2 0 d2') ∧ W'.cell? ⟨gm, k * 5 + 3, none⟩ = some (.slice A3 0 d3') ∧ W'.cell? ⟨gm, k * 5 + 4, none⟩ = some (.slice A4 0 d4')) ∧ W'.cell? ⟨gm, k2 * 5, none⟩ = some (.slice A5 1 d5') ∧ W'.cell? ⟨gm, k2 * 5 + 1, none⟩ = some (.int .i64 0) ∧ W'.cell? ⟨gm, k2 * 5 + 2, none⟩ = some (.slice A6 0 d6') ∧ W'.cell? ⟨gm, k2 * 5 + 3, none⟩ = some (.slice A7 0 d7') ∧ W'.cell? ⟨gm, k2 * 5 + 4, none⟩ = some (.slice A8 0 d8')) (kill := [15,17]) (by kernel_rfl) ⟨⟨q0, q1, q2, q3, q4⟩, r0, r1, r2, r3, r4⟩ (fun hHeld => ?_)
        refine anyP_take (i := 0) (v := ?vsa0) rfl (by kernel_rfl) (by kernel_rfl) (by kernel_rfl) (by kernel_rfl) (by kernel_rfl) (fun _ _ _ h => h) (Or.inl ⟨by rfl, ?ysa0⟩) hHeld ?rsa0
        case ysa0 => (intro W hW; obtain ⟨⟨g0, g1, g2, g3, g4⟩, g5, g6, g7, g8, g9⟩ := hW; go_simp; first | done | with_reducible rfl)
        try simp only [List.getElem_toArray, List.getElem_cons_zero, Act.put, List.setIfInBounds_toArray, List.set_cons_zero, List.set_cons_succ]
        refine anyP_take (i := 1) (v := ?vsa1) rfl (by kernel_rfl) (by kernel_rfl) (by kernel_rfl) (by kernel_rfl) (by kernel_rfl) (fun _ _ _ h => h) (Or.inl ⟨by rfl, ?ysa1⟩) hHeld ?rsa1
        case ysa1 => (intro W hW; obtain ⟨⟨g0, g1, g2, g3, g4⟩, g5, g6, g7, g8, g9⟩ := hW; go_simp; first | done | with_reducible rfl)
        try simp only [List.getElem_toArray, List.getElem_cons_succ, List.getElem_cons_zero, Act.put, List.setIfInBounds_toArray, List.set_cons_zero, List.set_cons_succ]
        refine anyP_take (i := 5) (v := ?vsa5) rfl (by kernel_rfl) (by kernel_rfl) (by kernel_rfl) (by kernel_rfl) (by kernel_rfl) (fun _ _ _ h => h) (Or.inl ⟨by rfl, ?ysa5⟩) hHeld ?rsa5
        case ysa5 => (intro W hW; obtain ⟨⟨g0, g1, g2, g3, g4⟩, g5, g6, g7, g8, g9⟩ := hW; go_simp; first | done | with_reducible rfl)
        try simp only [List.getElem_toArray, List.getElem_cons_succ, List.getElem_cons_zero, Act.put, List.setIfInBounds_toArray, List.set_cons_zero, List.set_cons_succ]
        refine anyP_take (i := 6) (v := ?vsa6) rfl (by kernel_rfl) (by kernel_rfl) (by kernel_rfl) (by kernel_rfl) (by kernel_rfl) (fun _ _ _ h => h) (Or.inl ⟨by rfl, ?ysa6⟩) hHeld ?rsa6
        case ysa6 => (intro W hW; obtain ⟨⟨g0, g1, g2, g3, g4⟩, g5, g6, g7, g8, g9⟩ := hW; go_simp; first | done | with_reducible rfl)
        try simp only [List.getElem_toArray, List.getElem_cons_succ, List.getElem_cons_zero, Act.put, List.setIfInBounds_toArray, List.set_cons_zero, List.set_cons_succ]
        refine anyP_take (i := 7) (v := ?vsa7) rfl (by kernel_rfl) (by kernel_rfl) (by kernel_rfl) (by kernel_rfl) (by kernel_rfl) (fun _ _ _ h => h) (Or.inl ⟨by rfl, ?ysa7⟩) hHeld ?rsa7
        case ysa7 => (intro W hW; obtain ⟨⟨g0, g1, g2, g3, g4⟩, g5, g6, g7, g8, g9⟩ := hW; go_simp; first | done | with_reducible rfl)
        try simp only [List.getElem_toArray, List.getElem_cons_succ, List.getElem_cons_zero, Act.put, List.setIfInBounds_toArray, List.set_cons_zero, List.set_cons_succ]
        refine anyP_take (i := 8) (v := ?vsa8) rfl (by kernel_rfl) (by kernel_rfl) (by kernel_rfl) (by kernel_rfl) (by kernel_rfl) (fun _ _ _ h => h) (Or.inl ⟨by rfl, ?ysa8⟩) hHeld ?rsa8
        case ysa8 => (intro W hW; obtain ⟨⟨g0, g1, g2, g3, g4⟩, g5, g6, g7, g8, g9⟩ := hW; go_simp; first | done | with_reducible rfl)
        try simp only [List.getElem_toArray, List.getElem_cons_succ, List.getElem_cons_zero, Act.put, List.setIfInBounds_toArray, List.set_cons_zero, List.set_cons_succ]
        refine anyP_take (i := 9) (v := ?vsa9) rfl (by kernel_rfl) (by kernel_rfl) (by kernel_rfl) (by kernel_rfl) (by kernel_rfl) (fun _ _ _ h => h) (Or.inl ⟨by rfl, ?ysa9⟩) hHeld ?rsa9
        case ysa9 => (intro W hW; obtain ⟨⟨g0, g1, g2, g3, g4⟩, g5, g6, g7, g8, g9⟩ := hW; go_simp; first | done | with_reducible rfl)
        try simp only [List.getElem_toArray, List.getElem_cons_succ, List.getElem_cons_zero, Act.put, List.setIfInBounds_toArray, List.set_cons_zero, List.set_cons_succ]
        refine anyP_take (i := 10) (v := ?vsa10) rfl (by kernel_rfl) (by kernel_rfl) (by kernel_rfl) (by kernel_rfl) (by kernel_rfl) (fun _ _ _ h => h) (Or.inl ⟨by rfl, ?ysa10⟩) hHeld ?rsa10
        case ysa10 => (intro W hW; obtain ⟨⟨g0, g1, g2, g3, g4⟩, g5, g6, g7, g8, g9⟩ := hW; go_simp; first | done | with_reducible rfl)
        try simp only [List.getElem_toArray, List.getElem_cons_succ, List.getElem_cons_zero, Act.put, List.setIfInBounds_toArray, List.set_cons_zero, List.set_cons_succ]
        refine anyP_take (i := 11) (v := ?vsa11) rfl (by kernel_rfl) (by kernel_rfl) (by kernel_rfl) (by kernel_rfl) (by kernel_rfl) (fun _ _ _ h => h) (Or.inl ⟨by rfl, ?ysa11⟩) hHeld ?rsa11
        case ysa11 => (intro W hW; obtain ⟨⟨g0, g1, g2, g3, g4⟩, g5, g6, g7, g8, g9⟩ := hW; go_simp; first | done | with_reducible rfl)
        try simp only [List.getElem_toArray, List.getElem_cons_succ, List.getElem_cons_zero, Act.put, List.setIfInBounds_toArray, List.set_cons_zero, List.set_cons_succ]
        refine anyP_take (i := 12) (v := ?vsa12) rfl (by kernel_rfl) (by kernel_rfl) (by kernel_rfl) (by kernel_rfl) (by kernel_rfl) (fun _ _ _ h => h) (Or.inl ⟨by rfl, ?ysa12⟩) hHeld ?rsa12
        case ysa12 => (intro W hW; obtain ⟨⟨g0, g1, g2, g3, g4⟩, g5, g6, g7, g8, g9⟩ := hW; go_simp; first | done | with_reducible rfl)
        try simp only [List.getElem_toArray, List.getElem_cons_succ, List.getElem_cons_zero, Act.put, List.setIfInBounds_toArray, List.set_cons_zero, List.set_cons_succ]
        refine anyP_take (i := 13) (v := ?vsa13) rfl (by kernel_rfl) (by kernel_rfl) (by kernel_rfl) (by kernel_rfl) (by kernel_rfl) (fun _ _ _ h => h) (Or.inl ⟨by rfl, ?ysa13⟩) hHeld ?rsa13
        case ysa13 => (intro W hW; obtain ⟨⟨g0, g1, g2, g3, g4⟩, g5, g6, g7, g8, g9⟩ := hW; go_simp; first | done | with_reducible rfl)
        try simp only [List.getElem_toArray, List.getElem_cons_succ, List.getElem_cons_zero, Act.put, List.setIfInBounds_toArray, List.set_cons_zero, List.set_cons_succ]
        refine anyP_ready (rs := [2, 3, 14]) (by kernel_rfl) (by simp) ?_
        refine AllP.cons rfl (fun K hK => ?_) (AllP.cons rfl (fun K hK => ?_) (AllP.cons rfl (fun K hK => ?_) AllP.nil))
        · go_simp
          refine hK.out _ _ (fun _ h => h) ?_
          clear hK K
          try simp only [List.getElem_toArray, List.getElem_cons_succ, List.getElem_cons_zero, Act.put, List.setIfInBounds_toArray, List.set_cons_zero, List.set_cons_succ]
          refine anyP_ready (rs := [3, 14]) (by kernel_rfl) (by simp) ?_
          refine AllP.cons rfl (fun K hK => ?_) (AllP.cons rfl (fun K hK => ?_) AllP.nil)
          · go_simp
            refine hK.out _ _ (fun _ h => h) ?_
            clear hK K
            try simp only [List.getElem_toArray, List.getElem_cons_succ, List.getElem_cons_zero, Act.put, List.setIfInBounds_toArray, List.set_cons_zero, List.set_cons_succ]
            refine anyP_ready (rs := [4, 14]) (by kernel_rfl) (by simp) ?_
            refine AllP.cons rfl (fun K hK => ?_) (AllP.cons rfl (fun K hK => ?_) AllP.nil)
            · go_simp
              refine hK.out _ _ (fun _ h => h) ?_
              clear hK K
              try simp only [List.getElem_toArray, List.getElem_cons_succ, List.getElem_cons_zero, Act.put, List.setIfInBounds_toArray, List.set_cons_zero, List.set_cons_succ]
              refine anyP_ready (rs := [14]) (by kernel_rfl) (by simp) ?_
              refine AllP.cons rfl (fun K hK => ?_) AllP.nil
              go_simp
              refine hK.out _ _ (fun _ h => h) ?_
              clear hK K
              try simp only [List.getElem_toArray, List.getElem_cons_succ, List.getElem_cons_zero, Act.put, List.setIfInBounds_toArray, List.set_cons_zero, List.set_cons_succ]
              refine anyP_ready (rs := [15]) (by kernel_rfl) (by simp) ?_
              refine AllP.cons rfl (fun K hK => ?_) AllP.nil
              go_simp
              refine hK.out _ _ (fun h => absurd (by decide) h) ?_
              clear hK K
              try simp only [List.getElem_toArray, List.getElem_cons_succ, List.getElem_cons_zero, Act.put, List.setIfInBounds_toArray, List.set_cons_zero, List.set_cons_succ]
              rw [← HW5.out]
              refine anyP_ready (rs := [16]) (by kernel_rfl) (by simp) ?_
              refine AllP.cons rfl (fun K hK => ?_) AllP.nil
              go_simp
              refine hK.out _ _ (fun _ h => h) ?_
              clear hK K
              try simp only [List.getElem_toArray, List.getElem_cons_succ, List.getElem_cons_zero, Act.put, List.setIfInBounds_toArray, List.set_cons_zero, List.set_cons_succ]
              refine anyP_ready (rs := [17]) (by kernel_rfl) (by simp) ?_
              refine AllP.cons rfl (fun K hK => ?_) AllP.nil
              go_simp
              refine hK.out _ _ (fun h => absurd (by decide) h) ?_
              clear hK K
              try simp only [List.getElem_toArray, List.getElem_cons_succ, List.getElem_cons_zero, Act.put, List.setIfInBounds_toArray, List.set_cons_zero, List.set_cons_succ]
              refine anyP_done (by kernel_rfl) ?_ _
              go_wp2
              go_meet
              exact FIN.out
            · go_simp
              refine hK.out _ _ (fun _ h => h) ?_
              clear hK K
              try simp only [List.getElem_toArray, List.getElem_cons_succ, List.getElem_cons_zero, Act.put, List.setIfInBounds_toArray, List.set_cons_zero, List.set_cons_succ]
              refine anyP_ready (rs := [4, 15]) (by kernel_rfl) (by simp) ?_
              refine AllP.cons rfl (fun K hK => ?_) (AllP.cons rfl (fun K hK => ?_) AllP.nil)
              · go_simp
                refine hK.out _ _ (fun _ h => h) ?_
                clear hK K
                try simp only [List.getElem_toArray, List.getElem_cons_succ, List.getElem_cons_zero, Act.put, List.setIfInBounds_toArray, List.set_cons_zero, List.set_cons_succ]
                refine anyP_ready (rs := [15]) (by kernel_rfl) (by simp) ?_
                refine AllP.cons rfl (fun K hK => ?_) AllP.nil
                go_simp
                refine hK.out _ _ (fun h => absurd (by decide) h) ?_
                clear hK K
                try simp only [List.getElem_toArray, List.getElem_cons_succ, List.getElem_cons_zero, Act.put, List.setIfInBounds_toArray, List.set_cons_zero, List.set_cons_succ]
                rw [← HW5.out]
                refine anyP_ready (rs := [16]) (by kernel_rfl) (by simp) ?_
                refine AllP.cons rfl (fun K hK => ?_) AllP.nil
                go_simp
                refine hK.out _ _ (fun _ h => h) ?_
                clear hK K
                try simp only [List.getElem_toArray, List.getElem_cons_succ, List.getElem_cons_zero, Act.put, List.setIfInBounds_toArray, List.set_cons_zero, List.set_cons_succ]
                refine anyP_ready (rs := [17]) (by kernel_rfl) (by simp) ?_
                refine AllP.cons rfl (fun K hK => ?_) AllP.nil
                go_simp
                refine hK.out _ _ (fun h => absurd (by decide) h) ?_
                clear hK K
                try simp only [List.getElem_toArray, List.getElem_cons_succ, List.getElem_cons_zero, Act.put, List.setIfInBounds_toArray, List.set_cons_zero, List.set_cons_succ]
                refine anyP_done (by kernel_rfl) ?_ _
                go_wp2
                go_meet
                exact FIN.out
              · go_simp
                refine hK.out _ _ (fun h => absurd (by decide) h) ?_
                clear hK K
                try simp only [List.getElem_toArray, List.getElem_cons_succ, List.getElem_cons_zero, Act.put, List.setIfInBounds_toArray, List.set_cons_zero, List.set_cons_succ]
                rw [← HW5.out]
                refine anyP_ready (rs := [4]) (by kernel_rfl) (by simp) ?_
                refine AllP.cons rfl (fun K hK => ?_) AllP.nil
                go_simp
                refine hK.out _ _ (fun _ h => h) ?_
                clear hK K
                try simp only [List.getElem_toArray, List.getElem_cons_succ, List.getElem_cons_zero, Act.put, List.setIfInBounds_toArray, List.set_cons_zero, List.set_cons_succ]
                refine anyP_ready (rs := [16]) (by kernel_rfl) (by simp) ?_
                refine AllP.cons rfl (fun K hK => ?_) AllP.nil
                go_simp
                refine hK.out _ _ (fun _ h => h) ?_
                clear hK K
                try simp only [List.getElem_toArray, List.getElem_cons_succ, List.getElem_cons_zero, Act.put, List.setIfInBounds_toArray, List.set_cons_zero, List.set_cons_succ]
                refine anyP_ready (rs := [17]) (by kernel_rfl) (by simp) ?_
                refine AllP.cons rfl (fun K hK => ?_) AllP.nil
                go_simp
                refine hK.out _ _ (fun h => absurd (by decide) h) ?_
                clear hK K
                try simp only [List.getElem_toArray, List.getElem_cons_succ, List.getElem_cons_zero, Act.put, List.setIfInBounds_toArray, List.set_cons_zero, List.set_cons_succ]
                refine anyP_done (by kernel_rfl) ?_ _
                go_wp2
                go_meet
                exact FIN.out
          · go_simp
            refine hK.out _ _ (fun _ h => h) ?_
            clear hK K
            try simp only [List.getElem_toArray, List.getElem_cons_succ, List.getElem_cons_zero, Act.put, List.setIfInBounds_toArray, List.set_cons_zero, List.set_cons_succ]
            refine anyP_ready (rs := [3, 15]) (by kernel_rfl) (by simp) ?_
            refine AllP.cons rfl (fun K hK => ?_) (AllP.cons rfl (fun K hK => ?_) AllP.nil)
            · go_simp
              refine hK.out _ _ (fun _ h => h) ?_
              clear hK K
              try simp only [List.getElem_toArray, List.getElem_cons_succ, List.getElem_cons_zero, Act.put, List.setIfInBounds_toArray, List.set_cons_zero, List.set_cons_succ]
              refine anyP_ready (rs := [4, 15]) (by kernel_rfl) (by simp) ?_
              refine AllP.cons rfl (fun K hK => ?_) (AllP.cons rfl (fun K hK => ?_) AllP.nil)
              · go_simp
                refine hK.out _ _ (fun _ h => h) ?_
                clear hK K
                try simp only [List.getElem_toArray, List.getElem_cons_succ, List.getElem_cons_zero, Act.put, List.setIfInBounds_toArray, List.set_cons_zero, List.set_cons_succ]
                refine anyP_ready (rs := [15]) (by kernel_rfl) (by simp) ?_
                refine AllP.cons rfl (fun K hK => ?_) AllP.nil
                go_simp
                refine hK.out _ _ (fun h => absurd (by decide) h) ?_
                clear hK K
                try simp only [List.getElem_toArray, List.getElem_cons_succ, List.getElem_cons_zero, Act.put, List.setIfInBounds_toArray, List.set_cons_zero, List.set_cons_succ]
                rw [← HW5.out]
                refine anyP_ready (rs := [16]) (by kernel_rfl) (by simp) ?_
                refine AllP.cons rfl (fun K hK => ?_) AllP.nil
                go_simp
                refine hK.out _ _ (fun _ h => h) ?_
                clear hK K
                try simp only [List.getElem_toArray, List.getElem_cons_succ, List.getElem_cons_zero, Act.put, List.setIfInBounds_toArray, List.set_cons_zero, List.set_cons_succ]
                refine anyP_ready (rs := [17]) (by kernel_rfl) (by simp) ?_
                refine AllP.cons rfl (fun K hK => ?_) AllP.nil
                go_simp
                refine hK.out _ _ (fun h => absurd (by decide) h) ?_
                clear hK K
                try simp only [List.getElem_toArray, List.getElem_cons_succ, List.getElem_cons_zero, Act.put, List.setIfInBounds_toArray, List.set_cons_zero, List.set_cons_succ]
                refine anyP_done (by kernel_rfl) ?_ _
                go_wp2
                go_meet
                exact FIN.out
              · go_simp
                refine hK.out _ _ (fun h => absurd (by decide) h) ?_
                clear hK K
                try simp only [List.getElem_toArray, List.getElem_cons_succ, List.getElem_cons_zero, Act.put, List.setIfInBounds_toArray, List.set_cons_zero, List.set_cons_succ]
                rw [← HW5.out]
                refine anyP_ready (rs := [4]) (by kernel_rfl) (by simp) ?_
                refine AllP.cons rfl (fun K hK => ?_) AllP.nil
                go_simp
                refine hK.out _ _ (fun _ h => h) ?_
                clear hK K
                try simp only [List.getElem_toArray, List.getElem_cons_succ, List.getElem_cons_zero, Act.put, List.setIfInBounds_toArray, List.set_cons_zero, List.set_cons_succ]
                refine anyP_ready (rs := [16]) (by kernel_rfl) (by simp) ?_
                refine AllP.cons rfl (fun K hK => ?_) AllP.nil
                go_simp
                refine hK.out _ _ (fun _ h => h) ?_
                clear hK K
                try simp only [List.getElem_toArray, List.getElem_cons_succ, List.getElem_cons_zero, Act.put, List.setIfInBounds_toArray, List.set_cons_zero, List.set_cons_succ]
                refine anyP_ready (rs := [17]) (by kernel_rfl) (by simp) ?_
                refine AllP.cons rfl (fun K hK => ?_) AllP.nil
                go_simp
                refine hK.out _ _ (fun h => absurd (by decide) h) ?_
                clear hK K
                try simp only [List.getElem_toArray, List.getElem_cons_succ, List.getElem_cons_zero, Act.put, List.setIfInBounds_toArray, List.set_cons_zero, List.set_cons_succ]
                refine anyP_done (by kernel_rfl) ?_ _
                go_wp2
                go_meet
                exact FIN.out
            · go_simp
              refine hK.out _ _ (fun h => absurd (by decide) h) ?_
              clear hK K
              try simp only [List.getElem_toArray, List.getElem_cons_succ, List.getElem_cons_zero, Act.put, List.setIfInBounds_toArray, List.set_cons_zero, List.set_cons_succ]
              rw [← HW5.out]
              refine anyP_ready (rs := [3]) (by kernel_rfl) (by simp) ?_
              refine AllP.cons rfl (fun K hK => ?_) AllP.nil
              go_simp
              refine hK.out _ _ (fun _ h => h) ?_
              clear hK K
              try simp only [List.getElem_toArray, List.getElem_cons_succ, List.getElem_cons_zero, Act.put, List.setIfInBounds_toArray, List.set_cons_zero, List.set_cons_succ]
              refine anyP_ready (rs := [4]) (by kernel_rfl) (by simp) ?_
              refine AllP.cons rfl (fun K hK => ?_) AllP.nil
              go_simp
              refine hK.out _ _ (fun _ h => h) ?_
              clear hK K
              try simp only [List.getElem_toArray, List.getElem_cons_succ, List.getElem_cons_zero, Act.put, List.setIfInBounds_toArray, List.set_cons_zero, List.set_cons_succ]
              refine anyP_ready (rs := [16]) (by kernel_rfl) (by simp) ?_
              refine AllP.cons rfl (fun K hK => ?_) AllP.nil
              go_simp
              refine hK.out _ _ (fun _ h => h) ?_
              clear hK K
              try simp only [List.getElem_toArray, List.getElem_cons_succ, List.getElem_cons_zero, Act.put, List.setIfInBounds_toArray, List.set_cons_zero, List.set_cons_succ]
              refine anyP_ready (rs := [17]) (by kernel_rfl) (by simp) ?_
              refine AllP.cons rfl (fun K hK => ?_) AllP.nil
              go_simp
              refine hK.out _ _ (fun h => absurd (by decide) h) ?_
              clear hK K
              try simp only [List.getElem_toArray, List.getElem_cons_succ, List.getElem_cons_zero, Act.put, List.setIfInBounds_toArray, List.set_cons_zero, List.set_cons_succ]
              refine anyP_done (by kernel_rfl) ?_ _
              go_wp2
              go_meet
              exact FIN.out
        · go_simp
          refine hK.out _ _ (fun _ h => h) ?_
          clear hK K
          try simp only [List.getElem_toArray, List.getElem_cons_succ, List.getElem_cons_zero, Act.put, List.setIfInBounds_toArray, List.set_cons_zero, List.set_cons_succ]
          refine anyP_ready (rs := [2, 4, 14]) (by kernel_rfl) (by simp) ?_
          refine AllP.cons rfl (fun K hK => ?_) (AllP.cons rfl (fun K hK => ?_) (AllP.cons rfl (fun K hK => ?_) AllP.nil))
          · go_simp
            refine hK.out _ _ (fun _ h => h) ?_
            clear hK K
            try simp only [List.getElem_toArray, List.getElem_cons_succ, List.getElem_cons_zero, Act.put, List.setIfInBounds_toArray, List.set_cons_zero, List.set_cons_succ]
            refine anyP_ready (rs := [4, 14]) (by kernel_rfl) (by simp) ?_
            refine AllP.cons rfl (fun K hK => ?_) (AllP.cons rfl (fun K hK => ?_) AllP.nil)
            · go_simp
              refine hK.out _ _ (fun _ h => h) ?_
              clear hK K
              try simp only [List.getElem_toArray, List.getElem_cons_succ, List.getElem_cons_zero, Act.put, List.setIfInBounds_toArray, List.set_cons_zero, List.set_cons_succ]
              refine anyP_ready (rs := [14]) (by kernel_rfl) (by simp) ?_
              refine AllP.cons rfl (fun K hK => ?_) AllP.nil
              go_simp
              refine hK.out _ _ (fun _ h => h) ?_
              clear hK K
              try simp only [List.getElem_toArray, List.getElem_cons_succ, List.getElem_cons_zero, Act.put, List.setIfInBounds_toArray, List.set_cons_zero, List.set_cons_succ]
              refine anyP_ready (rs := [15]) (by kernel_rfl) (by simp) ?_
              refine AllP.cons rfl (fun K hK => ?_) AllP.nil
              go_simp
              refine hK.out _ _ (fun h => absurd (by decide) h) ?_
              clear hK K
              try simp only [List.getElem_toArray, List.getElem_cons_succ, List.getElem_cons_zero, Act.put, List.setIfInBounds_toArray, List.set_cons_zero, List.set_cons_succ]
              rw [← HW5.out]
              refine anyP_ready (rs := [16]) (by kernel_rfl) (by simp) ?_
              refine AllP.cons rfl (fun K hK => ?_) AllP.nil
              go_simp
              refine hK.out _ _ (fun _ h => h) ?_
              clear hK K
              try simp only [List.getElem_toArray, List.getElem_cons_succ, List.getElem_cons_zero, Act.put, List.setIfInBounds_toArray, List.set_cons_zero, List.set_cons_succ]
              refine anyP_ready (rs := [17]) (by kernel_rfl) (by simp) ?_
              refine AllP.cons rfl (fun K hK => ?_) AllP.nil
              go_simp
              refine hK.out _ _ (fun h => absurd (by decide) h) ?_
              clear hK K
              try simp only [List.getElem_toArray, List.getElem_cons_succ, List.getElem_cons_zero, Act.put, List.setIfInBounds_toArray, List.set_cons_zero, List.set_cons_succ]
              refine anyP_done (by kernel_rfl) ?_ _
              go_wp2
              go_meet
              exact FIN.out
            · go_simp
              refine hK.out _ _ (fun _ h => h) ?_
              clear hK K
              try simp only [List.getElem_toArray, List.getElem_cons_succ, List.getElem_cons_zero, Act.put, List.setIfInBounds_toArray, List.set_cons_zero, List.set_cons_succ]
              refine anyP_ready (rs := [4, 15]) (by kernel_rfl) (by simp) ?_
              refine AllP.cons rfl (fun K hK => ?_) (AllP.cons rfl (fun K hK => ?_) AllP.nil)
              · go_simp
                refine hK.out _ _ (fun _ h => h) ?_
                clear hK K
                try simp only [List.getElem_toArray, List.getElem_cons_succ, List.getElem_cons_zero, Act.put, List.setIfInBounds_toArray, List.set_cons_zero, List.set_cons_succ]
                refine anyP_ready (rs := [15]) (by kernel_rfl) (by simp) ?_
                refine AllP.cons rfl (fun K hK => ?_) AllP.nil
                go_simp
                refine hK.out _ _ (fun h => absurd (by decide) h) ?_
                clear hK K
                try simp only [List.getElem_toArray, List.getElem_cons_succ, List.getElem_cons_zero, Act.put, List.setIfInBounds_toArray, List.set_cons_zero, List.set_cons_succ]
                rw [← HW5.out]
                refine anyP_ready (rs := [16]) (by kernel_rfl) (by simp) ?_
                refine AllP.cons rfl (fun K hK => ?_) AllP.nil
                go_simp
                refine hK.out _ _ (fun _ h => h) ?_
                clear hK K
                try simp only [List.getElem_toArray, List.getElem_cons_succ, List.getElem_cons_zero, Act.put, List.setIfInBounds_toArray, List.set_cons_zero, List.set_cons_succ]
                refine anyP_ready (rs := [17]) (by kernel_rfl) (by simp) ?_
                refine AllP.cons rfl (fun K hK => ?_) AllP.nil
                go_simp
                refine hK.out _ _ (fun h => absurd (by decide) h) ?_
                clear hK K
                try simp only [List.getElem_toArray, List.getElem_cons_succ, List.getElem_cons_zero, Act.put, List.setIfInBounds_toArray, List.set_cons_zero, List.set_cons_succ]
                refine anyP_done (by kernel_rfl) ?_ _
                go_wp2
                go_meet
                exact FIN.out
              · go_simp
                refine hK.out _ _ (fun h => absurd (by decide) h) ?_
                clear hK K
                try simp only [List.getElem_toArray, List.getElem_cons_succ, List.getElem_cons_zero, Act.put, List.setIfInBounds_toArray, List.set_cons_zero, List.set_cons_succ]
                rw [← HW5.out]
                refine anyP_ready (rs := [4]) (by kernel_rfl) (by simp) ?_
                refine AllP.cons rfl (fun K hK => ?_) AllP.nil
                go_simp
                refine hK.out _ _ (fun _ h => h) ?_
                clear hK K
                try simp only [List.getElem_toArray, List.getElem_cons_succ, List.getElem_cons_zero, Act.put, List.setIfInBounds_toArray, List.set_cons_zero, List.set_cons_succ]
                refine anyP_ready (rs := [16]) (by kernel_rfl) (by simp) ?_
                refine AllP.cons rfl (fun K hK => ?_) AllP.nil
                go_simp
                refine hK.out _ _ (fun _ h => h) ?_
                clear hK K
                try simp only [List.getElem_toArray, List.getElem_cons_succ, List.getElem_cons_zero, Act.put, List.setIfInBounds_toArray, List.set_cons_zero, List.set_cons_succ]
                refine anyP_ready (rs := [17]) (by kernel_rfl) (by simp) ?_
                refine AllP.cons rfl (fun K hK => ?_) AllP.nil
                go_simp
                refine hK.out _ _ (fun h => absurd (by decide) h) ?_
                clear hK K
                try simp only [List.getElem_toArray, List.getElem_cons_succ, List.getElem_cons_zero, Act.put, List.setIfInBounds_toArray, List.set_cons_zero, List.set_cons_succ]
                refine anyP_done (by kernel_rfl) ?_ _
                go_wp2
                go_meet
                exact FIN.out
          · go_simp
            refine hK.out _ _ (fun _ h => h) ?_
            clear hK K
            try simp only [List.getElem_toArray, List.getElem_cons_succ, List.getElem_cons_zero, Act.put, List.setIfInBounds_toArray, List.set_cons_zero, List.set_cons_succ]
            refine anyP_ready (rs := [2, 14]) (by kernel_rfl) (by simp) ?_
            refine AllP.cons rfl (fun K hK => ?_) (AllP.cons rfl (fun K hK => ?_) AllP.nil)
            · go_simp
              refine hK.out _ _ (fun _ h => h) ?_
              clear hK K
              try simp only [List.getElem_toArray, List.getElem_cons_succ, List.getElem_cons_zero, Act.put, List.setIfInBounds_toArray, List.set_cons_zero, List.set_cons_succ]
              refine anyP_ready (rs := [14]) (by kernel_rfl) (by simp) ?_
              refine AllP.cons rfl (fun K hK => ?_) AllP.nil
              go_simp
              refine hK.out _ _ (fun _ h => h) ?_
              clear hK K
              try simp only [List.getElem_toArray, List.getElem_cons_succ, List.getElem_cons_zero, Act.put, List.setIfInBounds_toArray, List.set_cons_zero, List.set_cons_succ]
              refine anyP_ready (rs := [15]) (by kernel_rfl) (by simp) ?_
              refine AllP.cons rfl (fun K hK => ?_) AllP.nil
              go_simp
              refine hK.out _ _ (fun h => absurd (by decide) h) ?_
              clear hK K
              try simp only [List.getElem_toArray, List.getElem_cons_succ, List.getElem_cons_zero, Act.put, List.setIfInBounds_toArray, List.set_cons_zero, List.set_cons_succ]
              rw [← HW5.out]
              refine anyP_ready (rs := [16]) (by kernel_rfl) (by simp) ?_
              refine AllP.cons rfl (fun K hK => ?_) AllP.nil
              go_simp
              refine hK.out _ _ (fun _ h => h) ?_
              clear hK K
              try simp only [List.getElem_toArray, List.getElem_cons_succ, List.getElem_cons_zero, Act.put, List.setIfInBounds_toArray, List.set_cons_zero, List.set_cons_succ]
              refine anyP_ready (rs := [17]) (by kernel_rfl) (by simp) ?_
              refine AllP.cons rfl (fun K hK => ?_) AllP.nil
              go_simp
              refine hK.out _ _ (fun h => absurd (by decide) h) ?_
              clear hK K
              try simp only [List.getElem_toArray, List.getElem_cons_succ, List.getElem_cons_zero, Act.put, List.setIfInBounds_toArray, List.set_cons_zero, List.set_cons_succ]
              refine anyP_done (by kernel_rfl) ?_ _
              go_wp2
              go_meet
              exact FIN.out
            · go_simp
              refine hK.out _ _ (fun _ h => h) ?_
              clear hK K
              try simp only [List.getElem_toArray, List.getElem_cons_succ, List.getElem_cons_zero, Act.put, List.setIfInBounds_toArray, List.set_cons_zero, List.set_cons_succ]
              refine anyP_ready (rs := [2, 15]) (by kernel_rfl) (by simp) ?_
              refine AllP.cons rfl (fun K hK => ?_) (AllP.cons rfl (fun K hK => ?_) AllP.nil)
              · go_simp
                refine hK.out _ _ (fun _ h => h) ?_
                clear hK K
                try simp only [List.getElem_toArray, List.getElem_cons_succ, List.getElem_cons_zero, Act.put, List.setIfInBounds_toArray, List.set_cons_zero, List.set_cons_succ]
                refine anyP_ready (rs := [15]) (by kernel_rfl) (by simp) ?_
                refine AllP.cons rfl (fun K hK => ?_) AllP.nil
                go_simp
                refine hK.out _ _ (fun h => absurd (by decide) h) ?_
                clear hK K
                try simp only [List.getElem_toArray, List.getElem_cons_succ, List.getElem_cons_zero, Act.put, List.setIfInBounds_toArray, List.set_cons_zero, List.set_cons_succ]
                rw [← HW5.out]
                refine anyP_ready (rs := [16]) (by kernel_rfl) (by simp) ?_
                refine AllP.cons rfl (fun K hK => ?_) AllP.nil
                go_simp
                refine hK.out _ _ (fun _ h => h) ?_
                clear hK K
                try simp only [List.getElem_toArray, List.getElem_cons_succ, List.getElem_cons_zero, Act.put, List.setIfInBounds_toArray, List.set_cons_zero, List.set_cons_succ]
                refine anyP_ready (rs := [17]) (by kernel_rfl) (by simp) ?_
                refine AllP.cons rfl (fun K hK => ?_) AllP.nil
                go_simp
                refine hK.out _ _ (fun h => absurd (by decide) h) ?_
                clear hK K
                try simp only [List.getElem_toArray, List.getElem_cons_succ, List.getElem_cons_zero, Act.put, List.setIfInBounds_toArray, List.set_cons_zero, List.set_cons_succ]
                refine anyP_done (by kernel_rfl) ?_ _
                go_wp2
                go_meet
                exact FIN.out
              · go_simp
                refine hK.out _ _ (fun h => absurd (by decide) h) ?_
                clear hK K
                try simp only [List.getElem_toArray, List.getElem_cons_succ, List.getElem_cons_zero, Act.put, List.setIfInBounds_toArray, List.set_cons_zero, List.set_cons_succ]
                rw [← HW5.out]
                refine anyP_ready (rs := [2]) (by kernel_rfl) (by simp) ?_
                refine AllP.cons rfl (fun K hK => ?_) AllP.nil
                go_simp
                refine hK.out _ _ (fun _ h => h) ?_
                clear hK K
                try simp only [List.getElem_toArray, List.getElem_cons_succ, List.getElem_cons_zero, Act.put, List.setIfInBounds_toArray, List.set_cons_zero, List.set_cons_succ]
                refine anyP_ready (rs := [16]) (by kernel_rfl) (by simp) ?_
                refine AllP.cons rfl (fun K hK => ?_) AllP.nil
                go_simp
                refine hK.out _ _ (fun _ h => h) ?_
                clear hK K
                try simp only [List.getElem_toArray, List.getElem_cons_succ, List.getElem_cons_zero, Act.put, List.setIfInBounds_toArray, List.set_cons_zero, List.set_cons_succ]
                refine anyP_ready (rs := [17]) (by kernel_rfl) (by simp) ?_
                refine AllP.cons rfl (fun K hK => ?_) AllP.nil
                go_simp
                refine hK.out _ _ (fun h => absurd (by decide) h) ?_
                clear hK K
                try simp only [List.getElem_toArray, List.getElem_cons_succ, List.getElem_cons_zero, Act.put, List.setIfInBounds_toArray, List.set_cons_zero, List.set_cons_succ]
                refine anyP_done (by kernel_rfl) ?_ _
                go_wp2
                go_meet
                exact FIN.out
          · go_simp
            refine hK.out _ _ (fun _ h => h) ?_
            clear hK K
            try simp only [List.getElem_toArray, List.getElem_cons_succ, List.getElem_cons_zero, Act.put, List.setIfInBounds_toArray, List.set_cons_zero, List.set_cons_succ]
            refine anyP_ready (rs := [2, 4, 15]) (by kernel_rfl) (by simp) ?_
            refine AllP.cons rfl (fun K hK => ?_) (AllP.cons rfl (fun K hK => ?_) (AllP.cons rfl (fun K hK => ?_) AllP.nil))
            · go_simp
              refine hK.out _ _ (fun _ h => h) ?_
              clear hK K
              try simp only [List.getElem_toArray, List.getElem_cons_succ, List.getElem_cons_zero, Act.put, List.setIfInBounds_toArray, List.set_cons_zero, List.set_cons_succ]
              refine anyP_ready (rs := [4, 15]) (by kernel_rfl) (by simp) ?_
              refine AllP.cons rfl (fun K hK => ?_) (AllP.cons rfl (fun K hK => ?_) AllP.nil)
              · go_simp
                refine hK.out _ _ (fun _ h => h) ?_
                clear hK K
                try simp only [List.getElem_toArray, List.getElem_cons_succ, List.getElem_cons_zero, Act.put, List.setIfInBounds_toArray, List.set_cons_zero, List.set_cons_succ]
                refine anyP_ready (rs := [15]) (by kernel_rfl) (by simp) ?_
                refine AllP.cons rfl (fun K hK => ?_) AllP.nil
                go_simp
                refine hK.out _ _ (fun h => absurd (by decide) h) ?_
                clear hK K
                try simp only [List.getElem_toArray, List.getElem_cons_succ, List.getElem_cons_zero, Act.put, List.setIfInBounds_toArray, List.set_cons_zero, List.set_cons_succ]
                rw [← HW5.out]
                refine anyP_ready (rs := [16]) (by kernel_rfl) (by simp) ?_
                refine AllP.cons rfl (fun K hK => ?_) AllP.nil
                go_simp
                refine hK.out _ _ (fun _ h => h) ?_
                clear hK K
                try simp only [List.getElem_toArray, List.getElem_cons_succ, List.getElem_cons_zero, Act.put, List.setIfInBounds_toArray, List.set_cons_zero, List.set_cons_succ]
                refine anyP_ready (rs := [17]) (by kernel_rfl) (by simp) ?_
                refine AllP.cons rfl (fun K hK => ?_) AllP.nil
                go_simp
                refine hK.out _ _ (fun h => absurd (by decide) h) ?_
                clear hK K
                try simp only [List.getElem_toArray, List.getElem_cons_succ, List.getElem_cons_zero, Act.put, List.setIfInBounds_toArray, List.set_cons_zero, List.set_cons_succ]
                refine anyP_done (by kernel_rfl) ?_ _
                go_wp2
                go_meet
                exact FIN.out
              · go_simp
                refine hK.out _ _ (fun h => absurd (by decide) h) ?_
                clear hK K
                try simp only [List.getElem_toArray, List.getElem_cons_succ, List.getElem_cons_zero, Act.put, List.setIfInBounds_toArray, List.set_cons_zero, List.set_cons_succ]
                rw [← HW5.out]
                refine anyP_ready (rs := [4]) (by kernel_rfl) (by simp) ?_
                refine AllP.cons rfl (fun K hK => ?_) AllP.nil
                go_simp
                refine hK.out _ _ (fun _ h => h) ?_
                clear hK K
                try simp only [List.getElem_toArray, List.getElem_cons_succ, List.getElem_cons_zero, Act.put, List.setIfInBounds_toArray, List.set_cons_zero, List.set_cons_succ]
                refine anyP_ready (rs := [16]) (by kernel_rfl) (by simp) ?_
                refine AllP.cons rfl (fun K hK => ?_) AllP.nil
                go_simp
                refine hK.out _ _ (fun _ h => h) ?_
                clear hK K
                try simp only [List.getElem_toArray, List.getElem_cons_succ, List.getElem_cons_zero, Act.put, List.setIfInBounds_toArray, List.set_cons_zero, List.set_cons_succ]
                refine anyP_ready (rs := [17]) (by kernel_rfl) (by simp) ?_
                refine AllP.cons rfl (fun K hK => ?_) AllP.nil
                go_simp
                refine hK.out _ _ (fun h => absurd (by decide) h) ?_
                clear hK K
                try simp only [List.getElem_toArray, List.getElem_cons_succ, List.getElem_cons_zero, Act.put, List.setIfInBounds_toArray, List.set_cons_zero, List.set_cons_succ]
                refine anyP_done (by kernel_rfl) ?_ _
                go_wp2
                go_meet
                exact FIN.out
            · go_simp
              refine hK.out _ _ (fun _ h => h) ?_
              clear hK K
              try simp only [List.getElem_toArray, List.getElem_cons_succ, List.getElem_cons_zero, Act.put, List.setIfInBounds_toArray, List.set_cons_zero, List.set_cons_succ]
              refine anyP_ready (rs := [2, 15]) (by kernel_rfl) (by simp) ?_
              refine AllP.cons rfl (fun K hK => ?_) (AllP.cons rfl (fun K hK => ?_) AllP.nil)
              · go_simp
                refine hK.out _ _ (fun _ h => h) ?_
                clear hK K
                try simp only [List.getElem_toArray, List.getElem_cons_succ, List.getElem_cons_zero, Act.put, List.setIfInBounds_toArray, List.set_cons_zero, List.set_cons_succ]
                refine anyP_ready (rs := [15]) (by kernel_rfl) (by simp) ?_
                refine AllP.cons rfl (fun K hK => ?_) AllP.nil
                go_simp
                refine hK.out _ _ (fun h => absurd (by decide) h) ?_
                clear hK K
                try simp only [List.getElem_toArray, List.getElem_cons_succ, List.getElem_cons_zero, Act.put, List.setIfInBounds_toArray, List.set_cons_zero, List.set_cons_succ]
                rw [← HW5.out]
                refine anyP_ready (rs := [16]) (by kernel_rfl) (by simp) ?_
                refine AllP.cons rfl (fun K hK => ?_) AllP.nil
                go_simp
                refine hK.out _ _ (fun _ h => h) ?_
                clear hK K
                try simp only [List.getElem_toArray, List.getElem_cons_succ, List.getElem_cons_zero, Act.put, List.setIfInBounds_toArray, List.set_cons_zero, List.set_cons_succ]
                refine anyP_ready (rs := [17]) (by kernel_rfl) (by simp) ?_
                refine AllP.cons rfl (fun K hK => ?_) AllP.nil
                go_simp
                refine hK.out _ _ (fun h => absurd (by decide) h) ?_
                clear hK K
                try simp only [List.getElem_toArray, List.getElem_cons_succ, List.getElem_cons_zero, Act.put, List.setIfInBounds_toArray, List.set_cons_zero, List.set_cons_succ]
                refine anyP_done (by kernel_rfl) ?_ _
                go_wp2
                go_meet
                exact FIN.out
              · go_simp
                refine hK.out _ _ (fun h => absurd (by decide) h) ?_
                clear hK K
                try simp only [List.getElem_toArray, List.getElem_cons_succ, List.getElem_cons_zero, Act.put, List.setIfInBounds_toArray, List.set_cons_zero, List.set_cons_succ]
                rw [← HW5.out]
                refine anyP_ready (rs := [2]) (by kernel_rfl) (by simp) ?_
                refine AllP.cons rfl (fun K hK => ?_) AllP.nil
                go_simp
                refine hK.out _ _ (fun _ h => h) ?_
                clear hK K
                try simp only [List.getElem_toArray, List.getElem_cons_succ, List.getElem_cons_zero, Act.put, List.setIfInBounds_toArray, List.set_cons_zero, List.set_cons_succ]
                refine anyP_ready (rs := [16]) (by kernel_rfl) (by simp) ?_
                refine AllP.cons rfl (fun K hK => ?_) AllP.nil
                go_simp
                refine hK.out _ _ (fun _ h => h) ?_
                clear hK K
                try simp only [List.getElem_toArray, List.getElem_cons_succ, List.getElem_cons_zero, Act.put, List.setIfInBounds_toArray, List.set_cons_zero, List.set_cons_succ]
                refine anyP_ready (rs := [17]) (by kernel_rfl) (by simp) ?_
                refine AllP.cons rfl (fun K hK => ?_) AllP.nil
                go_simp
                refine hK.out _ _ (fun h => absurd (by decide) h) ?_
                clear hK K
                try simp only [List.getElem_toArray, List.getElem_cons_succ, List.getElem_cons_zero, Act.put, List.setIfInBounds_toArray, List.set_cons_zero, List.set_cons_succ]
                refine anyP_done (by kernel_rfl) ?_ _
                go_wp2
                go_meet
                exact FIN.out
            · go_simp
              refine hK.out _ _ (fun h => absurd (by decide) h) ?_
              clear hK K
              try simp only [List.getElem_toArray, List.getElem_cons_succ, List.getElem_cons_zero, Act.put, List.setIfInBounds_toArray, List.set_cons_zero, List.set_cons_succ]
              rw [← HW5.out]
              refine anyP_ready (rs := [2, 4]) (by kernel_rfl) (by simp) ?_
              refine AllP.cons rfl (fun K hK => ?_) (AllP.cons rfl (fun K hK => ?_) AllP.nil)
              · go_simp
                refine hK.out _ _ (fun _ h => h) ?_
                clear hK K
                try simp only [List.getElem_toArray, List.getElem_cons_succ, List.getElem_cons_zero, Act.put, List.setIfInBounds_toArray, List.set_cons_zero, List.set_cons_succ]
                refine anyP_ready (rs := [4]) (by kernel_rfl) (by simp) ?_
                refine AllP.cons rfl (fun K hK => ?_) AllP.nil
                go_simp
                refine hK.out _ _ (fun _ h => h) ?_
                clear hK K
                try simp only [List.getElem_toArray, List.getElem_cons_succ, List.getElem_cons_zero, Act.put, List.setIfInBounds_toArray, List.set_cons_zero, List.set_cons_succ]
                refine anyP_ready (rs := [16]) (by kernel_rfl) (by simp) ?_
                refine AllP.cons rfl (fun K hK => ?_) AllP.nil
                go_simp
                refine hK.out _ _ (fun _ h => h) ?_
                clear hK K
                try simp only [List.getElem_toArray, List.getElem_cons_succ, List.getElem_cons_zero, Act.put, List.setIfInBounds_toArray, List.set_cons_zero, List.set_cons_succ]
                refine anyP_ready (rs := [17]) (by kernel_rfl) (by simp) ?_
                refine AllP.cons rfl (fun K hK => ?_) AllP.nil
                go_simp
                refine hK.out _ _ (fun h => absurd (by decide) h) ?_
                clear hK K
                try simp only [List.getElem_toArray, List.getElem_cons_succ, List.getElem_cons_zero, Act.put, List.setIfInBounds_toArray, List.set_cons_zero, List.set_cons_succ]
                refine anyP_done (by kernel_rfl) ?_ _
                go_wp2
                go_meet
                exact FIN.out
              · go_simp
                refine hK.out _ _ (fun _ h => h) ?_
                clear hK K
                try simp only [List.getElem_toArray, List.getElem_cons_succ, List.getElem_cons_zero, Act.put, List.setIfInBounds_toArray, List.set_cons_zero, List.set_cons_succ]
                refine anyP_ready (rs := [2]) (by kernel_rfl) (by simp) ?_
                refine AllP.cons rfl (fun K hK => ?_) AllP.nil
                go_simp
                refine hK.out _ _ (fun _ h => h) ?_
                clear hK K
                try simp only [List.getElem_toArray, List.getElem_cons_succ, List.getElem_cons_zero, Act.put, List.setIfInBounds_toArray, List.set_cons_zero, List.set_cons_succ]
                refine anyP_ready (rs := [16]) (by kernel_rfl) (by simp) ?_
                refine AllP.cons rfl (fun K hK => ?_) AllP.nil
                go_simp
                refine hK.out _ _ (fun _ h => h) ?_
                clear hK K
                try simp only [List.getElem_toArray, List.getElem_cons_succ, List.getElem_cons_zero, Act.put, List.setIfInBounds_toArray, List.set_cons_zero, List.set_cons_succ]
                refine anyP_ready (rs := [17]) (by kernel_rfl) (by simp) ?_
                refine AllP.cons rfl (fun K hK => ?_) AllP.nil
                go_simp
                refine hK.out _ _ (fun h => absurd (by decide) h) ?_
                clear hK K
                try simp only [List.getElem_toArray, List.getElem_cons_succ, List.getElem_cons_zero, Act.put, List.setIfInBounds_toArray, List.set_cons_zero, List.set_cons_succ]
                refine anyP_done (by kernel_rfl) ?_ _
                go_wp2
                go_meet
                exact FIN.out
        · go_simp
          refine hK.out _ _ (fun _ h => h) ?_
          clear hK K
          try simp only [List.getElem_toArray, List.getElem_cons_succ, List.getElem_cons_zero, Act.put, List.setIfInBounds_toArray, List.set_cons_zero, List.set_cons_succ]
          refine anyP_ready (rs := [2, 3, 15]) (by kernel_rfl) (by simp) ?_
          refine AllP.cons rfl (fun K hK => ?_) (AllP.cons rfl (fun K hK => ?_) (AllP.cons rfl (fun K hK => ?_) AllP.nil))
          · go_simp
            refine hK.out _ _ (fun _ h => h) ?_
            clear hK K
            try simp only [List.getElem_toArray, List.getElem_cons_succ, List.getElem_cons_zero, Act.put, List.setIfInBounds_toArray, List.set_cons_zero, List.set_cons_succ]
            refine anyP_ready (rs := [3, 15]) (by kernel_rfl) (by simp) ?_
            refine AllP.cons rfl (fun K hK => ?_) (AllP.cons rfl (fun K hK => ?_) AllP.nil)
            · go_simp
              refine hK.out _ _ (fun _ h => h) ?_
              clear hK K
              try simp only [List.getElem_toArray, List.getElem_cons_succ, List.getElem_cons_zero, Act.put, List.setIfInBounds_toArray, List.set_cons_zero, List.set_cons_succ]
              refine anyP_ready (rs := [4, 15]) (by kernel_rfl) (by simp) ?_
              refine AllP.cons rfl (fun K hK => ?_) (AllP.cons rfl (fun K hK => ?_) AllP.nil)
              · go_simp
                refine hK.out _ _ (fun _ h => h) ?_
                clear hK K
                try simp only [List.getElem_toArray, List.getElem_cons_succ, List.getElem_cons_zero, Act.put, List.setIfInBounds_toArray, List.set_cons_zero, List.set_cons_succ]
                refine anyP_ready (rs := [15]) (by kernel_rfl) (by simp) ?_
                refine AllP.cons rfl (fun K hK => ?_) AllP.nil
                go_simp
                refine hK.out _ _ (fun h => absurd (by decide) h) ?_
                clear hK K
                try simp only [List.getElem_toArray, List.getElem_cons_succ, List.getElem_cons_zero, Act.put, List.setIfInBounds_toArray, List.set_cons_zero, List.set_cons_succ]
                rw [← HW5.out]
                refine anyP_ready (rs := [16]) (by kernel_rfl) (by simp) ?_
                refine AllP.cons rfl (fun K hK => ?_) AllP.nil
                go_simp
                refine hK.out _ _ (fun _ h => h) ?_
                clear hK K
                try simp only [List.getElem_toArray, List.getElem_cons_succ, List.getElem_cons_zero, Act.put, List.setIfInBounds_toArray, List.set_cons_zero, List.set_cons_succ]
                refine anyP_ready (rs := [17]) (by kernel_rfl) (by simp) ?_
                refine AllP.cons rfl (fun K hK => ?_) AllP.nil
                go_simp
                refine hK.out _ _ (fun h => absurd (by decide) h) ?_
                clear hK K
                try simp only [List.getElem_toArray, List.getElem_cons_succ, List.getElem_cons_zero, Act.put, List.setIfInBounds_toArray, List.set_cons_zero, List.set_cons_succ]
                refine anyP_done (by kernel_rfl) ?_ _
                go_wp2
                go_meet
                exact FIN.out
              · go_simp
                refine hK.out _ _ (fun h => absurd (by decide) h) ?_
                clear hK K
                try simp only [List.getElem_toArray, List.getElem_cons_succ, List.getElem_cons_zero, Act.put, List.setIfInBounds_toArray, List.set_cons_zero, List.set_cons_succ]
                rw [← HW5.out]
                refine anyP_ready (rs := [4]) (by kernel_rfl) (by simp) ?_
                refine AllP.cons rfl (fun K hK => ?_) AllP.nil
                go_simp
                refine hK.out _ _ (fun _ h => h) ?_
                clear hK K
                try simp only [List.getElem_toArray, List.getElem_cons_succ, List.getElem_cons_zero, Act.put, List.setIfInBounds_toArray, List.set_cons_zero, List.set_cons_succ]
                refine anyP_ready (rs := [16]) (by kernel_rfl) (by simp) ?_
                refine AllP.cons rfl (fun K hK => ?_) AllP.nil
                go_simp
                refine hK.out _ _ (fun _ h => h) ?_
                clear hK K
                try simp only [List.getElem_toArray, List.getElem_cons_succ, List.getElem_cons_zero, Act.put, List.setIfInBounds_toArray, List.set_cons_zero, List.set_cons_succ]
                refine anyP_ready (rs := [17]) (by kernel_rfl) (by simp) ?_
                refine AllP.cons rfl (fun K hK => ?_) AllP.nil
                go_simp
                refine hK.out _ _ (fun h => absurd (by decide) h) ?_
                clear hK K
                try simp only [List.getElem_toArray, List.getElem_cons_succ, List.getElem_cons_zero, Act.put, List.setIfInBounds_toArray, List.set_cons_zero, List.set_cons_succ]
                refine anyP_done (by kernel_rfl) ?_ _
                go_wp2
                go_meet
                exact FIN.out
            · go_simp
              refine hK.out _ _ (fun h => absurd (by decide) h) ?_
              clear hK K
              try simp only [List.getElem_toArray, List.getElem_cons_succ, List.getElem_cons_zero, Act.put, List.setIfInBounds_toArray, List.set_cons_zero, List.set_cons_succ]
              rw [← HW5.out]
              refine anyP_ready (rs := [3]) (by kernel_rfl) (by simp) ?_
              refine AllP.cons rfl (fun K hK => ?_) AllP.nil
              go_simp
              refine hK.out _ _ (fun _ h => h) ?_
              clear hK K
              try simp only [List.getElem_toArray, List.getElem_cons_succ, List.getElem_cons_zero, Act.put, List.setIfInBounds_toArray, List.set_cons_zero, List.set_cons_succ]
              refine anyP_ready (rs := [4]) (by kernel_rfl) (by simp) ?_
              refine AllP.cons rfl (fun K hK => ?_) AllP.nil
              go_simp
              refine hK.out _ _ (fun _ h => h) ?_
              clear hK K
              try simp only [List.getElem_toArray, List.getElem_cons_succ, List.getElem_cons_zero, Act.put, List.setIfInBounds_toArray, List.set_cons_zero, List.set_cons_succ]
              refine anyP_ready (rs := [16]) (by kernel_rfl) (by simp) ?_
              refine AllP.cons rfl (fun K hK => ?_) AllP.nil
              go_simp
              refine hK.out _ _ (fun _ h => h) ?_
              clear hK K
              try simp only [List.getElem_toArray, List.getElem_cons_succ, List.getElem_cons_zero, Act.put, List.setIfInBounds_toArray, List.set_cons_zero, List.set_cons_succ]
              refine anyP_ready (rs := [17]) (by kernel_rfl) (by simp) ?_
              refine AllP.cons rfl (fun K hK => ?_) AllP.nil
              go_simp
              refine hK.out _ _ (fun h => absurd (by decide) h) ?_
              clear hK K
              try simp only [List.getElem_toArray, List.getElem_cons_succ, List.getElem_cons_zero, Act.put, List.setIfInBounds_toArray, List.set_cons_zero, List.set_cons_succ]
              refine anyP_done (by kernel_rfl) ?_ _
              go_wp2
              go_meet
              exact FIN.out
          · go_simp
            refine hK.out _ _ (fun _ h => h) ?_
            clear hK K
            try simp only [List.getElem_toArray, List.getElem_cons_succ, List.getElem_cons_zero, Act.put, List.setIfInBounds_toArray, List.set_cons_zero, List.set_cons_succ]
            refine anyP_ready (rs := [2, 4, 15]) (by kernel_rfl) (by simp) ?_
            refine AllP.cons rfl (fun K hK => ?_) (AllP.cons rfl (fun K hK => ?_) (AllP.cons rfl (fun K hK => ?_) AllP.nil))
            · go_simp
              refine hK.out _ _ (fun _ h => h) ?_
              clear hK K
              try simp only [List.getElem_toArray, List.getElem_cons_succ, List.getElem_cons_zero, Act.put, List.setIfInBounds_toArray, List.set_cons_zero, List.set_cons_succ]
              refine anyP_ready (rs := [4, 15]) (by kernel_rfl) (by simp) ?_
              refine AllP.cons rfl (fun K hK => ?_) (AllP.cons rfl (fun K hK => ?_) AllP.nil)
              · go_simp
                refine hK.out _ _ (fun _ h => h) ?_
                clear hK K
                try simp only [List.getElem_toArray, List.getElem_cons_succ, List.getElem_cons_zero, Act.put, List.setIfInBounds_toArray, List.set_cons_zero, List.set_cons_succ]
                refine anyP_ready (rs := [15]) (by kernel_rfl) (by simp) ?_
                refine AllP.cons rfl (fun K hK => ?_) AllP.nil
                go_simp
                refine hK.out _ _ (fun h => absurd (by decide) h) ?_
                clear hK K
                try simp only [List.getElem_toArray, List.getElem_cons_succ, List.getElem_cons_zero, Act.put, List.setIfInBounds_toArray, List.set_cons_zero, List.set_cons_succ]
                rw [← HW5.out]
                refine anyP_ready (rs := [16]) (by kernel_rfl) (by simp) ?_
                refine AllP.cons rfl (fun K hK => ?_) AllP.nil
                go_simp
                refine hK.out _ _ (fun _ h => h) ?_
                clear hK K
                try simp only [List.getElem_toArray, List.getElem_cons_succ, List.getElem_cons_zero, Act.put, List.setIfInBounds_toArray, List.set_cons_zero, List.set_cons_succ]
                refine anyP_ready (rs := [17]) (by kernel_rfl) (by simp) ?_
                refine AllP.cons rfl (fun K hK => ?_) AllP.nil
                go_simp
                refine hK.out _ _ (fun h => absurd (by decide) h) ?_
                clear hK K
                try simp only [List.getElem_toArray, List.getElem_cons_succ, List.getElem_cons_zero, Act.put, List.setIfInBounds_toArray, List.set_cons_zero, List.set_cons_succ]
                refine anyP_done (by kernel_rfl) ?_ _
                go_wp2
                go_meet
                exact FIN.out
              · go_simp
                refine hK.out _ _ (fun h => absurd (by decide) h) ?_
                clear hK K
                try simp only [List.getElem_toArray, List.getElem_cons_succ, List.getElem_cons_zero, Act.put, List.setIfInBounds_toArray, List.set_cons_zero, List.set_cons_succ]
                rw [← HW5.out]
                refine anyP_ready (rs := [4]) (by kernel_rfl) (by simp) ?_
                refine AllP.cons rfl (fun K hK => ?_) AllP.nil
                go_simp
                refine hK.out _ _ (fun _ h => h) ?_
                clear hK K
                try simp only [List.getElem_toArray, List.getElem_cons_succ, List.getElem_cons_zero, Act.put, List.setIfInBounds_toArray, List.set_cons_zero, List.set_cons_succ]
                refine anyP_ready (rs := [16]) (by kernel_rfl) (by simp) ?_
                refine AllP.cons rfl (fun K hK => ?_) AllP.nil
                go_simp
                refine hK.out _ _ (fun _ h => h) ?_
                clear hK K
                try simp only [List.getElem_toArray, List.getElem_cons_succ, List.getElem_cons_zero, Act.put, List.setIfInBounds_toArray, List.set_cons_zero, List.set_cons_succ]
                refine anyP_ready (rs := [17]) (by kernel_rfl) (by simp) ?_
                refine AllP.cons rfl (fun K hK => ?_) AllP.nil
                go_simp
                refine hK.out _ _ (fun h => absurd (by decide) h) ?_
                clear hK K
                try simp only [List.getElem_toArray, List.getElem_cons_succ, List.getElem_cons_zero, Act.put, List.setIfInBounds_toArray, List.set_cons_zero, List.set_cons_succ]
                refine anyP_done (by kernel_rfl) ?_ _
                go_wp2
                go_meet
                exact FIN.out
            · go_simp
              refine hK.out _ _ (fun _ h => h) ?_
              clear hK K
              try simp only [List.getElem_toArray, List.getElem_cons_succ, List.getElem_cons_zero, Act.put, List.setIfInBounds_toArray, List.set_cons_zero, List.set_cons_succ]
              refine anyP_ready (rs := [2, 15]) (by kernel_rfl) (by simp) ?_
              refine AllP.cons rfl (fun K hK => ?_) (AllP.cons rfl (fun K hK => ?_) AllP.nil)
              · go_simp
                refine hK.out _ _ (fun _ h => h) ?_
                clear hK K
                try simp only [List.getElem_toArray, List.getElem_cons_succ, List.getElem_cons_zero, Act.put, List.setIfInBounds_toArray, List.set_cons_zero, List.set_cons_succ]
                refine anyP_ready (rs := [15]) (by kernel_rfl) (by simp) ?_
                refine AllP.cons rfl (fun K hK => ?_) AllP.nil
                go_simp
                refine hK.out _ _ (fun h => absurd (by decide) h) ?_
                clear hK K
                try simp only [List.getElem_toArray, List.getElem_cons_succ, List.getElem_cons_zero, Act.put, List.setIfInBounds_toArray, List.set_cons_zero, List.set_cons_succ]
                rw [← HW5.out]
                refine anyP_ready (rs := [16]) (by kernel_rfl) (by simp) ?_
                refine AllP.cons rfl (fun K hK => ?_) AllP.nil
                go_simp
                refine hK.out _ _ (fun _ h => h) ?_
                clear hK K
                try simp only [List.getElem_toArray, List.getElem_cons_succ, List.getElem_cons_zero, Act.put, List.setIfInBounds_toArray, List.set_cons_zero, List.set_cons_succ]
                refine anyP_ready (rs := [17]) (by kernel_rfl) (by simp) ?_
                refine AllP.cons rfl (fun K hK => ?_) AllP.nil
                go_simp
                refine hK.out _ _ (fun h => absurd (by decide) h) ?_
                clear hK K
                try simp only [List.getElem_toArray, List.getElem_cons_succ, List.getElem_cons_zero, Act.put, List.setIfInBounds_toArray, List.set_cons_zero, List.set_cons_succ]
                refine anyP_done (by kernel_rfl) ?_ _
                go_wp2
                go_meet
                exact FIN.out
              · go_simp
                refine hK.out _ _ (fun h => absurd (by decide) h) ?_
                clear hK K
                try simp only [List.getElem_toArray, List.getElem_cons_succ, List.getElem_cons_zero, Act.put, List.setIfInBounds_toArray, List.set_cons_zero, List.set_cons_succ]
                rw [← HW5.out]
                refine anyP_ready (rs := [2]) (by kernel_rfl) (by simp) ?_
                refine AllP.cons rfl (fun K hK => ?_) AllP.nil
                go_simp
                refine hK.out _ _ (fun _ h => h) ?_
                clear hK K
                try simp only [List.getElem_toArray, List.getElem_cons_succ, List.getElem_cons_zero, Act.put, List.setIfInBounds_toArray, List.set_cons_zero, List.set_cons_succ]
                refine anyP_ready (rs := [16]) (by kernel_rfl) (by simp) ?_
                refine AllP.cons rfl (fun K hK => ?_) AllP.nil
                go_simp
                refine hK.out _ _ (fun _ h => h) ?_
                clear hK K
                try simp only [List.getElem_toArray, List.getElem_cons_succ, List.getElem_cons_zero, Act.put, List.setIfInBounds_toArray, List.set_cons_zero, List.set_cons_succ]
                refine anyP_ready (rs := [17]) (by kernel_rfl) (by simp) ?_
                refine AllP.cons rfl (fun K hK => ?_) AllP.nil
                go_simp
                refine hK.out _ _ (fun h => absurd (by decide) h) ?_
                clear hK K
                try simp only [List.getElem_toArray, List.getElem_cons_succ, List.getElem_cons_zero, Act.put, List.setIfInBounds_toArray, List.set_cons_zero, List.set_cons_succ]
                refine anyP_done (by kernel_rfl) ?_ _
                go_wp2
                go_meet
                exact FIN.out
            · go_simp
              refine hK.out _ _ (fun h => absurd (by decide) h) ?_
              clear hK K
              try simp only [List.getElem_toArray, List.getElem_cons_succ, List.getElem_cons_zero, Act.put, List.setIfInBounds_toArray, List.set_cons_zero, List.set_cons_succ]
              rw [← HW5.out]
              refine anyP_ready (rs := [2, 4]) (by kernel_rfl) (by simp) ?_
              refine AllP.cons rfl (fun K hK => ?_) (AllP.cons rfl (fun K hK => ?_) AllP.nil)
              · go_simp
                refine hK.out _ _ (fun _ h => h) ?_
                clear hK K
                try simp only [List.getElem_toArray, List.getElem_cons_succ, List.getElem_cons_zero, Act.put, List.setIfInBounds_toArray, List.set_cons_zero, List.set_cons_succ]
                refine anyP_ready (rs := [4]) (by kernel_rfl) (by simp) ?_
                refine AllP.cons rfl (fun K hK => ?_) AllP.nil
                go_simp
                refine hK.out _ _ (fun _ h => h) ?_
                clear hK K
                try simp only [List.getElem_toArray, List.getElem_cons_succ, List.getElem_cons_zero, Act.put, List.setIfInBounds_toArray, List.set_cons_zero, List.set_cons_succ]
                refine anyP_ready (rs := [16]) (by kernel_rfl) (by simp) ?_
                refine AllP.cons rfl (fun K hK => ?_) AllP.nil
                go_simp
                refine hK.out _ _ (fun _ h => h) ?_
                clear hK K
                try simp only [List.getElem_toArray, List.getElem_cons_succ, List.getElem_cons_zero, Act.put, List.setIfInBounds_toArray, List.set_cons_zero, List.set_cons_succ]
                refine anyP_ready (rs := [17]) (by kernel_rfl) (by simp) ?_
                refine AllP.cons rfl (fun K hK => ?_) AllP.nil
                go_simp
                refine hK.out _ _ (fun h => absurd (by decide) h) ?_
                clear hK K
                try simp only [List.getElem_toArray, List.getElem_cons_succ, List.getElem_cons_zero, Act.put, List.setIfInBounds_toArray, List.set_cons_zero, List.set_cons_succ]
                refine anyP_done (by kernel_rfl) ?_ _
                go_wp2
                go_meet
                exact FIN.out
              · go_simp
                refine hK.out _ _ (fun _ h => h) ?_
                clear hK K
                try simp only [List.getElem_toArray, List.getElem_cons_succ, List.getElem_cons_zero, Act.put, List.setIfInBounds_toArray, List.set_cons_zero, List.set_cons_succ]
                refine anyP_ready (rs := [2]) (by kernel_rfl) (by simp) ?_
                refine AllP.cons rfl (fun K hK => ?_) AllP.nil
                go_simp
                refine hK.out _ _ (fun _ h => h) ?_
                clear hK K
                try simp only [List.getElem_toArray, List.getElem_cons_succ, List.getElem_cons_zero, Act.put, List.setIfInBounds_toArray, List.set_cons_zero, List.set_cons_succ]
                refine anyP_ready (rs := [16]) (by kernel_rfl) (by simp) ?_
                refine AllP.cons rfl (fun K hK => ?_) AllP.nil
                go_simp
                refine hK.out _ _ (fun _ h => h) ?_
                clear hK K
                try simp only [List.getElem_toArray, List.getElem_cons_succ, List.getElem_cons_zero, Act.put, List.setIfInBounds_toArray, List.set_cons_zero, List.set_cons_succ]
                refine anyP_ready (rs := [17]) (by kernel_rfl) (by simp) ?_
                refine AllP.cons rfl (fun K hK => ?_) AllP.nil
                go_simp
                refine hK.out _ _ (fun h => absurd (by decide) h) ?_
                clear hK K
                try simp only [List.getElem_toArray, List.getElem_cons_succ, List.getElem_cons_zero, Act.put, List.setIfInBounds_toArray, List.set_cons_zero, List.set_cons_succ]
                refine anyP_done (by kernel_rfl) ?_ _
                go_wp2
                go_meet
                exact FIN.out
          · go_simp
            refine hK.out _ _ (fun h => absurd (by decide) h) ?_
            clear hK K
            try simp only [List.getElem_toArray, List.getElem_cons_succ, List.getElem_cons_zero, Act.put, List.setIfInBounds_toArray, List.set_cons_zero, List.set_cons_succ]
            rw [← HW5.out]
            refine anyP_ready (rs := [2, 3]) (by kernel_rfl) (by simp) ?_
            refine AllP.cons rfl (fun K hK => ?_) (AllP.cons rfl (fun K hK => ?_) AllP.nil)
            · go_simp
              refine hK.out _ _ (fun _ h => h) ?_
              clear hK K
              try simp only [List.getElem_toArray, List.getElem_cons_succ, List.getElem_cons_zero, Act.put, List.setIfInBounds_toArray, List.set_cons_zero, List.set_cons_succ]
              refine anyP_ready (rs := [3]) (by kernel_rfl) (by simp) ?_
              refine AllP.cons rfl (fun K hK => ?_) AllP.nil
              go_simp
              refine hK.out _ _ (fun _ h => h) ?_
              clear hK K
              try simp only [List.getElem_toArray, List.getElem_cons_succ, List.getElem_cons_zero, Act.put, List.setIfInBounds_toArray, List.set_cons_zero, List.set_cons_succ]
              refine anyP_ready (rs := [4]) (by kernel_rfl) (by simp) ?_
              refine AllP.cons rfl (fun K hK => ?_) AllP.nil
              go_simp
              refine hK.out _ _ (fun _ h => h) ?_
              clear hK K
              try simp only [List.getElem_toArray, List.getElem_cons_succ, List.getElem_cons_zero, Act.put, List.setIfInBounds_toArray, List.set_cons_zero, List.set_cons_succ]
              refine anyP_ready (rs := [16]) (by kernel_rfl) (by simp) ?_
              refine AllP.cons rfl (fun K hK => ?_) AllP.nil
              go_simp
              refine hK.out _ _ (fun _ h => h) ?_
              clear hK K
              try simp only [List.getElem_toArray, List.getElem_cons_succ, List.getElem_cons_zero, Act.put, List.setIfInBounds_toArray, List.set_cons_zero, List.set_cons_succ]
              refine anyP_ready (rs := [17]) (by kernel_rfl) (by simp) ?_
              refine AllP.cons rfl (fun K hK => ?_) AllP.nil
              go_simp
              refine hK.out _ _ (fun h => absurd (by decide) h) ?_
              clear hK K
              try simp only [List.getElem_toArray, List.getElem_cons_succ, List.getElem_cons_zero, Act.put, List.setIfInBounds_toArray, List.set_cons_zero, List.set_cons_succ]
              refine anyP_done (by kernel_rfl) ?_ _
              go_wp2
              go_meet
              exact FIN.out
            · go_simp
              refine hK.out _ _ (fun _ h => h) ?_
              clear hK K
              try simp only [List.getElem_toArray, List.getElem_cons_succ, List.getElem_cons_zero, Act.put, List.setIfInBounds_toArray, List.set_cons_zero, List.set_cons_succ]
              refine anyP_ready (rs := [2, 4]) (by kernel_rfl) (by simp) ?_
              refine AllP.cons rfl (fun K hK => ?_) (AllP.cons rfl (fun K hK => ?_) AllP.nil)
              · go_simp
                refine hK.out _ _ (fun _ h => h) ?_
                clear hK K
                try simp only [List.getElem_toArray, List.getElem_cons_succ, List.getElem_cons_zero, Act.put, List.setIfInBounds_toArray, List.set_cons_zero, List.set_cons_succ]
                refine anyP_ready (rs := [4]) (by kernel_rfl) (by simp) ?_
                refine AllP.cons rfl (fun K hK => ?_) AllP.nil
                go_simp
                refine hK.out _ _ (fun _ h => h) ?_
                clear hK K
                try simp only [List.getElem_toArray, List.getElem_cons_succ, List.getElem_cons_zero, Act.put, List.setIfInBounds_toArray, List.set_cons_zero, List.set_cons_succ]
                refine anyP_ready (rs := [16]) (by kernel_rfl) (by simp) ?_
                refine AllP.cons rfl (fun K hK => ?_) AllP.nil
                go_simp
                refine hK.out _ _ (fun _ h => h) ?_
                clear hK K
                try simp only [List.getElem_toArray, List.getElem_cons_succ, List.getElem_cons_zero, Act.put, List.setIfInBounds_toArray, List.set_cons_zero, List.set_cons_succ]
                refine anyP_ready (rs := [17]) (by kernel_rfl) (by simp) ?_
                refine AllP.cons rfl (fun K hK => ?_) AllP.nil
                go_simp
                refine hK.out _ _ (fun h => absurd (by decide) h) ?_
                clear hK K
                try simp only [List.getElem_toArray, List.getElem_cons_succ, List.getElem_cons_zero, Act.put, List.setIfInBounds_toArray, List.set_cons_zero, List.set_cons_succ]
                refine anyP_done (by kernel_rfl) ?_ _
                go_wp2
                go_meet
                exact FIN.out
              · go_simp
                refine hK.out _ _ (fun _ h => h) ?_
                clear hK K
                try simp only [List.getElem_toArray, List.getElem_cons_succ, List.getElem_cons_zero, Act.put, List.setIfInBounds_toArray, List.set_cons_zero, List.set_cons_succ]
                refine anyP_ready (rs := [2]) (by kernel_rfl) (by simp) ?_
                refine AllP.cons rfl (fun K hK => ?_) AllP.nil
                go_simp
                refine hK.out _ _ (fun _ h => h) ?_
                clear hK K
                try simp only [List.getElem_toArray, List.getElem_cons_succ, List.getElem_cons_zero, Act.put, List.setIfInBounds_toArray, List.set_cons_zero, List.set_cons_succ]
                refine anyP_ready (rs := [16]) (by kernel_rfl) (by simp) ?_
                refine AllP.cons rfl (fun K hK => ?_) AllP.nil
                go_simp
                refine hK.out _ _ (fun _ h => h) ?_
                clear hK K
                try simp only [List.getElem_toArray, List.getElem_cons_succ, List.getElem_cons_zero, Act.put, List.setIfInBounds_toArray, List.set_cons_zero, List.set_cons_succ]
                refine anyP_ready (rs := [17]) (by kernel_rfl) (by simp) ?_
                refine AllP.cons rfl (fun K hK => ?_) AllP.nil
                go_simp
                refine hK.out _ _ (fun h => absurd (by decide) h) ?_
                clear hK K
                try simp only [List.getElem_toArray, List.getElem_cons_succ, List.getElem_cons_zero, Act.put, List.setIfInBounds_toArray, List.set_cons_zero, List.set_cons_succ]
                refine anyP_done (by kernel_rfl) ?_ _
                go_wp2
                go_meet
                exact FIN.out
      case rest =>
        obtain ⟨ul, hm, ho, hbz⟩ := hcut
        rename World => wz
        obtain ⟨⟨pa, pb, pc, pd, pe⟩, hp⟩ : ∃ p, us[k]? = some p := ⟨_, List.getElem?_eq_getElem (by rw [HUL.out]; omega)⟩
        obtain ⟨⟨qa, qb, qc, qd, qe⟩, hq⟩ : ∃ p, us[k2]? = some p := ⟨_, List.getElem?_eq_getElem (by rw [HUL.out]; omega)⟩
        have hpo := ho.2.2 k _ _ hp HX.out
        obtain ⟨q0, q1, q2, q3, q4⟩ := ho.five hp
        obtain ⟨r0, r1, r2, r3, r4⟩ := ho.five hq
        obtain ⟨ho6, -⟩ := ho.setN (a := k2) HUL.out hpo (by omega)
        have hm6 := hm.setO (a := k2) (q := ⟨pa, pb, pc, pd, pe⟩) ho.1 rfl (fun e => HNE.out (by injection e with e; exact e.symm))
        have hb6 := setF_bel (a := k2) (q := ⟨pa, pb, pc, pd, pe⟩) hbz HGW.out.2
        have hf5 := ho.froz (k2 * 5)
        have hf6 := ho.froz (k2 * 5 + 1)
        have hf7 := ho.froz (k2 * 5 + 2)
        have hf8 := ho.froz (k2 * 5 + 3)
        have hf9 := ho.froz (k2 * 5 + 4)
        obtain ⟨e1, hpc, -⟩ := hpo
        replace e1 : pb = .int .i64 0 := e1
        obtain ⟨A1, d1', f1, -⟩ := hpc.key.form
        obtain ⟨A2, d2', f2, -⟩ := hpc.sum.form
        obtain ⟨A3, d3', f3, -⟩ := hpc.mn.form
        obtain ⟨A4, d4', f4, -⟩ := hpc.mx.form
        replace f1 : pa = .slice A1 1 d1' := f1
        replace f2 : pc = .slice A2 0 d2' := f2
        replace f3 : pd = .slice A3 0 d3' := f3
        replace f4 : pe = .slice A4 0 d4' := f4
        dsimp only at q0 q1 q2 q3 q4 r0 r1 r2 r3 r4
        subst e1 f1 f2 f3 f4
        obtain ⟨W6, hW6⟩ : ∃ W6, W6 = setF wz go' k2 ⟨.slice A1 1 d1', .int .i64 0, .slice A2 0 d2', .slice A3 0 d3', .slice A4 0 d4'⟩ := ⟨_, rfl⟩
        rw [← hW6] at ho6 hm6 hb6
        have hln2 : N = ((L.set k (cK 0 ky)).set k2 (cK 0 kx)).length := by rw [List.length_set, List.length_set, HLn.out]
        have hln3 : N = (L.set k2 (cK 0 kx)).length := by rw [List.length_set, HLn.out]
        have hk2k : k2 = k + 1 := HK2.out
        have hr2 : riseB ((L.set k (cK 0 ky)).set k2 (cK 0 kx)) = false := riseB_no (k := k) (a := cK 0 ky) (b := cK 0 kx) (by
          rw [List.getElem?_set_ne (by omega), List.getElem?_set_self (by rw [HLn.out]; omega)]) (by
          rw [← hk2k, List.getElem?_set_self (by rw [List.length_set, HLn.out]; exact hkN)]) (fun h => by have := cK_lt.1 h; have := HXY.out; omega)
        have hr3 : riseB (L.set k2 (cK 0 kx)) = false := riseB_no (k := k) (a := cK 0 kx) (b := cK 0 kx) (by
          rw [List.getElem?_set_ne (by omega)]; exact HX.out) (by
          rw [← hk2k, List.getElem?_set_self (by rw [HLn.out]; exact hkN)]) (fun h => by have := cK_lt.1 h; omega)
        have hkl : ∀ x ∈ L, x.key.length ≤ 1000000 := fun x hx => by
          exact HKL.out x hx
        have hkl2 : ∀ x ∈ (L.set k (cK 0 ky)).set k2 (cK 0 kx), x.key.length ≤ 1000000 := fun x hx => by
          rcases List.mem_or_eq_of_mem_set hx with h | h
          · rcases List.mem_or_eq_of_mem_set h with h | h
            · exact hkl x h
            · rw [h]; show 1 ≤ 1000000; omega
          · rw [h]; show 1 ≤ 1000000; omega
        have hkl3 : ∀ x ∈ L.set k2 (cK 0 kx), x.key.length ≤ 1000000 := fun x hx => by
          rcases List.mem_or_eq_of_mem_set hx with h | h
          · exact hkl x h
          · rw [h]; show 1 ≤ 1000000; omega
        have hs1 := sorted_any (some ⟨gm, 0, none⟩) cm N _ W6 hm6.rowC.1 hln2 (by omega) hkl2
        rw [hr2] at hs1
        have HS1 := Lib.hid hs1
        have HRO := Lib.hid ho6.rowC.1
        have HS2 := Lib.hid (fun (W : World) (hW : Below W6.heap.size W6 W) => sorted_any (some ⟨go', 0, none⟩) co N _ W (HRO.out.keep (Keeps.of_below hW)) hln3 (by omega) hkl3)
        rw [hr3] at HS2
        have HB6 := Lib.hid (Hb1.out.trans (hb6.mono Hb1.out.size))
        simp only [setF] at hW6
        have HW6 := Lib.hid hW6
        clear hm ho hbz hp hq ho6 hm6 hb6 hpc hW6 hln2 hln3 hr2 hr3 hkl hkl2 hkl3 hs1 HM HO HK2 hk2k
        go_wp2_with fail
        rw [← HW6.out]
        refine HS1.out.mono ?_
        rintro e w7 ⟨rfl, b7⟩
        have hs2 := HS2.out w7 b7
        have HS3 := Lib.hid hs2
        have HB7 := Lib.hid (HB6.out.trans (b7.mono HB6.out.size))
        clear b7 hs2 HS1 HS2
        go_wp2_with fail
        refine HS3.out.mono ?_
        rintro e w8 ⟨rfl, b8⟩
        have HB8 := Lib.hid (HB7.out.trans (b8.mono HB7.out.size))
        clear b8
        go_wp2
        go_ret
        exact ⟨rfl, HB8.out⟩
end Go.Proofs.YtaaciedelfaekaaDoor
