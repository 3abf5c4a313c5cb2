/- The law MatchMore. -/
import Derived.Test.YtimffjonhoplpaaMorP
import Derived.Test.YtimffjonhoplpaaRints
namespace Go.Proofs.Ytimffjonhoplpaa
open Go.RowKit Go.Shelf
attribute [local go_sem] Oper.semAt_some
set_option maxRecDepth 100000 in
set_option maxHeartbeats 8000000 in
theorem matchMore_walk (a0 a1 : Int) (a2 : Option Addr) (len2 cap2 : Nat) (z2 : List Int) (a3 a4 a5 : Int) (a6 : Option Addr) (len6 cap6 : Nat) (z6 : List Int) (w : World) (h0 : inK .i64 a0) (h1 : inK .i64 a1) (w2 : IsRow .i64 w a2 len2 cap2 z2) (h3 : inK .i64 a3) (h4 : inK .i64 a4) (h5 : inK .i64 a5) (w6 : IsRow .i64 w a6 len6 cap6 z6) :
    Calls Try.prog 6 #[.int .i64 a0, .int .i64 a1, .slice a2 len2 cap2, .int .i64 a3, .int .i64 a4, .int .i64 a5, .slice a6 len6 cap6] w fun e w' => e = .returned (.bool true) ∧ Below w.heap.size w w' := by
  have hnz := w2.nums.1
  have hn6 := w6.nums.1
  obtain ⟨zs, hzs⟩ : ∃ zs, zs = z6.take len6 := ⟨_, rfl⟩
  rw [← hzs] at hn6
  have HNZ := Lib.hid hnz
  have HN6 := Lib.hid hn6
  have HZL := Lib.hid hn6.len
  clear w2 w6 hnz hn6 hzs
  obtain ⟨n, hn⟩ : ∃ n : Nat, n = (a0 % 6).toNat := ⟨_, rfl⟩
  obtain ⟨m, hm⟩ : ∃ m : Nat, m = (a0 % 6).toNat + (a1 % 5).toNat := ⟨_, rfl⟩
  have n5 : n ≤ 5 := by omega
  have m9 : m ≤ 9 := by omega
  have hnm : n ≤ m := by omega
  have hok := matC_ok (zs := z2.take len2) (sp := a3) (show m ≤ 12 by omega) hnm
  have hrow := fun r hr => matC_row (zs := z2.take len2) (sp := a3) (m := m) (n := n) r hr
  have hML := matC_len (z2.take len2) a3 m n
  have hCO := fun W hW => costs_any a0 a1 a3 a2 len2 cap2 (z2.take len2) W h0 h1 h3 hW
  obtain ⟨M, hM⟩ : ∃ M, M = matC (z2.take len2) a3 m n := ⟨_, rfl⟩
  rw [← hm, ← hn, ← hM] at hCO
  rw [← hM] at hok hrow hML
  have HCO := Lib.hid hCO
  have HR := Lib.hid hrow
  have HOK := Lib.hid hok
  have HML := Lib.hid hML
  have HW5 := Lib.hid (fun W => mwithin a5 1000 W h5 (by omega) (by omega))
  obtain ⟨x, hx⟩ : ∃ x, x = a5 % 1000 := ⟨_, rfl⟩
  rw [← hx] at HW5
  have x0 : 0 ≤ x := by omega
  have x1 : x ≤ 999 := by omega
  clear hCO hrow hok hM hn hm hML hx
  go_enter Try.func6, Try.ntmps6
  go_wp2_with fail
  refine (known9_any w).mono ?_
  rintro e w1 ⟨rfl, hb1⟩
  have HB1 := Lib.hid hb1
  have hz1 := hb1.size
  clear hb1
  go_wp2_with fail
  refine (HCO.out w1 (HNZ.out.keep (Keeps.of_below HB1.out))).mono ?_
  rintro e w2 ⟨vc, usc, rfl, homc, hb2⟩
  have HB2 := Lib.hid (HB1.out.trans (hb2.mono hz1))
  have HOMC := Lib.hid homc
  clear homc hb2
  go_wp2_with fail
  refine (HCO.out w2 (HNZ.out.keep (Keeps.of_below HB2.out))).mono ?_
  rintro e w3 ⟨vd, usd, rfl, homd, hb3⟩
  have HB3 := Lib.hid (HB2.out.trans (hb3.mono HB2.out.size))
  have HB23 := Lib.hid hb3
  have HOMD := Lib.hid homd
  clear homd hb3
  go_wp2_with fail
  refine (HCO.out w3 (HNZ.out.keep (Keeps.of_below HB3.out))).mono ?_
  rintro e w4 ⟨ve, use, rfl, home, hb4⟩
  have HB34 := Lib.hid hb4
  have HB24 := Lib.hid (HB23.out.trans (hb4.mono HB23.out.size))
  have HOMD4 := Lib.hid (HOMD.out.below hb4)
  have HOME := Lib.hid home
  obtain ⟨Ac, cc, rfl, hmc⟩ := HOMC.out.mat
  rw [HML.out] at hmc ⊢
  have HMC := Lib.hid hmc
  clear home hb4 hmc
  have hz2 := HB2.out.size
  have hz23 := HB23.out.size
  have hz34 := HB34.out.size
  by_cases hn0 : n = 0
  · subst hn0
    go_wp2
    go_ret
    exact ⟨rfl, HB2.out.trans (HB24.out.mono hz2)⟩
  · have hne : ((n : Int) == 0) = false := by simp; omega
    have HW4 := Lib.hid (fun W => mwithin a4 (n : Int) W h4 (by omega) (by omega))
    obtain ⟨kk, hkk⟩ : ∃ kk : Nat, a4 % (n : Int) = (kk : Int) := ⟨(a4 % (n : Int)).toNat, by have := Int.emod_nonneg a4 (show (n : Int) ≠ 0 by omega); omega⟩
    have hkn : kk < n := by have := Int.emod_lt_of_pos a4 (show (0 : Int) < n by omega); omega
    rw [hkk] at HW4
    obtain ⟨r, hr⟩ : ∃ r, M[kk]? = some r := ⟨_, List.getElem?_eq_getElem (by rw [HML.out]; exact hkn)⟩
    have hrl := (HR.out r (List.mem_of_getElem? hr)).1
    have hset0 : M.set kk (rowW r x 0) = M := by rw [rowW_zero]; obtain ⟨h1, h2⟩ := List.getElem?_eq_some_iff.1 hr; rw [← h2]; exact List.set_getElem_self h1
    obtain ⟨gd, cd, ud, rfl, hgd, hgdl, hud, hcud, -, -, -⟩ := HOMD4.out.at_ hr
    obtain ⟨ge, ce, ue, rfl, hge, -, -, -, -, -, -⟩ := HOME.out.at_ hr
    rw [HML.out] at HOME
    obtain ⟨KB1, KB2⟩ := HOMD.out.blk
    have HKB := Lib.hid (And.intro KB1 KB2)
    clear KB1 KB2
    have HR' := Lib.hid hr
    have HUD := Lib.hid hud
    have hRB := (HR.out r (List.mem_of_getElem? hr)).2
    have HRB := Lib.hid hRB
    have HRL := Lib.hid hrl
    have HS0 := Lib.hid hset0
    rw [HML.out] at HOMD4 HOMD ⊢
    obtain ⟨gb, cb, ub, eb, -, -, hub, -, -, hoib, -⟩ := HOMD.out.at_ hr
    have hgd3 : gd < w3.heap.size := (HOMD.out.own.lt gd rfl).2
    obtain ⟨Pu, cu, hue, -⟩ := hoib.form
    rw [hrl] at hue
    obtain rfl : ub = ud := Option.some.inj (hub.symm.trans hud)
    have hm1 : 1 ≤ m := by omega
    obtain ⟨gu, hgu⟩ : ∃ gu, Pu = some ⟨gu, 0, none⟩ := by
      obtain ⟨g5, c5, e5, _⟩ := hoib.cell (i := 0) (x := r[0]'(by omega)) (List.getElem?_eq_getElem (by omega))
      rw [hue] at e5
      injection e5 with e5 _ _
      exact ⟨g5, e5⟩
    subst hgu
    subst hue
    have hgu3 : gu < w3.heap.size := (hoib.1.lt gu rfl).2
    have hgu2 : w2.heap.size ≤ gu := (hoib.1.lt gu rfl).1
    have k0 : (0 : Int) ≤ (kk : Int) := by omega
    have kz : (kk : Int) < (n : Int) := by omega
    clear hud hcud hr hrl hRB hset0 hub hoib eb hkk
    go_wp2_with fail
    refine (HW4.out w4).mono ?_
    rintro e w' ⟨rfl, rfl⟩
    go_wp2_with fail
    refine (HW5.out w4).mono ?_
    rintro e w' ⟨rfl, rfl⟩
    go_wp2
    go_loopw [20] (fun p wr => ∃ j : Nat, p = .int .i64 j ∧ j ≤ m ∧ OM w2.heap.size wr (.slice (some ⟨gd, 0, none⟩) n cd) (M.set kk (rowW r x j)) usd ∧ OM w3.heap.size wr (.slice (some ⟨ge, 0, none⟩) n ce) M use ∧ Below w2.heap.size w2 wr) (fun p _ => m - (intOf p).toNat)
    case atStart => exact ⟨0, rfl, Nat.zero_le _, by rw [HS0.out]; exact HOMD4.out, HOME.out, HB24.out⟩
    case round =>
      obtain ⟨j, rfl, hj, homd, home, hbr⟩ := hrel
      rename World => wr
      have HD := Lib.hid homd
      have HE := Lib.hid home
      have HB := Lib.hid hbr
      clear homd home hbr
      have hrk : (M.set kk (rowW r x j))[kk]? = some (rowW r x j) := by rw [List.getElem?_set_self (by rw [HML.out]; exact hkn)]
      obtain ⟨gd2, cd2, ud2, e2, -, -, hud2, hcd, hfd, hoi, -⟩ := HD.out.at_ hrk
      obtain rfl : _ = ud2 := Option.some.inj (HUD.out.symm.trans hud2)
      injection e2 with e3 e9 e10
      injection e3 with e3
      injection e3 with e3
      subst e3
      clear e9 e10
      have hrwl : (rowW r x j).length = m := by rw [rowW_len, HRL.out]
      by_cases hlt : j < m
      · have hjz : (j : Int) < (m : Int) := by omega
        have j0 : (0 : Int) ≤ (j : Int) := by omega
        have hyy : (rowW r x j)[j]? = some (cst r j) := by
          have h9 := rowW_cst r x (j := j) (q := j) (by rw [HRL.out]; exact hlt)
          rw [if_neg (by omega)] at h9
          unfold cst at h9
          rw [List.getElem?_eq_getElem (by rw [hrwl]; exact hlt)] at h9 ⊢
          simp only [Option.getD_some] at h9
          rw [h9]
          rfl
        obtain ⟨g6, c6, e6, -, -, hcy, hfy⟩ := hoi.cell hyy
        injection e6 with e7 e9 e8
        injection e7 with e7
        injection e7 with e7
        subst e7
        clear e8 e9
        have hyb := HRB.out (cst r j) (cst_mem (by rw [HRL.out]; exact hlt))
        obtain ⟨y, hy⟩ : ∃ y, y = cst r j := ⟨_, rfl⟩
        rw [← hy] at hcy hyb
        have hyw : IntKind.i64.wrap (y + x) = y + x := IntWalk.i64_in _ (by omega)
        have hnew := HD.out.put (i := kk) (j := j) (g := gu) (c := cu) (r := rowW r x j) (by rw [hrwl]; exact HUD.out) hrk (y + x) (by constructor <;> omega)
        rw [List.set_set, hy, rowW_set r x, ← hy] at hnew
        have HNEW := Lib.hid hnew
        have HE2 := Lib.hid (HE.out.other (g := gu) (i := j) hgu3 (.int .i64 (y + x)))
        have HB2' := Lib.hid (HB.out.setCell (p := ⟨gu, j, none⟩) hgu2 (.int .i64 (y + x)))
        have HCC : Hid (wr.drew.cell? ⟨gd, kk, none⟩ = some (.slice (some ⟨gu, 0, none⟩) m cu) ∧ wr.drew.cell? ⟨gu, j, none⟩ = some (.int .i64 y)) := Lib.hid ⟨hcd, hcy⟩
        have hcy' : wr.drew.cell? ⟨gu, j, none⟩ = some (.int .i64 y) := hcy
        have hfy' : wr.drew.frozen? ⟨gu, j, none⟩ = false := hfy
        clear hrk hud2 hfd hoi hrwl hyy hcy hfy hy hnew
        go_wp2
        refine region_P (S := fun W => W.cell? ⟨gd, kk, none⟩ = some (.slice (some ⟨gu, 0, none⟩) m cu) ∧ W.cell? ⟨gu, j, none⟩ = some (.int .i64 y)) (kill := [15]) (by kernel_rfl) HCC.out (fun hHeld => ?_)
        refine anyP_pure (i := 0) (v := ?vq0) rfl (by kernel_rfl) (by kernel_rfl) (by kernel_rfl) (by kernel_rfl) (fun _ _ _ h => h) (Or.inl ⟨by rfl, ?yq0⟩) ?rq0
        case yq0 => (intro W hW; go_simp; first | done | with_reducible rfl)
        try simp only [List.getElem_toArray, List.getElem_cons_zero, Act.put, List.setIfInBounds_toArray, List.set_cons_zero, List.set_cons_succ]
        refine anyP_pure (i := 1) (v := ?vq1) rfl (by kernel_rfl) (by kernel_rfl) (by kernel_rfl) (by kernel_rfl) (fun _ _ _ h => h) (Or.inl ⟨by rfl, ?yq1⟩) ?rq1
        case yq1 => (intro W hW; go_simp; first | done | with_reducible rfl)
        try simp only [List.getElem_toArray, List.getElem_cons_succ, List.getElem_cons_zero, Act.put, List.setIfInBounds_toArray, List.set_cons_zero, List.set_cons_succ]
        refine anyP_take (i := 2) (v := ?vq2) rfl (by kernel_rfl) (by kernel_rfl) (by kernel_rfl) (by kernel_rfl) (by kernel_rfl) (fun _ _ _ h => h) (Or.inl ⟨by rfl, ?yq2⟩) hHeld ?rq2
        case yq2 => (intro W hW; obtain ⟨hA, hB⟩ := hW; go_simp; first | done | with_reducible rfl)
        try simp only [List.getElem_toArray, List.getElem_cons_succ, List.getElem_cons_zero, Act.put, List.setIfInBounds_toArray, List.set_cons_zero, List.set_cons_succ]
        refine anyP_take (i := 3) (v := ?vq3) rfl (by kernel_rfl) (by kernel_rfl) (by kernel_rfl) (by kernel_rfl) (by kernel_rfl) (fun _ _ _ h => h) (Or.inl ⟨by rfl, ?yq3⟩) hHeld ?rq3
        case yq3 => (intro W hW; obtain ⟨hA, hB⟩ := hW; go_simp; first | done | with_reducible rfl)
        try simp only [List.getElem_toArray, List.getElem_cons_succ, List.getElem_cons_zero, Act.put, List.setIfInBounds_toArray, List.set_cons_zero, List.set_cons_succ]
        refine anyP_pure (i := 4) (v := ?vq4) rfl (by kernel_rfl) (by kernel_rfl) (by kernel_rfl) (by kernel_rfl) (fun _ _ _ h => h) (Or.inl ⟨by rfl, ?yq4⟩) ?rq4
        case yq4 => (intro W hW; go_simp; first | done | with_reducible rfl)
        try simp only [List.getElem_toArray, List.getElem_cons_succ, List.getElem_cons_zero, Act.put, List.setIfInBounds_toArray, List.set_cons_zero, List.set_cons_succ]
        refine anyP_pure (i := 5) (v := ?vq5) rfl (by kernel_rfl) (by kernel_rfl) (by kernel_rfl) (by kernel_rfl) (fun _ _ _ h => h) (Or.inl ⟨by rfl, ?yq5⟩) ?rq5
        case yq5 => (intro W hW; go_simp; first | done | with_reducible rfl)
        try simp only [List.getElem_toArray, List.getElem_cons_succ, List.getElem_cons_zero, Act.put, List.setIfInBounds_toArray, List.set_cons_zero, List.set_cons_succ]
        refine anyP_pure (i := 6) (v := ?vq6) rfl (by kernel_rfl) (by kernel_rfl) (by kernel_rfl) (by kernel_rfl) (fun _ _ _ h => h) (Or.inl ⟨by rfl, ?yq6⟩) ?rq6
        case yq6 => (intro W hW; go_simp; first | done | with_reducible rfl)
        try simp only [List.getElem_toArray, List.getElem_cons_succ, List.getElem_cons_zero, Act.put, List.setIfInBounds_toArray, List.set_cons_zero, List.set_cons_succ]
        refine anyP_take (i := 7) (v := ?vq7) rfl (by kernel_rfl) (by kernel_rfl) (by kernel_rfl) (by kernel_rfl) (by kernel_rfl) (fun _ _ _ h => h) (Or.inl ⟨by rfl, ?yq7⟩) hHeld ?rq7
        case yq7 => (intro W hW; obtain ⟨hA, hB⟩ := hW; go_simp; first | done | with_reducible rfl)
        try simp only [List.getElem_toArray, List.getElem_cons_succ, List.getElem_cons_zero, Act.put, List.setIfInBounds_toArray, List.set_cons_zero, List.set_cons_succ]
        refine anyP_take (i := 8) (v := ?vq8) rfl (by kernel_rfl) (by kernel_rfl) (by kernel_rfl) (by kernel_rfl) (by kernel_rfl) (fun _ _ _ h => h) (Or.inl ⟨by rfl, ?yq8⟩) hHeld ?rq8
        case yq8 => (intro W hW; obtain ⟨hA, hB⟩ := hW; go_simp; first | done | with_reducible rfl)
        try simp only [List.getElem_toArray, List.getElem_cons_succ, List.getElem_cons_zero, Act.put, List.setIfInBounds_toArray, List.set_cons_zero, List.set_cons_succ]
        refine anyP_pure (i := 9) (v := ?vq9) rfl (by kernel_rfl) (by kernel_rfl) (by kernel_rfl) (by kernel_rfl) (fun _ _ _ h => h) (Or.inl ⟨by rfl, ?yq9⟩) ?rq9
        case yq9 => (intro W hW; go_simp; first | done | with_reducible rfl)
        try simp only [List.getElem_toArray, List.getElem_cons_succ, List.getElem_cons_zero, Act.put, List.setIfInBounds_toArray, List.set_cons_zero, List.set_cons_succ]
        refine anyP_take (i := 10) (v := ?vq10) rfl (by kernel_rfl) (by kernel_rfl) (by kernel_rfl) (by kernel_rfl) (by kernel_rfl) (fun _ _ _ h => h) (Or.inl ⟨by rfl, ?yq10⟩) hHeld ?rq10
        case yq10 => (intro W hW; obtain ⟨hA, hB⟩ := hW; go_simp; first | done | with_reducible rfl)
        try simp only [List.getElem_toArray, List.getElem_cons_succ, List.getElem_cons_zero, Act.put, List.setIfInBounds_toArray, List.set_cons_zero, List.set_cons_succ]
        refine anyP_take (i := 11) (v := ?vq11) rfl (by kernel_rfl) (by kernel_rfl) (by kernel_rfl) (by kernel_rfl) (by kernel_rfl) (fun _ _ _ h => h) (Or.inl ⟨by rfl, ?yq11⟩) hHeld ?rq11
        case yq11 => (intro W hW; obtain ⟨hA, hB⟩ := hW; go_simp; first | done | with_reducible rfl)
        try simp only [List.getElem_toArray, List.getElem_cons_succ, List.getElem_cons_zero, Act.put, List.setIfInBounds_toArray, List.set_cons_zero, List.set_cons_succ]
        refine anyP_pure (i := 12) (v := ?vq12) rfl (by kernel_rfl) (by kernel_rfl) (by kernel_rfl) (by kernel_rfl) (fun _ _ _ h => h) (Or.inl ⟨by rfl, ?yq12⟩) ?rq12
        case yq12 => (intro W hW; go_simp; first | done | with_reducible rfl)
        try simp only [List.getElem_toArray, List.getElem_cons_succ, List.getElem_cons_zero, Act.put, List.setIfInBounds_toArray, List.set_cons_zero, List.set_cons_succ]
        refine anyP_take (i := 13) (v := ?vq13) rfl (by kernel_rfl) (by kernel_rfl) (by kernel_rfl) (by kernel_rfl) (by kernel_rfl) (fun _ _ _ h => h) (Or.inl ⟨by rfl, ?yq13⟩) hHeld ?rq13
        case yq13 => (intro W hW; obtain ⟨hA, hB⟩ := hW; go_simp; first | done | with_reducible rfl)
        try simp only [List.getElem_toArray, List.getElem_cons_succ, List.getElem_cons_zero, Act.put, List.setIfInBounds_toArray, List.set_cons_zero, List.set_cons_succ]
        refine anyP_take (i := 14) (v := ?vq14) rfl (by kernel_rfl) (by kernel_rfl) (by kernel_rfl) (by kernel_rfl) (by kernel_rfl) (fun _ _ _ h => h) (Or.inl ⟨by rfl, ?yq14⟩) hHeld ?rq14
        case yq14 => (intro W hW; obtain ⟨hA, hB⟩ := hW; go_simp; first | done | with_reducible rfl)
        try simp only [List.getElem_toArray, List.getElem_cons_succ, List.getElem_cons_zero, Act.put, List.setIfInBounds_toArray, List.set_cons_zero, List.set_cons_succ]
        refine anyP_ready (rs := [15]) (by kernel_rfl) (by simp) ?_
        refine AllP.cons rfl (fun K hK => ?_) (AllP.nil)
        go_simp
        refine hK.out _ _ (fun h => absurd (by decide) h) ?_
        clear hK K
        try simp only [List.getElem_toArray, List.getElem_cons_succ, List.getElem_cons_zero, Act.put, List.setIfInBounds_toArray, List.set_cons_zero, List.set_cons_succ]
        refine anyP_done (by kernel_rfl) ?_ _
        go_wp2
        go_roundw
        case rel => exact ⟨j + 1, by go_num, by omega, HNEW.out.below (Below.refl _ _).drew, HE2.out.below (Below.refl _ _).drew, HB2'.out.drew⟩
        case measure => simp [intOf]; omega
      · obtain rfl : j = m := by omega
        have hjj : decide ((j : Int) < (j : Int)) = false := by simp
        clear hrk hud2 hfd hoi hrwl
        obtain ⟨ev, hev⟩ : ∃ ev : Nat → Int, ev = fun q => match zs[q]? with | some z => z % 60 | none => (q : Int) := ⟨_, rfl⟩
        have hevb : ∀ q, q ≤ 5 → 0 ≤ ev q ∧ ev q ≤ 59 := fun q hq => by
          rw [hev]
          dsimp only
          cases zs[q]? with
          | none => exact ⟨by show (0 : Int) ≤ (q : Int); omega, by show (q : Int) ≤ 59; omega⟩
          | some z => exact ⟨Int.emod_nonneg z (by omega), by show z % 60 ≤ 59; omega⟩
        have HEV := Lib.hid hev
        have HEB := Lib.hid hevb
        clear hev hevb
        go_wp2
        go_loopw [21] (fun p wq => ∃ (i : Nat) (us : List Value), p = .int .i64 i ∧ i ≤ n ∧ OM w3.heap.size wq (.slice (some ⟨ge, 0, none⟩) n ce) (extL M ev i) us ∧ Below w3.heap.size wr wq ∧ w3.heap.size ≤ wq.heap.size) (fun p _ => n - (intOf p).toNat)
        case atStart => exact ⟨0, use, rfl, Nat.zero_le _, by rw [extL_zero]; exact HE.out, Below.refl _ _, by have := (HE.out.own.lt ge rfl); omega⟩
        case round =>
          obtain ⟨i, us, rfl, hi, home, hbq, hsz⟩ := hrel
          rename World => wq
          have HEq := Lib.hid home
          have HBq := Lib.hid hbq
          clear home hbq
          by_cases hin : i < n
          · have hinz : (i : Int) < (n : Int) := by omega
            have i0 : (0 : Int) ≤ (i : Int) := by omega
            obtain ⟨ri, hri⟩ : ∃ ri, M[i]? = some ri := ⟨_, List.getElem?_eq_getElem (by rw [HML.out]; exact hin)⟩
            have hril := (HR.out ri (List.mem_of_getElem? hri)).1
            have hre := extL_at ev hri
            obtain ⟨ge2, ce2, ui, e2, -, -, hui, hcui, -, hoi, -⟩ := HEq.out.at_ hre
            rw [extL_len, HML.out] at e2
            injection e2 with e3 e9 e10
            injection e3 with e3
            injection e3 with e3
            subst e3
            clear e9 e10
            obtain ⟨Pi, ci, rfl, -⟩ := hoi.form
            rw [hril] at hcui hui
            have hevi := HEB.out i (by omega)
            obtain ⟨g', c', wp, hrun, hom', hbp, hcp, hfp⟩ := om_push (x := ev i) HEq.out hui hre (by rw [extL_len, HML.out]) (by constructor <;> omega) (by rw [hril]; omega) hsz hge
            rw [hril] at hrun hom' hbp
            rw [extL_set ev hri] at hom'
            have HO' := Lib.hid hom'
            have HB' := Lib.hid (HBq.out.trans hbp)
            have hsz' := hbp.size
            clear hom' hbp hui hri hre hoi
            by_cases h6 : i < len6
            · have h6z : decide ((i : Int) < (len6 : Int)) = true := decide_eq_true (by omega)
              have h6y : (i : Int) < (len6 : Int) := by omega
              obtain ⟨ad, z, rfl, hz, hzi, hcz⟩ := (HN6.out.keep (Keeps.of_below (HB2.out.trans ((HB.out.trans (HBq.out.mono hz23)).mono hz2)))).at_ h6
              have HWZ := Lib.hid (fun W => mwithin z 60 W hzi (by omega) (by omega))
              have hez : ev i = z % 60 := by rw [HEV.out]; dsimp only; rw [hz]
              rw [← hez] at HWZ
              have Hrun := Lib.hid hrun
              clear hrun hz hzi hez
              go_wp2_with fail
              refine (HWZ.out wq).mono ?_
              rintro e w' ⟨rfl, rfl⟩
              go_wp2_with (at_builtin; have _t := Hrun; refine wpList_append_eq rfl (.tmp 103) (.tmp 105) 22 rfl _ _ _ _ rfl rfl Hrun.out ?_; clear _t Hrun)
              go_roundw
              case rel => exact ⟨i + 1, _, by go_num, by omega, HO'.out, HB'.out, by omega⟩
              case measure => simp [intOf]; omega
            · have h6z : decide ((i : Int) < (len6 : Int)) = false := decide_eq_false (by omega)
              have hez : ev i = (i : Int) := by rw [HEV.out]; dsimp only; rw [List.getElem?_eq_none (by rw [HZL.out]; omega)]
              rw [hez] at hrun
              have Hrun := Lib.hid hrun
              clear hrun hez
              go_wp2_with (at_builtin; have _t := Hrun; refine wpList_append_eq rfl (.tmp 103) (.tmp 105) 22 rfl _ _ _ _ rfl rfl Hrun.out ?_; clear _t Hrun)
              go_roundw
              case rel => exact ⟨i + 1, _, by go_num, by omega, HO'.out, HB'.out, by omega⟩
              case measure => simp [intOf]; omega
          · obtain rfl : i = n := by omega
            have hii : decide ((i : Int) < (i : Int)) = false := by simp
            have hB2q : Below w2.heap.size w2 wq := HB.out.trans (HBq.out.mono hz23)
            have HMCq := Lib.hid (HMC.out.keep (Keeps.of_below hB2q))
            have hDq := HD.out.keepD HKB.out.1 HKB.out.2 HBq.out
            obtain ⟨Ad, cd', ed, hmd⟩ := hDq.mat
            rw [List.length_set, HML.out] at ed hmd
            injection ed with ed1 ed2 ed3
            subst ed1
            obtain ⟨Ae, ce', ee, hme⟩ := HEq.out.mat
            rw [extL_len, HML.out] at ee hme
            injection ee with ee1 ee2 ee3
            subst ee1
            have HMDq := Lib.hid hmd
            have HMEq := Lib.hid hme
            have hokd : okM (M.set kk (rowW r x j)) = true := okM_of (m := j) (by omega) (by rw [List.length_set, HML.out]; exact hnm) (fun r' hr' => by
              rcases set_mem hr' with h | rfl
              · exact ⟨(HR.out r' h).1, fun y hy => by have := (HR.out r' h).2 y hy; omega⟩
              · refine ⟨by rw [rowW_len]; exact HRL.out, fun y hy => ?_⟩
                unfold rowW at hy
                obtain ⟨q, hq, rfl⟩ := List.mem_map.1 hy
                have := HRB.out (cst r q) (cst_mem (List.mem_range.1 hq))
                split <;> omega)
            have hext : ∀ r' ∈ extL M ev i, r'.length = j + 1 ∧ ∀ y ∈ r', 0 ≤ y ∧ y ≤ 1000000 := fun r' hr' => by
              obtain ⟨q, hq⟩ := List.mem_iff_getElem?.1 hr'
              have hqi : q < i := by have := (List.getElem?_eq_some_iff.1 hq).1; rwa [extL_len, HML.out] at this
              unfold extL at hq
              rw [List.getElem?_map, List.getElem?_range (by rw [HML.out]; exact hqi)] at hq
              simp only [Option.map_some, Option.some.injEq] at hq
              rw [if_pos hqi, List.getElem?_eq_getElem (by rw [HML.out]; exact hqi)] at hq
              simp only [Option.getD_some] at hq
              have hb := HR.out (M[q]'(by rw [HML.out]; exact hqi)) (List.getElem_mem _)
              subst hq
              refine ⟨by rw [List.length_append, hb.1]; rfl, fun y hy => ?_⟩
              rcases List.mem_append.1 hy with h | h
              · have := hb.2 y h; omega
              · rw [List.mem_singleton.1 h]; have := HEB.out q (by omega); omega
            have hoke : okM (extL M ev i) = true := okM_of (m := j + 1) (by omega) (by rw [extL_len, HML.out]; omega) hext
            have hMne : M ≠ [] := fun e => by have := HML.out; rw [e] at this; simp at this; omega
            have hle := ext_le (ev := ev) HOK.out (fun r' h => (HR.out r' h).1) hMne (by rw [HML.out]; exact hoke)
            rw [HML.out] at hle
            have hfst := more_fst (x := x) HOK.out (fun r' h => (HR.out r' h).1) HR'.out (by rw [HRL.out]; exact hokd)
            rw [HRL.out] at hfst
            have hA1 := fun W hW => assign_any Ac i cc M W hW (by omega) (fun r' h => by rw [(HR.out r' h).1]; omega)
            rw [HOK.out] at hA1
            have hA2 := fun W hW => assign_any (some ⟨gd, 0, none⟩) i cd (M.set kk (rowW r x j)) W hW (by omega) (fun r' h => by
              rcases set_mem h with h | rfl
              · rw [(HR.out r' h).1]; omega
              · rw [rowW_len, HRL.out]; omega)
            rw [hokd, hfst.1, hfst.2] at hA2
            have hA3 := fun W hW => assign_any (some ⟨ge, 0, none⟩) i ce (extL M ev i) W hW (by omega) (fun r' h => by rw [(hext r' h).1]; omega)
            rw [hoke] at hA3
            obtain ⟨tc, htc⟩ : ∃ tc, tc = totL M := ⟨_, rfl⟩
            obtain ⟨te, hte⟩ : ∃ te, te = totL (extL M ev i) := ⟨_, rfl⟩
            have htcb : 0 ≤ tc ∧ tc ≤ 12000000 := by
              rw [htc, totL_ok HOK.out]
              have := restR_in M 0 (fun r' h y hy => by have := (HR.out r' h).2 y hy; omega)
              rw [HML.out] at this
              omega
            rw [← htc] at hA1 hA2 hle
            rw [← hte] at hA3 hle
            have HA1 := Lib.hid hA1
            have HA2 := Lib.hid hA2
            have HA3 := Lib.hid hA3
            have hltc : te ≤ tc := hle
            have hbase : w.heap.size ≤ w2.heap.size := hz2
            have HBW := Lib.hid (HB2.out.trans (hB2q.mono hz2))
            clear hDq hmd hme ed2 ed3 ee2 ee3 hokd hext hoke hMne hle hfst hA1 hA2 hA3 htc hte hB2q
            go_wp2_with fail
            refine (HA1.out wq HMCq.out).mono ?_
            rintro e w7 ⟨v1, rfl, ho1, hb7⟩
            have HB7 := Lib.hid (HBW.out.trans (hb7.mono HBW.out.size))
            have HMD7 := Lib.hid (HMDq.out.keep (Keeps.of_below hb7))
            have HME7 := Lib.hid (HMEq.out.keep (Keeps.of_below hb7))
            obtain ⟨P1, c1, rfl, -, -, hn1, -⟩ := ho1.form
            have HX1 := Lib.hid hn1
            clear hb7 ho1 hn1
            go_wp2_with fail
            refine (HA2.out w7 HMD7.out).mono ?_
            rintro e w8 ⟨v2, rfl, ho2, hb8⟩
            have HB8 := Lib.hid (HB7.out.trans (hb8.mono HB7.out.size))
            have HME8 := Lib.hid (HME7.out.keep (Keeps.of_below hb8))
            have HX1' := Lib.hid (HX1.out.keep (Keeps.of_below hb8))
            obtain ⟨P2, c2, rfl, -, -, hn2, -⟩ := ho2.form
            have HX2 := Lib.hid hn2
            clear hb8 ho2 hn2
            go_wp2_with fail
            refine (HA3.out w8 HME8.out).mono ?_
            rintro e w9 ⟨v3, rfl, ho3, hb9⟩
            have HB9 := Lib.hid (HB8.out.trans (hb9.mono HB8.out.size))
            have HX1'' := Lib.hid (HX1'.out.keep (Keeps.of_below hb9))
            have HX2'' := Lib.hid (HX2.out.keep (Keeps.of_below hb9))
            obtain ⟨P3, c3, rfl, -, -, -, -⟩ := ho3.form
            have hTl : (toL M).length ≤ 4611686018427387904 := by have := toL_le M; omega
            have hee : (tc + x == tc + x) = true := by simp
            clear hb9 ho3
            go_wp2_with fail
            refine (rInts P1 P2 _ _ c1 c2 _ _ w9 HX1''.out HX2''.out hTl).mono ?_
            rintro e wz ⟨rfl, q, rfl⟩
            rw [decide_eq_true rfl]
            go_wp2
            go_ret
            exact ⟨rfl, below_drewN HB9.out q⟩
end Go.Proofs.Ytimffjonhoplpaa
