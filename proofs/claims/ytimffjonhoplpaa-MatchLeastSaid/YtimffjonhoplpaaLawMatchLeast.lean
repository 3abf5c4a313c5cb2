/- The law MatchLeast. -/
import Derived.Test.YtimffjonhoplpaaLeaP
namespace Go.Proofs.Ytimffjonhoplpaa
open Go.RowKit Go.Shelf
attribute [local go_sem] Oper.semAt_some
set_option maxRecDepth 100000 in
set_option maxHeartbeats 8000000 in
theorem matchLeast_walk (a0 a1 : Int) (a2 : Option Addr) (len2 cap2 : Nat) (z2 : List Int) (a3 : Int) (a4 : Option Addr) (len4 cap4 : Nat) (z4 : List Int) (w : World) (h0 : inK .i64 a0) (h1 : inK .i64 a1) (w2 : IsRow .i64 w a2 len2 cap2 z2) (h3 : inK .i64 a3) (w4 : IsRow .i64 w a4 len4 cap4 z4) :
    Calls Try.prog 4 #[.int .i64 a0, .int .i64 a1, .slice a2 len2 cap2, .int .i64 a3, .slice a4 len4 cap4] w fun e w' => e = .returned (.bool true) ∧ Below w.heap.size w w' := by
  have hnz := w2.nums.1
  have hn4 := w4.nums.1
  have HNZ := Lib.hid hnz
  have HN4 := Lib.hid hn4
  clear w2 w4 hnz hn4
  obtain ⟨n, hn⟩ : ∃ n : Nat, n = (a0 % 6).toNat := ⟨_, rfl⟩
  obtain ⟨m, hm⟩ : ∃ m : Nat, m = (a0 % 6).toNat + (a1 % 5).toNat := ⟨_, rfl⟩
  have n5 : n ≤ 5 := by omega
  have m9 : m ≤ 9 := by omega
  have hnm : n ≤ m := by omega
  have hok := matC_ok (zs := z2.take len2) (sp := a3) (show m ≤ 12 by omega) hnm
  have hrow := fun r hr => matC_row (zs := z2.take len2) (sp := a3) (m := m) (n := n) r hr
  have hML := matC_len (z2.take len2) a3 m n
  have hCO := fun W hW => costs_any a0 a1 a3 a2 len2 cap2 (z2.take len2) W h0 h1 h3 hW
  obtain ⟨M, hM⟩ : ∃ M, M = matC (z2.take len2) a3 m n := ⟨_, rfl⟩
  rw [← hm, ← hn, ← hM] at hCO
  rw [← hM] at hok hrow hML
  have HCO := Lib.hid hCO
  have HR := Lib.hid hrow
  have HOK := Lib.hid hok
  have HML := Lib.hid hML
  obtain ⟨F, hF⟩ : ∃ F, F = fst1 M 0 := ⟨_, rfl⟩
  have htl := toL_ok hok
  rw [← hF] at htl
  have HTL := Lib.hid htl
  have HFE := Lib.hid hF
  clear hCO hrow hok hM hn hm hML hF htl
  go_enter Try.func4, Try.ntmps4
  go_wp2_with fail
  refine (known9_any w).mono ?_
  rintro e w1 ⟨rfl, hb1⟩
  have HB1 := Lib.hid hb1
  have hz1 := hb1.size
  clear hb1
  go_wp2_with fail
  refine (HCO.out w1 (HNZ.out.keep (Keeps.of_below HB1.out))).mono ?_
  rintro e w2 ⟨vc, usc, rfl, homc, hb2⟩
  have HB2 := Lib.hid (HB1.out.trans (hb2.mono hz1))
  obtain ⟨Ac, cc, rfl, hmc⟩ := homc.mat
  rw [HML.out] at hmc ⊢
  have HMC2 := Lib.hid hmc
  clear homc hb2 hmc
  go_wp2_with fail
  refine (assign_any Ac n cc M w2 HMC2.out (by omega) (fun r hr => by rw [(HR.out r hr).1]; omega)).mono ?_
  rintro e w3 ⟨v1, rfl, ho1, hb3⟩
  rw [HOK.out]
  have HB3 := Lib.hid (HB2.out.trans (hb3.mono HB2.out.size))
  have HMC := Lib.hid (HMC2.out.keep (Keeps.of_below hb3))
  obtain ⟨P1, c1, rfl, -, -, hn1, -⟩ := ho1.form
  rw [HTL.out] at hn1 ⊢
  clear hb3 ho1 HMC2
  by_cases hn0 : n = 0
  · subst hn0
    have hM0 : M = [] := List.length_eq_zero_iff.1 HML.out
    have ht0 : totL M = 0 := by rw [totL_ok HOK.out, hM0]; rfl
    have hF0 : F = [] := by rw [HFE.out, hM0]; rfl
    rw [ht0, hF0]
    simp only [List.map_nil, List.length_nil]
    clear hn1 hM0 ht0 hF0
    go_wp2
    go_ret
    exact ⟨rfl, HB3.out⟩
  · have hne : ((n : Int) == 0) = false := by simp; omega
    have hn1' : 0 < n := by omega
    have hm1 : 1 ≤ m := by omega
    have hrowM : ∀ r ∈ M, r.length = m := fun r hr => (HR.out r hr).1
    have hwid : wid M = m := by
      cases hMM : M with
      | nil => have := HML.out; rw [hMM] at this; simp at this; omega
      | cons a b => exact hrowM a (by rw [hMM]; exact List.mem_cons_self ..)
    have hroom : Room M m 0 := hwid ▸ room_ok HOK.out
    obtain ⟨hFl, hFn, hFb⟩ := fst1_spec HOK.out
    rw [hwid] at hFb
    rw [← HFE.out] at hFl hFn hFb
    rw [HML.out] at hFl
    have hFs : sumC M F = totL M := by rw [totL_ok HOK.out, HFE.out]; exact (fst1_ok M m 0 hroom).2
    have hmin : ∀ T : List Nat, T.Perm (List.range m) → totL M ≤ sumC M (T.take n) ∧ (sumC M (T.take n) = totL M → ¬ lexlt (T.take n) F) := fun T hT => by
      obtain ⟨t1, t2, t3⟩ := perm_spec hT
      have hO : Ok M 0 (T.take n) := Ok_of hrowM (by rw [List.length_take, t1, HML.out]; omega) (t2.sublist (List.take_sublist _ _)) (fun k hk => t3 k (List.mem_of_mem_take hk))
      rw [totL_ok HOK.out]
      exact ⟨restR_le M 0 _ hO, fun h => by rw [HFE.out]; exact fst1_first M m 0 _ hroom hO h⟩
    have hml : (F.map fun (k : Nat) => (k : Int)).length = n := by rw [List.length_map, hFl]
    rw [hml] at hn1 ⊢
    have HN1 := Lib.hid hn1
    have HFL := Lib.hid hFl
    have HFN := Lib.hid hFn
    have HFB := Lib.hid hFb
    have HFS := Lib.hid hFs
    have HMIN := Lib.hid hmin
    obtain ⟨tt, htt⟩ : ∃ tt, tt = totL M := ⟨_, rfl⟩
    rw [← htt] at HFS HMIN ⊢
    obtain ⟨ac, r0, B0, d0, rfl, hr0, hc0, -⟩ := HMC.out.at_ hn1'
    have hr0l := hrowM r0 (List.mem_of_getElem? hr0)
    rw [show ac.add 0 = ac from by simp [Addr.add], hr0l] at hc0
    have hnn : ((n : Int) != (n : Int)) = false := by simp
    have hmk := make_bools9 m (by omega) w3
    have hown := memB_nil w3 4 m
    have hbm : Below w3.heap.size w3 (w3.alloc (.cells (madeCells #[.bool false] m) 4)) := (Below.refl _ w3).alloc (Nat.le_refl _) _
    obtain ⟨w4, hw4⟩ : ∃ w4, w4 = w3.alloc (.cells (madeCells #[.bool false] m) 4) := ⟨_, rfl⟩
    rw [← hw4] at hmk hown hbm
    obtain ⟨gs, hgs⟩ : ∃ gs, gs = w3.heap.size := ⟨_, rfl⟩
    rw [← hgs] at hmk hown
    have hgs' : w3.heap.size ≤ gs := by omega
    have HOWN := Lib.hid hown
    have HBM := Lib.hid hbm
    clear hrowM hwid hroom hFl hFn hFb hFs hmin hml hn1 hr0 hr0l htt hw4 hown hbm hgs
    go_wp2
    go_loopw [16, 18] (fun sv p wr => ∃ i : Nat, p = .int .i64 i ∧ sv = .int .i64 (sumC (M.take i) (F.take i)) ∧ i ≤ n ∧ Go.Proofs.Ytimffjonhoplpaa.Own 4 wr gs (memB (F.take i) m) ∧ Below w3.heap.size w3 wr) (fun _ p _ => n - (intOf p).toNat)
    case atStart => exact ⟨0, rfl, rfl, Nat.zero_le _, HOWN.out, HBM.out⟩
    case round =>
      obtain ⟨i, rfl, rfl, hi, hown, hb⟩ := hrel
      rename World => wr
      have HOW := Lib.hid hown
      have HB := Lib.hid hb
      clear hown hb
      by_cases hlt : i < n
      · have hltz : (i : Int) < (n : Int) := by omega
        have i0 : (0 : Int) ≤ (i : Int) := by omega
        obtain ⟨ac', r, B, dr, e1, hr, hcr, hnr⟩ := (HMC.out.keep (Keeps.of_below HB.out)).at_ hlt
        obtain rfl : ac = ac' := Option.some.inj e1
        have hrl := (HR.out r (List.mem_of_getElem? hr)).1
        rw [hrl] at hcr hnr
        obtain ⟨pd, k, rfl, hk, hck⟩ := nums_nat (HN1.out.keep (Keeps.of_below HB.out)) hlt
        have hkm := HFB.out k (List.mem_of_getElem? hk)
        obtain ⟨rd, y, rfl, hy, -, hcy⟩ := hnr.at_ hkm
        have hyc : cst r k = y := by unfold cst; rw [hy]; rfl
        have hyb := (HR.out r (List.mem_of_getElem? hr)).2 y (List.mem_of_getElem? hy)
        have hnot : k ∉ F.take i := fun hm => by
          obtain ⟨q, hq⟩ := List.mem_iff_getElem?.1 hm
          have hqi : q < i := by have := (List.getElem?_eq_some_iff.1 hq).1; rw [List.length_take] at this; omega
          rw [List.getElem?_take, if_pos hqi] at hq
          obtain ⟨l1, e5⟩ := List.getElem?_eq_some_iff.1 hq
          obtain ⟨l2, e6⟩ := List.getElem?_eq_some_iff.1 hk
          exact List.pairwise_iff_getElem.1 HFN.out q i l1 l2 hqi (e5.trans e6.symm)
        have hcb := HOW.out.cell (memB_at (F.take i) hkm)
        rw [decide_eq_false hnot] at hcb
        have hfb := HOW.out.frozen k
        have hgsl := HOW.out.lt
        have hss := sum_snoc hr hk
        rw [hyc] at hss
        obtain ⟨sm, hsm⟩ : ∃ sm, sm = sumC (M.take i) (F.take i) := ⟨_, rfl⟩
        have hsb := sum_bd (M.take i) (F.take i) (fun r hr x hx => (HR.out r (List.mem_of_mem_take hr)).2 x hx)
        have hmtl : (M.take i).length ≤ 5 := by rw [List.length_take, HML.out]; omega
        rw [← hsm] at hss hsb ⊢
        have HSS := Lib.hid hss
        have hnew := HOW.out.set_ k (.bool true)
        rw [memB_set, ← take_snoc' hk] at hnew
        have HNEW := Lib.hid hnew
        have hk0 : ¬ (k : Int) < 0 := by omega
        have hk00 : (0 : Int) ≤ (k : Int) := by omega
        have hk1 : (k : Int) < (m : Int) := by omega
        have hkd : decide ((m : Int) ≤ (k : Int)) = false := decide_eq_false (by omega)
        have hkd2 : decide (m ≤ k) = false := decide_eq_false (by omega)
        have hsum : IntKind.i64.wrap (sm + y) = sm + y := IntWalk.i64_in _ (by omega)
        have hadl : (ac.add i).block ≠ gs := by
          obtain ⟨ac', r', B', dr', e1, hr', hcr', hnr'⟩ := HMC.out.at_ hlt
          obtain rfl : ac = ac' := Option.some.inj e1
          have := block_lt hcr'; omega
        have hpdl : (pd.add i).block ≠ gs := by
          obtain ⟨pd', k', e1, _, hck'⟩ := nums_nat HN1.out hlt
          obtain rfl : pd = pd' := Option.some.inj e1
          have := block_lt hck'; omega
        have hrdl : (rd.add k).block ≠ gs := by
          obtain ⟨ac', r', B', dr', e1, hr', hcr', hnr'⟩ := HMC.out.at_ hlt
          obtain rfl : ac = ac' := Option.some.inj e1
          obtain rfl : r = r' := Option.some.inj (hr.symm.trans hr')
          have h5 := (Keeps.of_below HB.out) _ _ hcr'
          rw [hrl] at h5 hnr'
          rw [hcr] at h5
          injection h5 with h5
          injection h5 with h6 _ _
          subst h6
          obtain ⟨rd', y', e7, _, _, hcy'⟩ := hnr'.at_ hkm
          obtain rfl : rd = rd' := Option.some.inj e7
          have := block_lt hcy'; omega
        have HCC : Hid ((wr.setCell ⟨gs, k, none⟩ (.bool true)).drew.cell? (ac.add i) = some (.slice (some rd) m dr) ∧ (wr.setCell ⟨gs, k, none⟩ (.bool true)).drew.cell? (pd.add i) = some (.int .i64 (k : Int)) ∧ (wr.setCell ⟨gs, k, none⟩ (.bool true)).drew.cell? (rd.add k) = some (.int .i64 y)) :=
          Lib.hid ⟨(World.cell?_of_block (Below.heap_setCell _ _ _ _ hadl)).trans hcr, (World.cell?_of_block (Below.heap_setCell _ _ _ _ hpdl)).trans hck, (World.cell?_of_block (Below.heap_setCell _ _ _ _ hrdl)).trans hcy⟩
        clear e1 hr hrl hnr hk hy hyc hnot hss hsm hnew hadl hpdl hrdl
        go_wp2
        refine wp_region_held_drew (S := fun W => W.cell? (ac.add i) = some (.slice (some rd) m dr) ∧ W.cell? (pd.add i) = some (.int .i64 (k : Int)) ∧ W.cell? (rd.add k) = some (.int .i64 y)) (by kernel_rfl) HCC.out (fun hHeld => ?_)
        refine wpAnyH_take (i := 0) (v := ?vu0) rfl (by kernel_rfl) (by kernel_rfl) (by kernel_rfl) (fun _ _ _ h => h) (Or.inl ⟨by rfl, ?yu0⟩) hHeld ?ru0
        case yu0 => (intro W hW; obtain ⟨hA, hB, hC⟩ := hW; go_simp; first | done | with_reducible rfl)
        try simp only [List.getElem_toArray, List.getElem_cons_zero, Act.put, List.setIfInBounds_toArray, List.set_cons_zero, List.set_cons_succ]
        refine wpAnyH_take (i := 1) (v := ?vu1) rfl (by kernel_rfl) (by kernel_rfl) (by kernel_rfl) (fun _ _ _ h => h) (Or.inl ⟨by rfl, ?yu1⟩) hHeld ?ru1
        case yu1 => (intro W hW; obtain ⟨hA, hB, hC⟩ := hW; go_simp; first | done | with_reducible rfl)
        try simp only [List.getElem_toArray, List.getElem_cons_succ, List.getElem_cons_zero, Act.put, List.setIfInBounds_toArray, List.set_cons_zero, List.set_cons_succ]
        refine wpAnyH_take (i := 2) (v := ?vu2) rfl (by kernel_rfl) (by kernel_rfl) (by kernel_rfl) (fun _ _ _ h => h) (Or.inl ⟨by rfl, ?yu2⟩) hHeld ?ru2
        case yu2 => (intro W hW; obtain ⟨hA, hB, hC⟩ := hW; go_simp; first | done | with_reducible rfl)
        try simp only [List.getElem_toArray, List.getElem_cons_succ, List.getElem_cons_zero, Act.put, List.setIfInBounds_toArray, List.set_cons_zero, List.set_cons_succ]
        refine wpAnyH_take (i := 3) (v := ?vu3) rfl (by kernel_rfl) (by kernel_rfl) (by kernel_rfl) (fun _ _ _ h => h) (Or.inl ⟨by rfl, ?yu3⟩) hHeld ?ru3
        case yu3 => (intro W hW; obtain ⟨hA, hB, hC⟩ := hW; go_simp; first | done | with_reducible rfl)
        try simp only [List.getElem_toArray, List.getElem_cons_succ, List.getElem_cons_zero, Act.put, List.setIfInBounds_toArray, List.set_cons_zero, List.set_cons_succ]
        refine wpAnyH_take (i := 4) (v := ?vu4) rfl (by kernel_rfl) (by kernel_rfl) (by kernel_rfl) (fun _ _ _ h => h) (Or.inl ⟨by rfl, ?yu4⟩) hHeld ?ru4
        case yu4 => (intro W hW; obtain ⟨hA, hB, hC⟩ := hW; go_simp; first | done | with_reducible rfl)
        try simp only [List.getElem_toArray, List.getElem_cons_succ, List.getElem_cons_zero, Act.put, List.setIfInBounds_toArray, List.set_cons_zero, List.set_cons_succ]
        refine wpAnyH_take (i := 5) (v := ?vu5) rfl (by kernel_rfl) (by kernel_rfl) (by kernel_rfl) (fun _ _ _ h => h) (Or.inl ⟨by rfl, ?yu5⟩) hHeld ?ru5
        case yu5 => (intro W hW; obtain ⟨hA, hB, hC⟩ := hW; go_simp; first | done | with_reducible rfl)
        try simp only [List.getElem_toArray, List.getElem_cons_succ, List.getElem_cons_zero, Act.put, List.setIfInBounds_toArray, List.set_cons_zero, List.set_cons_succ]
        refine wpAnyH_take (i := 6) (v := ?vu6) rfl (by kernel_rfl) (by kernel_rfl) (by kernel_rfl) (fun _ _ _ h => h) (Or.inl ⟨by rfl, ?yu6⟩) hHeld ?ru6
        case yu6 => (intro W hW; obtain ⟨hA, hB, hC⟩ := hW; go_simp; first | done | with_reducible rfl)
        try simp only [List.getElem_toArray, List.getElem_cons_succ, List.getElem_cons_zero, Act.put, List.setIfInBounds_toArray, List.set_cons_zero, List.set_cons_succ]
        refine wpAnyH_take (i := 7) (v := ?vu7) rfl (by kernel_rfl) (by kernel_rfl) (by kernel_rfl) (fun _ _ _ h => h) (Or.inl ⟨by rfl, ?yu7⟩) hHeld ?ru7
        case yu7 => (intro W hW; obtain ⟨hA, hB, hC⟩ := hW; go_simp; first | done | with_reducible rfl)
        try simp only [List.getElem_toArray, List.getElem_cons_succ, List.getElem_cons_zero, Act.put, List.setIfInBounds_toArray, List.set_cons_zero, List.set_cons_succ]
        refine wpAnyH_take (i := 8) (v := ?vu8) rfl (by kernel_rfl) (by kernel_rfl) (by kernel_rfl) (fun _ _ _ h => h) (Or.inl ⟨by rfl, ?yu8⟩) hHeld ?ru8
        case yu8 => (intro W hW; obtain ⟨hA, hB, hC⟩ := hW; go_simp; first | done | with_reducible rfl)
        try simp only [List.getElem_toArray, List.getElem_cons_succ, List.getElem_cons_zero, Act.put, List.setIfInBounds_toArray, List.set_cons_zero, List.set_cons_succ]
        refine wpAnyH_take (i := 9) (v := ?vu9) rfl (by kernel_rfl) (by kernel_rfl) (by kernel_rfl) (fun _ _ _ h => h) (Or.inl ⟨by rfl, ?yu9⟩) hHeld ?ru9
        case yu9 => (intro W hW; obtain ⟨hA, hB, hC⟩ := hW; go_simp; first | done | with_reducible rfl)
        try simp only [List.getElem_toArray, List.getElem_cons_succ, List.getElem_cons_zero, Act.put, List.setIfInBounds_toArray, List.set_cons_zero, List.set_cons_succ]
        refine wpAnyH_take (i := 10) (v := ?vu10) rfl (by kernel_rfl) (by kernel_rfl) (by kernel_rfl) (fun _ _ _ h => h) (Or.inl ⟨by rfl, ?yu10⟩) hHeld ?ru10
        case yu10 => (intro W hW; obtain ⟨hA, hB, hC⟩ := hW; go_simp; first | done | with_reducible rfl)
        try simp only [List.getElem_toArray, List.getElem_cons_succ, List.getElem_cons_zero, Act.put, List.setIfInBounds_toArray, List.set_cons_zero, List.set_cons_succ]
        refine wpAnyH_take (i := 11) (v := ?vu11) rfl (by kernel_rfl) (by kernel_rfl) (by kernel_rfl) (fun _ _ _ h => h) (Or.inl ⟨by rfl, ?yu11⟩) hHeld ?ru11
        case yu11 => (intro W hW; obtain ⟨hA, hB, hC⟩ := hW; go_simp; first | done | with_reducible rfl)
        try simp only [List.getElem_toArray, List.getElem_cons_succ, List.getElem_cons_zero, Act.put, List.setIfInBounds_toArray, List.set_cons_zero, List.set_cons_succ]
        refine wpAnyH_take (i := 12) (v := ?vu12) rfl (by kernel_rfl) (by kernel_rfl) (by kernel_rfl) (fun _ _ _ h => h) (Or.inl ⟨by rfl, ?yu12⟩) hHeld ?ru12
        case yu12 => (intro W hW; obtain ⟨hA, hB, hC⟩ := hW; go_simp; first | done | with_reducible rfl)
        try simp only [List.getElem_toArray, List.getElem_cons_succ, List.getElem_cons_zero, Act.put, List.setIfInBounds_toArray, List.set_cons_zero, List.set_cons_succ]
        refine wpAnyH_done (by kernel_rfl) ?_ _
        go_wp2
        go_roundw
        case rel => exact ⟨i + 1, by go_num, by rw [HSS.out], by omega, HNEW.out, (HB.out.setCell (p := ⟨gs, k, none⟩) hgs' _).drew⟩
        case measure => simp [intOf]; omega
      · obtain rfl : n = i := by omega
        have hii : decide ((n : Int) < (n : Int)) = false := by simp
        have hsF : sumC (M.take n) (F.take n) = tt := by
          rw [List.take_of_length_le (Nat.le_of_eq HML.out), List.take_of_length_le (Nat.le_of_eq HFL.out)]
          exact HFS.out
        rw [hsF]
        clear HOW HOWN HBM hsF
        rename World => wA
        have HBA := HB
        clear HB
        go_wp2
        go_loopw [19, 20] (fun v p wr => ∃ i : Nat, p = .int .i64 i ∧ i ≤ m ∧ OI w3.heap.size wr v ((List.range i).map fun (k : Nat) => (k : Int)) ∧ Below w3.heap.size w3 wr) (fun _ p _ => m - (intOf p).toNat)
        case atStart => exact ⟨0, rfl, Nat.zero_le _, OI.nil _ _, HBA.out⟩
        case round =>
          obtain ⟨i, rfl, hi, ho, hb⟩ := hrel
          rename World => wr
          have HO := Lib.hid ho
          have HB := Lib.hid hb
          clear ho hb
          by_cases hlt : i < m
          · have hltz : (i : Int) < (m : Int) := by omega
            obtain ⟨v', w', hrun, ho', hb'⟩ := oi_push (i : Int) HO.out (by constructor <;> omega) (by simp; omega) HB.out.size
            have he : ((List.range i).map fun (k : Nat) => (k : Int)) ++ [(i : Int)] = (List.range (i + 1)).map fun (k : Nat) => (k : Int) := by rw [List.range_succ, List.map_append]; rfl
            rw [he] at ho'
            have Hrun := Lib.hid hrun
            have HO' := Lib.hid ho'
            have HB' := Lib.hid (HB.out.trans hb')
            clear hrun ho' hb' he
            go_wp2_with (at_builtin; have _t := Hrun; refine wpList_append_eq rfl (.tmp 110) (.tmp 112) 22 rfl _ _ _ _ rfl rfl Hrun.out ?_; clear _t Hrun)
            go_roundw
            case rel => exact ⟨i + 1, by go_num, by omega, HO'.out, HB'.out⟩
            case measure => simp [intOf]; omega
          · obtain rfl : i = m := by omega
            have hkk : decide ((i : Int) < (i : Int)) = false := by simp
            go_wp2
            go_loopw [21] (fun p wq => ∃ (t : Nat) (T : List Nat), p = .int .i64 t ∧ t ≤ len4 ∧ t ≤ 30 ∧ T.Perm (List.range i) ∧ OI w3.heap.size wq u19 (T.map fun (k : Nat) => (k : Int)) ∧ Below w3.heap.size w3 wq) (fun p _ => len4 - (intOf p).toNat)
            case atStart => exact ⟨0, _, rfl, Nat.zero_le _, Nat.zero_le _, List.Perm.refl _, HO.out, HB.out⟩
            case round =>
              obtain ⟨t, T, rfl, ht, ht30, hT, ho, hb⟩ := hrel
              clear HO HB
              rename World => wq
              have HO := Lib.hid ho
              have HB := Lib.hid hb
              have HT := Lib.hid hT
              clear ho hb hT
              by_cases hlt2 : t < len4 ∧ t < 30
              · obtain ⟨hl1, hl2⟩ := hlt2
                have d1 : (t : Int) < (len4 : Int) := by omega
                have d2 : decide ((t : Int) < 30) = true := decide_eq_true (by omega)
                have t0 : (0 : Int) ≤ (t : Int) := by omega
                obtain ⟨ad, z, rfl, -, hzi, hcz⟩ := (HN4.out.keep (Keeps.of_below (HB3.out.trans (HB.out.mono HB3.out.size)))).at_ hl1
                have HCZ := Lib.hid (show wq.drew.cell? (ad.add t) = some (.int .i64 z) from hcz)
                obtain ⟨pa, hpa⟩ : ∃ pa, pa = t % i := ⟨_, rfl⟩
                have hpaK : pa < i := by rw [hpa]; exact Nat.mod_lt _ (by omega)
                have htm : ((t : Int)).tmod (i : Int) = (pa : Int) := by rw [tmod_nat, hpa]
                obtain ⟨pb, hpb⟩ : ∃ pb : Nat, z % (i : Int) = (pb : Int) := ⟨(z % (i : Int)).toNat, by have := Int.emod_nonneg z (show (i : Int) ≠ 0 by omega); omega⟩
                have hpbK : pb < i := by have := Int.emod_lt_of_pos z (show (0 : Int) < i by omega); omega
                have HWJ := Lib.hid (fun W => mwithin z (i : Int) W hzi (by omega) (by omega))
                rw [hpb] at HWJ
                obtain ⟨hTl, hTn, hTb⟩ := perm_spec HT.out
                obtain ⟨xa, hxa⟩ : ∃ xa, T[pa]? = some xa := ⟨_, List.getElem?_eq_getElem (by rw [hTl]; exact hpaK)⟩
                obtain ⟨xb, hxb⟩ : ∃ xb, T[pb]? = some xb := ⟨_, List.getElem?_eq_getElem (by rw [hTl]; exact hpbK)⟩
                have hxa' : (T.map fun (k : Nat) => (k : Int))[pa]? = some (xa : Int) := by rw [List.getElem?_map, hxa]; rfl
                have hxb' : (T.map fun (k : Nat) => (k : Int))[pb]? = some (xb : Int) := by rw [List.getElem?_map, hxb]; rfl
                have hml : (T.map fun (k : Nat) => (k : Int)).length = i := by rw [List.length_map, hTl]
                obtain ⟨g, c, rfl, hg, hgl, hca, hfa⟩ := HO.out.cell hxa'
                obtain ⟨g2, c2, e2, -, -, hcb, hfb⟩ := HO.out.cell hxb'
                injection e2 with e3 _ e4
                injection e3 with e3
                injection e3 with e3
                subst e3 e4
                have hop := HO.out.put (i := pa) (xb : Int) (by have := hTb xb (List.mem_of_getElem? hxb); constructor <;> omega)
                obtain ⟨yp, hyp⟩ : ∃ yp, ((T.map fun (k : Nat) => (k : Int)).set pa (xb : Int))[pb]? = some yp := ⟨_, List.getElem?_eq_getElem (by rw [List.length_set, hml]; exact hpbK)⟩
                obtain ⟨g3, c3, e5, -, -, hcp, hfp⟩ := hop.cell hyp
                injection e5 with e6 _ e7
                injection e6 with e6
                injection e6 with e6
                subst e6
                clear e7 hyp hop
                have ho2 := (HO.out.put (i := pa) (xb : Int) (by have := hTb xb (List.mem_of_getElem? hxb); constructor <;> omega)).put (i := pb) (xa : Int) (by have := hTb xa (List.mem_of_getElem? hxa); constructor <;> omega)
                rw [← swp_cast, hml] at ho2
                have HO2 := Lib.hid ho2
                have HT2 := Lib.hid ((swp_perm hxa hxb).trans HT.out)
                rw [hml] at HO ⊢
                have hca' : wq.drew.drew.cell? ⟨g, pa, none⟩ = some (.int .i64 (xa : Int)) := hca
                have hcb' : wq.drew.drew.cell? ⟨g, pb, none⟩ = some (.int .i64 (xb : Int)) := hcb
                have HCC : Hid (wq.drew.drew.cell? ⟨g, pa, none⟩ = some (.int .i64 (xa : Int)) ∧ wq.drew.drew.cell? ⟨g, pb, none⟩ = some (.int .i64 (xb : Int))) := Lib.hid ⟨hca, hcb⟩
                have hfa' : wq.drew.drew.frozen? ⟨g, pa, none⟩ = false := hfa
                have hfb' : wq.drew.drew.frozen? ⟨g, pb, none⟩ = false := hfb
                have kn0 : ¬ i = 0 := by omega
                have a0 : (0 : Int) ≤ (pa : Int) := by omega
                have az : (pa : Int) < (i : Int) := by omega
                have b0 : (0 : Int) ≤ (pb : Int) := by omega
                have bz : (pb : Int) < (i : Int) := by omega
                clear hzi hpa hpb hTl hTn hTb hxa hxb hxa' hxb' hml hca hcb hfa hfb ho2
                go_wp2
                refine wp_region_held_drew (S := fun W => W.cell? (ad.add t) = some (.int .i64 z)) (by kernel_rfl) HCZ.out (fun hHeld => ?_)
                refine wpAnyH_take (i := 0) (v := ?vs0) rfl (by kernel_rfl) (by kernel_rfl) (by kernel_rfl) (fun _ _ _ h => h) (Or.inl ⟨by rfl, ?ys0⟩) hHeld ?rs0
                case ys0 => (intro W hW; go_simp; first | done | with_reducible rfl)
                try simp only [List.getElem_toArray, List.getElem_cons_zero, Act.put, List.setIfInBounds_toArray, List.set_cons_zero, List.set_cons_succ]
                refine wpAnyH_take (i := 1) (v := ?vs1) rfl (by kernel_rfl) (by kernel_rfl) (by kernel_rfl) (fun _ _ _ h => h) (Or.inl ⟨by rfl, ?ys1⟩) hHeld ?rs1
                case ys1 => (intro W hW; go_simp; first | done | with_reducible rfl)
                try simp only [List.getElem_toArray, List.getElem_cons_succ, List.getElem_cons_zero, Act.put, List.setIfInBounds_toArray, List.set_cons_zero, List.set_cons_succ]
                refine wpAnyH_take (i := 2) (v := ?vs2) rfl (by kernel_rfl) (by kernel_rfl) (by kernel_rfl) (fun _ _ _ h => h) (Or.inl ⟨by rfl, ?ys2⟩) hHeld ?rs2
                case ys2 => (intro W hW; go_simp; first | done | with_reducible rfl)
                try simp only [List.getElem_toArray, List.getElem_cons_succ, List.getElem_cons_zero, Act.put, List.setIfInBounds_toArray, List.set_cons_zero, List.set_cons_succ]
                refine wpAnyH_take (i := 3) (v := ?vs3) rfl (by kernel_rfl) (by kernel_rfl) (by kernel_rfl) (fun _ _ _ h => h) (Or.inl ⟨by rfl, ?ys3⟩) hHeld ?rs3
                case ys3 => (intro W hW; go_simp; first | done | with_reducible rfl)
                try simp only [List.getElem_toArray, List.getElem_cons_succ, List.getElem_cons_zero, Act.put, List.setIfInBounds_toArray, List.set_cons_zero, List.set_cons_succ]
                refine wpAnyH_take (i := 4) (v := ?vs4) rfl (by kernel_rfl) (by kernel_rfl) (by kernel_rfl) (fun _ _ _ h => h) (Or.inl ⟨by rfl, ?ys4⟩) hHeld ?rs4
                case ys4 => (intro W hW; go_simp; first | done | with_reducible rfl)
                try simp only [List.getElem_toArray, List.getElem_cons_succ, List.getElem_cons_zero, Act.put, List.setIfInBounds_toArray, List.set_cons_zero, List.set_cons_succ]
                refine wpAnyH_take (i := 5) (v := ?vs5) rfl (by kernel_rfl) (by kernel_rfl) (by kernel_rfl) (fun _ _ _ h => h) (Or.inl ⟨by rfl, ?ys5⟩) hHeld ?rs5
                case ys5 => (intro W hW; go_simp; first | done | with_reducible rfl)
                try simp only [List.getElem_toArray, List.getElem_cons_succ, List.getElem_cons_zero, Act.put, List.setIfInBounds_toArray, List.set_cons_zero, List.set_cons_succ]
                refine wpAnyH_take (i := 6) (v := ?vs6) rfl (by kernel_rfl) (by kernel_rfl) (by kernel_rfl) (fun _ _ _ h => h) (Or.inl ⟨by rfl, ?ys6⟩) hHeld ?rs6
                case ys6 => (intro W hW; go_simp; first | done | with_reducible rfl)
                try simp only [List.getElem_toArray, List.getElem_cons_succ, List.getElem_cons_zero, Act.put, List.setIfInBounds_toArray, List.set_cons_zero, List.set_cons_succ]
                refine wpAnyH_take (i := 7) (v := ?vs7) rfl (by kernel_rfl) (by kernel_rfl) (by kernel_rfl) (fun _ _ _ h => h) (Or.inl ⟨by rfl, ?ys7⟩) hHeld ?rs7
                case ys7 => (intro W hW; go_simp; first | done | with_reducible rfl)
                try simp only [List.getElem_toArray, List.getElem_cons_succ, List.getElem_cons_zero, Act.put, List.setIfInBounds_toArray, List.set_cons_zero, List.set_cons_succ]
                refine wpAnyH_ready (rs := [8]) (by kernel_rfl) (by simp) ?_
                refine AllReadyH.cons rfl (fun K hK => ?_) (AllReadyH.nil)
                go_simp
                refine (HWJ.out _).mono ?_
                rintro e w' ⟨rfl, rfl⟩
                refine hK.out _ _ (HCZ.out) (fun hHeld => ?_)
                clear hK K
                try simp only [List.getElem_toArray, List.getElem_cons_succ, List.getElem_cons_zero, Act.put, List.setIfInBounds_toArray, List.set_cons_zero, List.set_cons_succ]
                refine wpAnyH_take (i := 9) (v := ?vs9) rfl (by kernel_rfl) (by kernel_rfl) (by kernel_rfl) (fun _ _ _ h => h) (Or.inl ⟨by rfl, ?ys9⟩) hHeld ?rs9
                case ys9 => (intro W hW; go_simp; first | done | with_reducible rfl)
                try simp only [List.getElem_toArray, List.getElem_cons_succ, List.getElem_cons_zero, Act.put, List.setIfInBounds_toArray, List.set_cons_zero, List.set_cons_succ]
                refine wpAnyH_take (i := 10) (v := ?vs10) rfl (by kernel_rfl) (by kernel_rfl) (by kernel_rfl) (fun _ _ _ h => h) (Or.inl ⟨by rfl, ?ys10⟩) hHeld ?rs10
                case ys10 => (intro W hW; go_simp; first | done | with_reducible rfl)
                try simp only [List.getElem_toArray, List.getElem_cons_succ, List.getElem_cons_zero, Act.put, List.setIfInBounds_toArray, List.set_cons_zero, List.set_cons_succ]
                refine wpAnyH_done (by kernel_rfl) ?_ _
                go_wp2
                refine region_P (S := fun W => W.cell? ⟨g, pa, none⟩ = some (.int .i64 (xa : Int)) ∧ W.cell? ⟨g, pb, none⟩ = some (.int .i64 (xb : Int))) (kill := [13, 15]) (by kernel_rfl) HCC.out (fun hHeld => ?_)
                refine anyP_pure (i := 0) (v := ?vq0) rfl (by kernel_rfl) (by kernel_rfl) (by kernel_rfl) (by kernel_rfl) (fun _ _ _ h => h) (Or.inl ⟨by rfl, ?yq0⟩) ?rq0
                case yq0 => (intro W hW; go_simp; first | done | with_reducible rfl)
                try simp only [List.getElem_toArray, List.getElem_cons_zero, Act.put, List.setIfInBounds_toArray, List.set_cons_zero, List.set_cons_succ]
                refine anyP_pure (i := 1) (v := ?vq1) rfl (by kernel_rfl) (by kernel_rfl) (by kernel_rfl) (by kernel_rfl) (fun _ _ _ h => h) (Or.inl ⟨by rfl, ?yq1⟩) ?rq1
                case yq1 => (intro W hW; go_simp; first | done | with_reducible rfl)
                try simp only [List.getElem_toArray, List.getElem_cons_succ, List.getElem_cons_zero, Act.put, List.setIfInBounds_toArray, List.set_cons_zero, List.set_cons_succ]
                refine anyP_pure (i := 2) (v := ?vq2) rfl (by kernel_rfl) (by kernel_rfl) (by kernel_rfl) (by kernel_rfl) (fun _ _ _ h => h) (Or.inl ⟨by rfl, ?yq2⟩) ?rq2
                case yq2 => (intro W hW; go_simp; first | done | with_reducible rfl)
                try simp only [List.getElem_toArray, List.getElem_cons_succ, List.getElem_cons_zero, Act.put, List.setIfInBounds_toArray, List.set_cons_zero, List.set_cons_succ]
                refine anyP_pure (i := 3) (v := ?vq3) rfl (by kernel_rfl) (by kernel_rfl) (by kernel_rfl) (by kernel_rfl) (fun _ _ _ h => h) (Or.inl ⟨by rfl, ?yq3⟩) ?rq3
                case yq3 => (intro W hW; go_simp; first | done | with_reducible rfl)
                try simp only [List.getElem_toArray, List.getElem_cons_succ, List.getElem_cons_zero, Act.put, List.setIfInBounds_toArray, List.set_cons_zero, List.set_cons_succ]
                refine anyP_pure (i := 4) (v := ?vq4) rfl (by kernel_rfl) (by kernel_rfl) (by kernel_rfl) (by kernel_rfl) (fun _ _ _ h => h) (Or.inl ⟨by rfl, ?yq4⟩) ?rq4
                case yq4 => (intro W hW; go_simp; first | done | with_reducible rfl)
                try simp only [List.getElem_toArray, List.getElem_cons_succ, List.getElem_cons_zero, Act.put, List.setIfInBounds_toArray, List.set_cons_zero, List.set_cons_succ]
                refine anyP_pure (i := 5) (v := ?vq5) rfl (by kernel_rfl) (by kernel_rfl) (by kernel_rfl) (by kernel_rfl) (fun _ _ _ h => h) (Or.inl ⟨by rfl, ?yq5⟩) ?rq5
                case yq5 => (intro W hW; go_simp; first | done | with_reducible rfl)
                try simp only [List.getElem_toArray, List.getElem_cons_succ, List.getElem_cons_zero, Act.put, List.setIfInBounds_toArray, List.set_cons_zero, List.set_cons_succ]
                refine anyP_take (i := 6) (v := ?vq6) rfl (by kernel_rfl) (by kernel_rfl) (by kernel_rfl) (by kernel_rfl) (by kernel_rfl) (fun _ _ _ h => h) (Or.inl ⟨by rfl, ?yq6⟩) hHeld ?rq6
                case yq6 => (intro W hW; obtain ⟨hA, hB⟩ := hW; go_simp; first | done | with_reducible rfl)
                try simp only [List.getElem_toArray, List.getElem_cons_succ, List.getElem_cons_zero, Act.put, List.setIfInBounds_toArray, List.set_cons_zero, List.set_cons_succ]
                refine anyP_take (i := 7) (v := ?vq7) rfl (by kernel_rfl) (by kernel_rfl) (by kernel_rfl) (by kernel_rfl) (by kernel_rfl) (fun _ _ _ h => h) (Or.inl ⟨by rfl, ?yq7⟩) hHeld ?rq7
                case yq7 => (intro W hW; obtain ⟨hA, hB⟩ := hW; go_simp; first | done | with_reducible rfl)
                try simp only [List.getElem_toArray, List.getElem_cons_succ, List.getElem_cons_zero, Act.put, List.setIfInBounds_toArray, List.set_cons_zero, List.set_cons_succ]
                refine anyP_pure (i := 8) (v := ?vq8) rfl (by kernel_rfl) (by kernel_rfl) (by kernel_rfl) (by kernel_rfl) (fun _ _ _ h => h) (Or.inl ⟨by rfl, ?yq8⟩) ?rq8
                case yq8 => (intro W hW; go_simp; first | done | with_reducible rfl)
                try simp only [List.getElem_toArray, List.getElem_cons_succ, List.getElem_cons_zero, Act.put, List.setIfInBounds_toArray, List.set_cons_zero, List.set_cons_succ]
                refine anyP_pure (i := 9) (v := ?vq9) rfl (by kernel_rfl) (by kernel_rfl) (by kernel_rfl) (by kernel_rfl) (fun _ _ _ h => h) (Or.inl ⟨by rfl, ?yq9⟩) ?rq9
                case yq9 => (intro W hW; go_simp; first | done | with_reducible rfl)
                try simp only [List.getElem_toArray, List.getElem_cons_succ, List.getElem_cons_zero, Act.put, List.setIfInBounds_toArray, List.set_cons_zero, List.set_cons_succ]
                refine anyP_take (i := 10) (v := ?vq10) rfl (by kernel_rfl) (by kernel_rfl) (by kernel_rfl) (by kernel_rfl) (by kernel_rfl) (fun _ _ _ h => h) (Or.inl ⟨by rfl, ?yq10⟩) hHeld ?rq10
                case yq10 => (intro W hW; obtain ⟨hA, hB⟩ := hW; go_simp; first | done | with_reducible rfl)
                try simp only [List.getElem_toArray, List.getElem_cons_succ, List.getElem_cons_zero, Act.put, List.setIfInBounds_toArray, List.set_cons_zero, List.set_cons_succ]
                refine anyP_take (i := 11) (v := ?vq11) rfl (by kernel_rfl) (by kernel_rfl) (by kernel_rfl) (by kernel_rfl) (by kernel_rfl) (fun _ _ _ h => h) (Or.inl ⟨by rfl, ?yq11⟩) hHeld ?rq11
                case yq11 => (intro W hW; obtain ⟨hA, hB⟩ := hW; go_simp; first | done | with_reducible rfl)
                try simp only [List.getElem_toArray, List.getElem_cons_succ, List.getElem_cons_zero, Act.put, List.setIfInBounds_toArray, List.set_cons_zero, List.set_cons_succ]
                refine anyP_pure (i := 12) (v := ?vq12) rfl (by kernel_rfl) (by kernel_rfl) (by kernel_rfl) (by kernel_rfl) (fun _ _ _ h => h) (Or.inl ⟨by rfl, ?yq12⟩) ?rq12
                case yq12 => (intro W hW; go_simp; first | done | with_reducible rfl)
                try simp only [List.getElem_toArray, List.getElem_cons_succ, List.getElem_cons_zero, Act.put, List.setIfInBounds_toArray, List.set_cons_zero, List.set_cons_succ]
                refine anyP_ready (rs := [13]) (by kernel_rfl) (by simp) ?_
                refine AllP.cons rfl (fun K hK => ?_) (AllP.nil)
                go_simp
                refine hK.out _ _ (fun h => absurd (by decide) h) ?_
                clear hK K
                try simp only [List.getElem_toArray, List.getElem_cons_succ, List.getElem_cons_zero, Act.put, List.setIfInBounds_toArray, List.set_cons_zero, List.set_cons_succ]
                refine anyP_pure (i := 14) (v := ?vq14) rfl (by kernel_rfl) (by kernel_rfl) (by kernel_rfl) (by kernel_rfl) (fun _ _ _ h => h) (Or.inl ⟨by rfl, ?yq14⟩) ?rq14
                case yq14 => (intro W hW; go_simp; first | done | with_reducible rfl)
                try simp only [List.getElem_toArray, List.getElem_cons_succ, List.getElem_cons_zero, Act.put, List.setIfInBounds_toArray, List.set_cons_zero, List.set_cons_succ]
                refine anyP_ready (rs := [15]) (by kernel_rfl) (by simp) ?_
                refine AllP.cons rfl (fun K hK => ?_) (AllP.nil)
                go_simp
                refine hK.out _ _ (fun h => absurd (by decide) h) ?_
                clear hK K
                try simp only [List.getElem_toArray, List.getElem_cons_succ, List.getElem_cons_zero, Act.put, List.setIfInBounds_toArray, List.set_cons_zero, List.set_cons_succ]
                refine anyP_done (by kernel_rfl) ?_ _
                obtain ⟨T', hT'⟩ : ∃ T', T' = swp T pa pb xa xb := ⟨_, rfl⟩
                rw [← hT'] at HO2 HT2
                have hoz := HO2.out.below (Below.refl _ _).drew.drew
                have hbz := ((HB.out.setCell (p := ⟨g, pa, none⟩) hg (.int .i64 (xb : Int))).setCell (p := ⟨g, pb, none⟩) hg (.int .i64 (xa : Int))).drew.drew
                obtain ⟨wz, hwz⟩ : ∃ wz, wz = ((wq.setCell ⟨g, pa, none⟩ (.int .i64 (xb : Int))).setCell ⟨g, pb, none⟩ (.int .i64 (xa : Int))).drew.drew := ⟨_, rfl⟩
                rw [← hwz] at hoz hbz ⊢
                have HOZ := Lib.hid hoz
                have HBZ := Lib.hid hbz
                obtain ⟨tl1, tl2, tl3⟩ := perm_spec HT2.out
                have HTL2 := Lib.hid tl1
                have HTB2 := Lib.hid tl3
                clear hT' hoz hbz hwz tl1 tl2 tl3 HO2 HCC HCZ HWJ hca' hcb' hfa' hfb' hcp hfp hcz HO
                go_wp2
                go_loopw [24, 25] (fun ov p wr => ∃ k : Nat, p = .int .i64 k ∧ ov = .int .i64 (sumC (M.take k) (T'.take k)) ∧ k ≤ n ∧ Below wz.heap.size wz wr) (fun _ p _ => n - (intOf p).toNat)
                case atStart => exact ⟨0, rfl, rfl, Nat.zero_le _, Below.refl _ _⟩
                case round =>
                  obtain ⟨k, rfl, rfl, hk, hbr⟩ := hrel
                  rename World => wr
                  have HBR := Lib.hid hbr
                  have HB3R := Lib.hid (HBZ.out.trans (hbr.mono HBZ.out.size))
                  clear hbr
                  by_cases hkn : k < n
                  · have hknz : (k : Int) < (n : Int) := by omega
                    have hkiz : (k : Int) < (i : Int) := by omega
                    have hki : k < i := by omega
                    have k0 : (0 : Int) ≤ (k : Int) := by omega
                    obtain ⟨ac', r, B, dr, e1, hr, hcr, hnr⟩ := (HMC.out.keep (Keeps.of_below HB3R.out)).at_ hkn
                    obtain rfl : ac = ac' := Option.some.inj e1
                    have hrl := (HR.out r (List.mem_of_getElem? hr)).1
                    rw [hrl] at hcr hnr
                    obtain ⟨q, hq⟩ : ∃ q, T'[k]? = some q := ⟨_, List.getElem?_eq_getElem (by rw [HTL2.out]; exact hki)⟩
                    obtain ⟨g9, c9, e9, -, -, hcq, -⟩ := (HOZ.out.below HBR.out).cell (i := k) (x := (q : Int)) (by rw [List.getElem?_map, hq]; rfl)
                    injection e9 with e10 e11 e12
                    injection e10 with e10
                    injection e10 with e10
                    subst e10
                    clear e11 e12
                    have hqm := HTB2.out q (List.mem_of_getElem? hq)
                    obtain ⟨rd, y, rfl, hy, -, hcy⟩ := hnr.at_ hqm
                    have hyc : cst r q = y := by unfold cst; rw [hy]; rfl
                    have hyb := (HR.out r (List.mem_of_getElem? hr)).2 y (List.mem_of_getElem? hy)
                    have hss := sum_snoc hr hq
                    rw [hyc] at hss
                    obtain ⟨sm, hsm⟩ : ∃ sm, sm = sumC (M.take k) (T'.take k) := ⟨_, rfl⟩
                    have hsb := sum_bd (M.take k) (T'.take k) (fun r hr x hx => (HR.out r (List.mem_of_mem_take hr)).2 x hx)
                    have hmtl : (M.take k).length ≤ 5 := by rw [List.length_take, HML.out]; omega
                    rw [← hsm] at hss hsb ⊢
                    have HSS := Lib.hid hss
                    have hsum : IntKind.i64.wrap (sm + y) = sm + y := IntWalk.i64_in _ (by omega)
                    have q0 : (0 : Int) ≤ (q : Int) := by omega
                    have q1 : (q : Int) < (i : Int) := by omega
                    have HCC : Hid (wr.drew.cell? (ac.add k) = some (.slice (some rd) i dr) ∧ wr.drew.cell? ⟨g, k, none⟩ = some (.int .i64 (q : Int)) ∧ wr.drew.cell? (rd.add q) = some (.int .i64 y)) := Lib.hid ⟨hcr, hcq, hcy⟩
                    clear e1 hr hrl hnr hq hcq hy hyc hss hsm hcr hcy
                    go_wp2
                    refine wp_region_held_drew (S := fun W => W.cell? (ac.add k) = some (.slice (some rd) i dr) ∧ W.cell? ⟨g, k, none⟩ = some (.int .i64 (q : Int)) ∧ W.cell? (rd.add q) = some (.int .i64 y)) (by kernel_rfl) HCC.out (fun hHeld => ?_)
                    refine wpAnyH_take (i := 0) (v := ?vz0) rfl (by kernel_rfl) (by kernel_rfl) (by kernel_rfl) (fun _ _ _ h => h) (Or.inl ⟨by rfl, ?yz0⟩) hHeld ?rz0
                    case yz0 => (intro W hW; obtain ⟨hA, hB, hC⟩ := hW; go_simp; first | done | with_reducible rfl)
                    try simp only [List.getElem_toArray, List.getElem_cons_zero, Act.put, List.setIfInBounds_toArray, List.set_cons_zero, List.set_cons_succ]
                    refine wpAnyH_take (i := 1) (v := ?vz1) rfl (by kernel_rfl) (by kernel_rfl) (by kernel_rfl) (fun _ _ _ h => h) (Or.inl ⟨by rfl, ?yz1⟩) hHeld ?rz1
                    case yz1 => (intro W hW; obtain ⟨hA, hB, hC⟩ := hW; go_simp; first | done | with_reducible rfl)
                    try simp only [List.getElem_toArray, List.getElem_cons_succ, List.getElem_cons_zero, Act.put, List.setIfInBounds_toArray, List.set_cons_zero, List.set_cons_succ]
                    refine wpAnyH_take (i := 2) (v := ?vz2) rfl (by kernel_rfl) (by kernel_rfl) (by kernel_rfl) (fun _ _ _ h => h) (Or.inl ⟨by rfl, ?yz2⟩) hHeld ?rz2
                    case yz2 => (intro W hW; obtain ⟨hA, hB, hC⟩ := hW; go_simp; first | done | with_reducible rfl)
                    try simp only [List.getElem_toArray, List.getElem_cons_succ, List.getElem_cons_zero, Act.put, List.setIfInBounds_toArray, List.set_cons_zero, List.set_cons_succ]
                    refine wpAnyH_take (i := 3) (v := ?vz3) rfl (by kernel_rfl) (by kernel_rfl) (by kernel_rfl) (fun _ _ _ h => h) (Or.inl ⟨by rfl, ?yz3⟩) hHeld ?rz3
                    case yz3 => (intro W hW; obtain ⟨hA, hB, hC⟩ := hW; go_simp; first | done | with_reducible rfl)
                    try simp only [List.getElem_toArray, List.getElem_cons_succ, List.getElem_cons_zero, Act.put, List.setIfInBounds_toArray, List.set_cons_zero, List.set_cons_succ]
                    refine wpAnyH_take (i := 4) (v := ?vz4) rfl (by kernel_rfl) (by kernel_rfl) (by kernel_rfl) (fun _ _ _ h => h) (Or.inl ⟨by rfl, ?yz4⟩) hHeld ?rz4
                    case yz4 => (intro W hW; obtain ⟨hA, hB, hC⟩ := hW; go_simp; first | done | with_reducible rfl)
                    try simp only [List.getElem_toArray, List.getElem_cons_succ, List.getElem_cons_zero, Act.put, List.setIfInBounds_toArray, List.set_cons_zero, List.set_cons_succ]
                    refine wpAnyH_take (i := 5) (v := ?vz5) rfl (by kernel_rfl) (by kernel_rfl) (by kernel_rfl) (fun _ _ _ h => h) (Or.inl ⟨by rfl, ?yz5⟩) hHeld ?rz5
                    case yz5 => (intro W hW; obtain ⟨hA, hB, hC⟩ := hW; go_simp; first | done | with_reducible rfl)
                    try simp only [List.getElem_toArray, List.getElem_cons_succ, List.getElem_cons_zero, Act.put, List.setIfInBounds_toArray, List.set_cons_zero, List.set_cons_succ]
                    refine wpAnyH_take (i := 6) (v := ?vz6) rfl (by kernel_rfl) (by kernel_rfl) (by kernel_rfl) (fun _ _ _ h => h) (Or.inl ⟨by rfl, ?yz6⟩) hHeld ?rz6
                    case yz6 => (intro W hW; obtain ⟨hA, hB, hC⟩ := hW; go_simp; first | done | with_reducible rfl)
                    try simp only [List.getElem_toArray, List.getElem_cons_succ, List.getElem_cons_zero, Act.put, List.setIfInBounds_toArray, List.set_cons_zero, List.set_cons_succ]
                    refine wpAnyH_take (i := 7) (v := ?vz7) rfl (by kernel_rfl) (by kernel_rfl) (by kernel_rfl) (fun _ _ _ h => h) (Or.inl ⟨by rfl, ?yz7⟩) hHeld ?rz7
                    case yz7 => (intro W hW; obtain ⟨hA, hB, hC⟩ := hW; go_simp; first | done | with_reducible rfl)
                    try simp only [List.getElem_toArray, List.getElem_cons_succ, List.getElem_cons_zero, Act.put, List.setIfInBounds_toArray, List.set_cons_zero, List.set_cons_succ]
                    refine wpAnyH_take (i := 8) (v := ?vz8) rfl (by kernel_rfl) (by kernel_rfl) (by kernel_rfl) (fun _ _ _ h => h) (Or.inl ⟨by rfl, ?yz8⟩) hHeld ?rz8
                    case yz8 => (intro W hW; obtain ⟨hA, hB, hC⟩ := hW; go_simp; first | done | with_reducible rfl)
                    try simp only [List.getElem_toArray, List.getElem_cons_succ, List.getElem_cons_zero, Act.put, List.setIfInBounds_toArray, List.set_cons_zero, List.set_cons_succ]
                    refine wpAnyH_take (i := 9) (v := ?vz9) rfl (by kernel_rfl) (by kernel_rfl) (by kernel_rfl) (fun _ _ _ h => h) (Or.inl ⟨by rfl, ?yz9⟩) hHeld ?rz9
                    case yz9 => (intro W hW; obtain ⟨hA, hB, hC⟩ := hW; go_simp; first | done | with_reducible rfl)
                    try simp only [List.getElem_toArray, List.getElem_cons_succ, List.getElem_cons_zero, Act.put, List.setIfInBounds_toArray, List.set_cons_zero, List.set_cons_succ]
                    refine wpAnyH_take (i := 10) (v := ?vz10) rfl (by kernel_rfl) (by kernel_rfl) (by kernel_rfl) (fun _ _ _ h => h) (Or.inl ⟨by rfl, ?yz10⟩) hHeld ?rz10
                    case yz10 => (intro W hW; obtain ⟨hA, hB, hC⟩ := hW; go_simp; first | done | with_reducible rfl)
                    try simp only [List.getElem_toArray, List.getElem_cons_succ, List.getElem_cons_zero, Act.put, List.setIfInBounds_toArray, List.set_cons_zero, List.set_cons_succ]
                    refine wpAnyH_take (i := 11) (v := ?vz11) rfl (by kernel_rfl) (by kernel_rfl) (by kernel_rfl) (fun _ _ _ h => h) (Or.inl ⟨by rfl, ?yz11⟩) hHeld ?rz11
                    case yz11 => (intro W hW; obtain ⟨hA, hB, hC⟩ := hW; go_simp; first | done | with_reducible rfl)
                    try simp only [List.getElem_toArray, List.getElem_cons_succ, List.getElem_cons_zero, Act.put, List.setIfInBounds_toArray, List.set_cons_zero, List.set_cons_succ]
                    refine wpAnyH_take (i := 12) (v := ?vz12) rfl (by kernel_rfl) (by kernel_rfl) (by kernel_rfl) (fun _ _ _ h => h) (Or.inl ⟨by rfl, ?yz12⟩) hHeld ?rz12
                    case yz12 => (intro W hW; obtain ⟨hA, hB, hC⟩ := hW; go_simp; first | done | with_reducible rfl)
                    try simp only [List.getElem_toArray, List.getElem_cons_succ, List.getElem_cons_zero, Act.put, List.setIfInBounds_toArray, List.set_cons_zero, List.set_cons_succ]
                    refine wpAnyH_done (by kernel_rfl) ?_ _
                    go_wp2
                    go_roundw
                    case rel => exact ⟨k + 1, by go_num, by rw [HSS.out], by omega, HBR.out.drew⟩
                    case measure => simp [intOf]; omega
                  · obtain rfl : n = k := by omega
                    have hkk2 : decide ((n : Int) < (n : Int)) = false := by simp
                    have hsT : sumC (M.take n) (T'.take n) = sumC M (T'.take n) := by rw [List.take_of_length_le (Nat.le_of_eq HML.out)]
                    obtain ⟨hm1, hm2⟩ := HMIN.out T' HT2.out
                    obtain ⟨ov, hov⟩ : ∃ ov, ov = sumC M (T'.take n) := ⟨_, rfl⟩
                    rw [hsT, ← hov]
                    rw [← hov] at hm1 hm2
                    have hlt0 : decide (ov < tt) = false := decide_eq_false (by omega)
                    have hnle : (n : Int) ≤ (i : Int) := by omega
                    have hcap : i ≤ c := by
                      obtain ⟨P', c', e9, h9, -, -, -⟩ := HOZ.out.form
                      injection e9 with _ _ e11
                      rw [List.length_map, HTL2.out] at h9
                      omega
                    have hcap1 : n ≤ c := by omega
                    have hcap2 : ¬ c = 0 := by omega
                    have hcap3 : (n : Int) ≤ (c : Int) := by omega
                    have HM2 := Lib.hid hm2
                    clear hsT hov hm2
                    by_cases heq : ov = tt
                    · have he : (ov == tt) = true := by simp [heq]
                      have HNL := Lib.hid (HM2.out heq)
                      have hnt : Nums .i64 wr (some ⟨g, 0, none⟩) n ((T'.take n).map fun (k : Nat) => (k : Int)) := by
                        obtain ⟨P', c', e9, -, -, hn9, -⟩ := (HOZ.out.below HBR.out).form
                        injection e9 with e10 _ _
                        subst e10
                        refine ⟨by rw [List.length_map, List.length_take, HTL2.out]; omega, fun x hx => ?_, fun hk => ?_⟩
                        · obtain ⟨q, hq, rfl⟩ := List.mem_map.1 hx
                          have := HTB2.out q (List.mem_of_mem_take hq)
                          constructor <;> omega
                        · obtain ⟨ad', e, hc⟩ := hn9.2.2 (by rw [List.length_map, HTL2.out]; omega)
                          refine ⟨ad', e, fun j x hx => hc j x ?_⟩
                          rw [List.map_take, List.getElem?_take] at hx
                          split at hx
                          · exact hx
                          · cases hx
                      have HAH := Lib.hid (ahead_no (some ⟨g, 0, none⟩) P1 n n c c1 (T'.take n) F wr hnt (HN1.out.keep (Keeps.of_below HB3R.out)) (Nat.le_refl _) (by omega) HNL.out)
                      clear heq hnt
                      go_wp2_with fail
                      refine HAH.out.mono ?_
                      rintro e wy ⟨rfl, hby⟩
                      have HBY := Lib.hid (HB3R.out.trans (hby.mono HB3R.out.size))
                      have HOY := Lib.hid (HOZ.out.below (HBR.out.trans (hby.mono HBR.out.size)))
                      clear hby
                      go_wp2
                      go_roundw
                      case rel => exact ⟨t + 1, T', by go_num, by omega, by omega, HT2.out, HOY.out, HBY.out⟩
                      case measure => simp [intOf]; omega
                    · have he : (ov == tt) = false := by simpa using heq
                      have HOY := Lib.hid (HOZ.out.below HBR.out)
                      clear heq
                      go_wp2
                      go_roundw
                      case rel => exact ⟨t + 1, T', by go_num, by omega, by omega, HT2.out, HOY.out, HB3R.out⟩
                      case measure => simp [intOf]; omega
              · have hgrd : (decide (t < len4) = false) ∨ (decide (t < len4) = true ∧ decide ((t : Int) < 30) = false) := by
                  by_cases h : t < len4
                  · exact .inr ⟨by simpa using h, decide_eq_false (by omega)⟩
                  · exact .inl (by simpa using h)
                have htt : (tt == tt) = true := by simp
                rcases hgrd with g1 | ⟨g1, g2⟩
                · go_wp2
                  go_ret
                  exact ⟨rfl, HB3.out.trans (HB.out.mono HB3.out.size)⟩
                · go_wp2
                  go_ret
                  exact ⟨rfl, HB3.out.trans (HB.out.mono HB3.out.size)⟩
end Go.Proofs.Ytimffjonhoplpaa
