/- The reference's level, and its cheapest parent. -/
import Derived.Test.YtjllmladhjbnaaaGreatDoorSoA
import Derived.Test.YtjllmladhjbnaaaGreatDoorRset
import Derived.Test.YtjllmladhjbnaaaGreatDoorRegion
namespace Go.Proofs.YtjllmladhjbnaaaGreatDoor
open Go.RowKit Go.Shelf
attribute [local go_sem] Oper.semAt_some
theorem sets_lvl : ∀ d, 1 ≤ d → d ≤ 4 → ∀ s ∈ setsL d, 0 ≤ s ∧ s ≤ 15 := by
  intro d h1 h2
  rcases (by omega : d = 1 ∨ d = 2 ∨ d = 3 ∨ d = 4) with rfl | rfl | rfl | rfl <;> decide +kernel
set_option maxRecDepth 100000 in
set_option maxHeartbeats 4000000 in
theorem rLevel_any (d l : Nat) (w : World) (h1 : 1 ≤ d) (h4 : d ≤ 4) :
    Calls Tryz.prog 44 #[.int .i64 d, .int .i64 l] w fun e w' => ∃ v, e = .returned v ∧ OI w.heap.size w' v (levL d l) ∧ Below w.heap.size w w' := by
  have HS := Lib.hid (rSets_any d w h1 h4)
  have hsl := setsL_len d h1 h4
  obtain ⟨N, hN⟩ : ∃ N, N = 2 ^ d := ⟨_, rfl⟩
  have n16 := pow_16 d h4
  rw [← hN] at hsl n16
  have HSL := Lib.hid hsl
  clear hN hsl
  go_enter Tryz.func44, Tryz.ntmps44
  go_wp2_with fail
  refine HS.out.mono ?_
  rintro e w2 ⟨vs, rfl, hos, hb2⟩
  obtain ⟨PS, cS, rfl, -, -, hns, -⟩ := hos.form
  obtain ⟨PS', cS', eS, -, -, h3⟩ := own_form hos.1
  injection eS with eS e8 e9
  obtain ⟨gs, egs, -, -⟩ := h3 (by rw [HSL.out]; omega)
  rw [← eS] at egs
  subst egs
  clear eS e8 e9 h3
  rw [HSL.out] at hns ⊢
  have HNS := Lib.hid hns
  have HB2 := Lib.hid hb2
  clear hns hb2 hos
  go_wp2_with fail
  go_loopw [5, 7] (fun out i wr => ∃ k : Nat, i = .int .i64 k ∧ k ≤ N ∧ OI w2.heap.size wr out (((setsL d).take k).filter fun s => lvl s == (l : Int)) ∧ Below w2.heap.size w2 wr) (fun _ i _ => N - (intOf i).toNat)
  case atStart => exact ⟨0, rfl, Nat.zero_le _, OI.nil _ _, Below.refl _ _⟩
  case round =>
    obtain ⟨i, rfl, hi, ho, hb⟩ := hrel
    rename World => wr
    have HO := Lib.hid ho
    have HB := Lib.hid hb
    have hz := hb.size
    clear ho hb
    by_cases hiN : i < N
    · obtain ⟨ad, s, e1, hs, -, hcs⟩ := (HNS.out.keep (Keeps.of_below HB.out)).at_ hiN
      injection e1 with e1
      subst e1
      rw [add0] at hcs
      obtain ⟨s0, s15⟩ := sets_lvl d h1 h4 s (List.mem_of_getElem? hs)
      have HL := Lib.hid (rLvl_any s wr s0 s15)
      have htk : (setsL d).take (i + 1) = (setsL d).take i ++ [s] := by rw [List.take_add_one, hs]; rfl
      have hfl : ((setsL d).take (i + 1)).filter (fun s => lvl s == (l : Int)) = if lvl s = (l : Int) then ((setsL d).take i).filter (fun s => lvl s == (l : Int)) ++ [s] else ((setsL d).take i).filter (fun s => lvl s == (l : Int)) := by
        rw [htk, List.filter_append, List.filter_cons, List.filter_nil]
        by_cases h : lvl s = (l : Int) <;> simp [h]
      have hln : (((setsL d).take i).filter (fun s => lvl s == (l : Int))).length ≤ 1000 := Nat.le_trans (List.length_filter_le _ _) (by rw [List.length_take]; omega)
      obtain ⟨L, hL⟩ : ∃ L, L = lvl s := ⟨_, rfl⟩
      rw [← hL] at HL hfl
      have HF := Lib.hid hfl
      have i0 : (0 : Int) ≤ (i : Int) := by omega
      have i1 : (i : Int) < (N : Int) := by omega
      clear htk hfl hL hs
      by_cases hLl : L = (l : Int)
      · have d1 : (L == (l : Int)) = true := by simpa using hLl
        obtain ⟨v', w', hrun, ho', hb'⟩ := oi_append s HO.out (by constructor <;> omega) (by omega) hz
        have Hrun := Lib.hid hrun
        have HO' := Lib.hid ho'
        have HB' := Lib.hid (HB.out.trans hb')
        have HF2 := Lib.hid (HF.out.trans (if_pos hLl))
        clear hrun ho' hb' hLl
        go_wp2_with fail
        refine HL.out.mono ?_
        rintro e w' ⟨rfl, rfl⟩
        go_wp2_with (at_builtin; have _t := Hrun; refine wpList_append_eq rfl (.tmp 23) (.tmp 28) 22 rfl _ _ _ _ rfl rfl Hrun.out ?_; clear _t Hrun)
        go_roundw
        case rel => exact ⟨i + 1, by go_num, by omega, by rw [HF2.out]; exact HO'.out, HB'.out⟩
        case measure => simp [intOf]; omega
      · have d1 : (L == (l : Int)) = false := by simpa using hLl
        have HF2 := Lib.hid (HF.out.trans (if_neg hLl))
        clear hLl
        go_wp2_with fail
        refine HL.out.mono ?_
        rintro e w' ⟨rfl, rfl⟩
        go_wp2
        go_roundw
        case rel => exact ⟨i + 1, by go_num, by omega, by rw [HF2.out]; exact HO.out, HB.out⟩
        case measure => simp [intOf]; omega
    · obtain rfl : i = N := by omega
      have ho := HO.out
      rw [show (setsL d).take i = setsL d from List.take_of_length_le (by rw [HSL.out]; omega)] at ho
      have HO2 := Lib.hid (ho.mono HB2.out.size)
      have HBW := Lib.hid (HB2.out.trans (HB.out.mono HB2.out.size))
      clear ho
      go_wp2
      go_ret
      exact ⟨_, rfl, HO2.out, HBW.out⟩
set_option maxRecDepth 100000 in
set_option maxHeartbeats 8000000 in
theorem rChe_any (A : Option Addr) (q c mm : Nat) (cs : List Int) (n s : Int) (w : World) (h : FQ w A q mm cs n) (hs : s ∈ setsL q) (hne : parL s q ≠ []) :
    Calls Tryz.prog 45 #[.agg #[.slice A q c, .int .i64 mm], .int .i64 n, .int .i64 s] w fun e w' => e = .returned (.tuple #[.int .i64 (own cs n s), .int .i64 (sortB cs n (own cs n s))]) ∧ Below w.heap.size w w' := by
  have hcl := h.len
  have q1 := h.q1
  have q4 := h.q4
  obtain ⟨s0, s1⟩ := sets_bd q q1 q4 s hs
  have hf15 := fullB_15 q q4
  obtain ⟨sN, hsN⟩ : ∃ sN : Nat, s = (sN : Int) := ⟨s.toNat, by omega⟩
  have hsl2 : sN < 2 ^ q := by
    have : fullB q = ((2 ^ q : Nat) : Int) - 1 := by unfold fullB; push_cast; rfl
    omega
  obtain ⟨w0, hw0⟩ : ∃ w0, w0 = w.alloc (.cells #[.slice A q c, .int .i64 mm] 25) := ⟨_, rfl⟩
  have hb0 : Below w.heap.size w w0 := by rw [hw0]; exact below_box w _
  have hx0 : Bx w0 w.heap.size #[.slice A q c, .int .i64 mm] := by rw [hw0]; exact Bx.new _ _ _
  have HPA := Lib.hid (rPar_any sN q w0 hsl2 q4)
  rw [← hsN] at HPA
  have hpb : ∀ x ∈ parL s q, 0 ≤ x ∧ x ≤ fullB q := fun x hx => sets_bd q q1 q4 x (par_lvl q q1 q4 s hs x hx).2
  have HPB := Lib.hid hpb
  have HF := Lib.hid h
  have HB0 := Lib.hid hb0
  have HX0 := Lib.hid hx0
  have HW0 := Lib.hid hw0
  have how : own cs n s = cheapL (sortB cs n) (parL s q) := by unfold own; rw [hcl]
  rw [how]
  obtain ⟨M, hM⟩ : ∃ M, M = (parL s q).length := ⟨_, rfl⟩
  have hM1 : 1 ≤ M := by rw [hM]; exact List.length_pos_iff.2 hne
  have hM0 : 0 < M := hM1
  have hM100 : M ≤ 100 := by rw [hM]; unfold parL; rw [List.length_map]; have := dimsL_le (lackI s q); omega
  have HM := Lib.hid hM
  have x0 : w0.cell? ⟨w.heap.size, 0, none⟩ = some (.slice A q c) := hx0 0 _ rfl
  clear h hs hne hf15 hsN hsl2 hw0 hb0 hx0 hpb how hM
  go_enter Tryz.func45, Tryz.ntmps45
  go_wp2_with fail
  rw [← HW0.out]
  go_wp2_with fail
  refine HPA.out.mono ?_
  rintro e w2 ⟨vp, rfl, hop, hb2⟩
  obtain ⟨PP, cP, rfl, -, -, hnp, -⟩ := hop.form
  obtain ⟨PP', cP', eS, -, -, h3⟩ := own_form hop.1
  injection eS with eS e8 e9
  obtain ⟨gp, egp, -, -⟩ := h3 (by rw [← HM.out]; omega)
  rw [← eS] at egp
  subst egp
  clear eS e8 e9 h3
  rw [← HM.out] at hnp ⊢
  have HNP := Lib.hid hnp
  have HB2 := Lib.hid (HB0.out.trans (hb2.mono HB0.out.size))
  have HX2 := Lib.hid (HX0.out.keep (Keeps.of_below hb2))
  obtain ⟨ad, p0, e1, hp0, -, hcp⟩ := hnp.at_ (k := 0) (by omega)
  injection e1 with e1
  subst e1
  rw [add0] at hcp
  have hf2 := HF.out.below HB2.out (Nat.le_refl _)
  have hpb0 := HPB.out p0 (List.mem_of_getElem? hp0)
  have HSo := Lib.hid (rSort_any A q c mm cs n p0 w2.drew hf2.drew.nums q4 hf2.c hf2.n0 hf2.n3 hpb0.1 hpb0.2)
  have hx2 := HX2.out
  have y0 : w2.cell? ⟨w.heap.size, 0, none⟩ = some (.slice A q c) := hx2 0 _ rfl
  have y1 : w2.cell? ⟨w.heap.size, 1, none⟩ = some (.int .i64 mm) := hx2 1 _ rfl
  have hc1 : cheapL (sortB cs n) ((parL s q).take 1) = p0 := by rw [List.take_add_one, hp0]; rfl
  obtain ⟨so, hso⟩ : ∃ z, z = sortB cs n p0 := ⟨_, rfl⟩
  rw [← hso] at HSo
  have HC1 := Lib.hid hc1
  have HSO := Lib.hid hso
  have hMz : (1 : Int) ≤ (M : Int) := by omega
  have hz2 := HB2.out.size
  clear hnp hb2 hop hp0 hf2 hx2 hc1 hso x0
  go_wp2_with fail
  refine wp_region_held_drew (S := fun W => W.cell? ⟨w.heap.size, 0, none⟩ = some (.slice A q c) ∧ W.cell? ⟨w.heap.size, 1, none⟩ = some (.int .i64 mm) ∧ W.cell? ⟨gp, 0, none⟩ = some (.int .i64 p0)) (by kernel_rfl) ⟨y0, y1, hcp⟩ (fun hHeld => ?_)
  refine wpAnyH_take (i := 0) (v := ?va0) rfl (by kernel_rfl) (by kernel_rfl) (by kernel_rfl) (fun _ _ _ h => h) (Or.inl ⟨by rfl, ?ya0⟩) hHeld ?ra0
  case ya0 => (intro W hW; obtain ⟨hW0, hW1, hW2⟩ := hW; go_simp; first | done | with_reducible rfl)
  try simp only [List.getElem_toArray, List.getElem_cons_zero, Act.put, List.setIfInBounds_toArray, List.set_cons_zero, List.set_cons_succ]
  refine wpAnyH_take (i := 1) (v := ?va1) rfl (by kernel_rfl) (by kernel_rfl) (by kernel_rfl) (fun _ _ _ h => h) (Or.inl ⟨by rfl, ?ya1⟩) hHeld ?ra1
  case ya1 => (intro W hW; obtain ⟨hW0, hW1, hW2⟩ := hW; go_simp; first | done | with_reducible rfl)
  try simp only [List.getElem_toArray, List.getElem_cons_succ, List.getElem_cons_zero, Act.put, List.setIfInBounds_toArray, List.set_cons_zero, List.set_cons_succ]
  refine wpAnyH_take (i := 2) (v := ?va2) rfl (by kernel_rfl) (by kernel_rfl) (by kernel_rfl) (fun _ _ _ h => h) (Or.inl ⟨by rfl, ?ya2⟩) hHeld ?ra2
  case ya2 => (intro W hW; obtain ⟨hW0, hW1, hW2⟩ := hW; go_simp; first | done | with_reducible rfl)
  try simp only [List.getElem_toArray, List.getElem_cons_succ, List.getElem_cons_zero, Act.put, List.setIfInBounds_toArray, List.set_cons_zero, List.set_cons_succ]
  refine wpAnyH_take (i := 3) (v := ?va3) rfl (by kernel_rfl) (by kernel_rfl) (by kernel_rfl) (fun _ _ _ h => h) (Or.inl ⟨by rfl, ?ya3⟩) hHeld ?ra3
  case ya3 => (intro W hW; obtain ⟨hW0, hW1, hW2⟩ := hW; go_simp; first | done | with_reducible rfl)
  try simp only [List.getElem_toArray, List.getElem_cons_succ, List.getElem_cons_zero, Act.put, List.setIfInBounds_toArray, List.set_cons_zero, List.set_cons_succ]
  refine wpAnyH_take (i := 4) (v := ?va4) rfl (by kernel_rfl) (by kernel_rfl) (by kernel_rfl) (fun _ _ _ h => h) (Or.inl ⟨by rfl, ?ya4⟩) hHeld ?ra4
  case ya4 => (intro W hW; obtain ⟨hW0, hW1, hW2⟩ := hW; go_simp; first | done | with_reducible rfl)
  try simp only [List.getElem_toArray, List.getElem_cons_succ, List.getElem_cons_zero, Act.put, List.setIfInBounds_toArray, List.set_cons_zero, List.set_cons_succ]
  refine wpAnyH_take (i := 5) (v := ?va5) rfl (by kernel_rfl) (by kernel_rfl) (by kernel_rfl) (fun _ _ _ h => h) (Or.inl ⟨by rfl, ?ya5⟩) hHeld ?ra5
  case ya5 => (intro W hW; obtain ⟨hW0, hW1, hW2⟩ := hW; go_simp; first | done | with_reducible rfl)
  try simp only [List.getElem_toArray, List.getElem_cons_succ, List.getElem_cons_zero, Act.put, List.setIfInBounds_toArray, List.set_cons_zero, List.set_cons_succ]
  refine wpAnyH_take (i := 6) (v := ?va6) rfl (by kernel_rfl) (by kernel_rfl) (by kernel_rfl) (fun _ _ _ h => h) (Or.inl ⟨by rfl, ?ya6⟩) hHeld ?ra6
  case ya6 => (intro W hW; obtain ⟨hW0, hW1, hW2⟩ := hW; go_simp; first | done | with_reducible rfl)
  try simp only [List.getElem_toArray, List.getElem_cons_succ, List.getElem_cons_zero, Act.put, List.setIfInBounds_toArray, List.set_cons_zero, List.set_cons_succ]
  refine wpAnyH_take (i := 7) (v := ?va7) rfl (by kernel_rfl) (by kernel_rfl) (by kernel_rfl) (fun _ _ _ h => h) (Or.inl ⟨by rfl, ?ya7⟩) hHeld ?ra7
  case ya7 => (intro W hW; obtain ⟨hW0, hW1, hW2⟩ := hW; go_simp; first | done | with_reducible rfl)
  try simp only [List.getElem_toArray, List.getElem_cons_succ, List.getElem_cons_zero, Act.put, List.setIfInBounds_toArray, List.set_cons_zero, List.set_cons_succ]
  refine wpAnyH_ready (rs := [8]) (by kernel_rfl) (by simp) ?_
  refine AllReadyH.cons rfl (fun K hK => ?_) (AllReadyH.nil)
  go_simp
  refine HSo.out.mono ?_
  rintro e9 w5 ⟨rfl, hb5⟩
  have k5 := Keeps.of_below hb5
  have HB5 := Lib.hid ((Below.refl w2.heap.size w2).drew.trans (hb5.mono (Nat.le_refl _)))
  clear hb5
  refine hK.out _ _ (⟨k5 _ _ y0, k5 _ _ y1, k5 _ _ hcp⟩) (fun hHeld => ?_)
  clear hK K
  try simp only [List.getElem_toArray, List.getElem_cons_succ, List.getElem_cons_zero, Act.put, List.setIfInBounds_toArray, List.set_cons_zero, List.set_cons_succ]
  refine wpAnyH_take (i := 9) (v := ?va9) rfl (by kernel_rfl) (by kernel_rfl) (by kernel_rfl) (fun _ _ _ h => h) (Or.inl ⟨by rfl, ?ya9⟩) hHeld ?ra9
  case ya9 => (intro W hW; obtain ⟨hW0, hW1, hW2⟩ := hW; go_simp; first | done | with_reducible rfl)
  try simp only [List.getElem_toArray, List.getElem_cons_succ, List.getElem_cons_zero, Act.put, List.setIfInBounds_toArray, List.set_cons_zero, List.set_cons_succ]
  refine wpAnyH_take (i := 10) (v := ?va10) rfl (by kernel_rfl) (by kernel_rfl) (by kernel_rfl) (fun _ _ _ h => h) (Or.inl ⟨by rfl, ?ya10⟩) hHeld ?ra10
  case ya10 => (intro W hW; obtain ⟨hW0, hW1, hW2⟩ := hW; go_simp; first | done | with_reducible rfl)
  try simp only [List.getElem_toArray, List.getElem_cons_succ, List.getElem_cons_zero, Act.put, List.setIfInBounds_toArray, List.set_cons_zero, List.set_cons_succ]
  refine wpAnyH_done (by kernel_rfl) ?_ _
  clear hHeld
  clear y0 y1 hcp k5
  go_wp2_with fail
  go_loopw [9, 10, 11] (fun b co j wq => ∃ k : Nat, j = .int .i64 k ∧ 1 ≤ k ∧ k ≤ M ∧ b = .int .i64 (cheapL (sortB cs n) ((parL s q).take k)) ∧ co = .int .i64 (sortB cs n (cheapL (sortB cs n) ((parL s q).take k))) ∧ Below w2.heap.size w2 wq) (fun _ _ j _ => M - (intOf j).toNat)
  case atStart => exact ⟨1, rfl, Nat.le_refl _, hM1, by rw [HC1.out], by rw [HC1.out, HSO.out], HB5.out⟩
  case round =>
    obtain ⟨k, rfl, hk1, hk, rfl, rfl, hbq⟩ := hrel
    rename World => wq
    have HBQ := Lib.hid hbq
    have hzq := hbq.size
    have kq := Keeps.of_below hbq
    clear hbq
    by_cases hkM : k < M
    · obtain ⟨ad, x, e1, hx, -, hcx⟩ := (HNP.out.keep kq).at_ hkM
      injection e1 with e1
      subst e1
      rw [add0] at hcx
      have hxb := HPB.out x (List.mem_of_getElem? hx)
      have hnek : (parL s q).take k ≠ [] := fun e => by
        have := congrArg List.length e
        rw [List.length_take, ← HM.out] at this
        simp at this
        omega
      have hsn := cheapL_snoc (sortB cs n) ((parL s q).take k) x hnek
      rw [show (parL s q).take k ++ [x] = (parL s q).take (k + 1) by rw [List.take_add_one, hx]; rfl] at hsn
      have hxq := HX2.out.keep kq
      have u0 : wq.cell? ⟨w.heap.size, 0, none⟩ = some (.slice A q c) := hxq 0 _ rfl
      have u1 : wq.cell? ⟨w.heap.size, 1, none⟩ = some (.int .i64 mm) := hxq 1 _ rfl
      have hfq := (HF.out.below (HB2.out.trans (HBQ.out.mono hz2)) (Nat.le_refl _)).drew
      have HS2 := Lib.hid (rSort_any A q c mm cs n x wq.drew hfq.nums q4 hfq.c hfq.n0 hfq.n3 hxb.1 hxb.2)
      obtain ⟨b, hbe⟩ : ∃ b, b = cheapL (sortB cs n) ((parL s q).take k) := ⟨_, rfl⟩
      rw [← hbe] at hsn ⊢
      obtain ⟨fx, hfx⟩ : ∃ z, z = sortB cs n x := ⟨_, rfl⟩
      obtain ⟨fb, hfb⟩ : ∃ z, z = sortB cs n b := ⟨_, rfl⟩
      rw [← hfx] at HS2 hsn
      rw [← hfb] at hsn ⊢
      have HSN := Lib.hid hsn
      have HFX := Lib.hid hfx
      have HFB := Lib.hid hfb
      have k0 : (0 : Int) ≤ (k : Int) := by omega
      have k1 : (k : Int) < (M : Int) := by omega
      clear hx hnek hsn hxq hfq hbe hfx hfb kq
      go_wp2_with fail
      refine wp_region_held_drew (S := fun W => W.cell? ⟨w.heap.size, 0, none⟩ = some (.slice A q c) ∧ W.cell? ⟨w.heap.size, 1, none⟩ = some (.int .i64 mm) ∧ W.cell? ⟨gp, k, none⟩ = some (.int .i64 x)) (by kernel_rfl) ⟨u0, u1, hcx⟩ (fun hHeld => ?_)
      refine wpAnyH_take (i := 0) (v := ?vb0) rfl (by kernel_rfl) (by kernel_rfl) (by kernel_rfl) (fun _ _ _ h => h) (Or.inl ⟨by rfl, ?yb0⟩) hHeld ?rb0
      case yb0 => (intro W hW; obtain ⟨hW0, hW1, hW2⟩ := hW; go_simp; first | done | with_reducible rfl)
      try simp only [List.getElem_toArray, List.getElem_cons_zero, Act.put, List.setIfInBounds_toArray, List.set_cons_zero, List.set_cons_succ]
      refine wpAnyH_take (i := 1) (v := ?vb1) rfl (by kernel_rfl) (by kernel_rfl) (by kernel_rfl) (fun _ _ _ h => h) (Or.inl ⟨by rfl, ?yb1⟩) hHeld ?rb1
      case yb1 => (intro W hW; obtain ⟨hW0, hW1, hW2⟩ := hW; go_simp; first | done | with_reducible rfl)
      try simp only [List.getElem_toArray, List.getElem_cons_succ, List.getElem_cons_zero, Act.put, List.setIfInBounds_toArray, List.set_cons_zero, List.set_cons_succ]
      refine wpAnyH_take (i := 2) (v := ?vb2) rfl (by kernel_rfl) (by kernel_rfl) (by kernel_rfl) (fun _ _ _ h => h) (Or.inl ⟨by rfl, ?yb2⟩) hHeld ?rb2
      case yb2 => (intro W hW; obtain ⟨hW0, hW1, hW2⟩ := hW; go_simp; first | done | with_reducible rfl)
      try simp only [List.getElem_toArray, List.getElem_cons_succ, List.getElem_cons_zero, Act.put, List.setIfInBounds_toArray, List.set_cons_zero, List.set_cons_succ]
      refine wpAnyH_take (i := 3) (v := ?vb3) rfl (by kernel_rfl) (by kernel_rfl) (by kernel_rfl) (fun _ _ _ h => h) (Or.inl ⟨by rfl, ?yb3⟩) hHeld ?rb3
      case yb3 => (intro W hW; obtain ⟨hW0, hW1, hW2⟩ := hW; go_simp; first | done | with_reducible rfl)
      try simp only [List.getElem_toArray, List.getElem_cons_succ, List.getElem_cons_zero, Act.put, List.setIfInBounds_toArray, List.set_cons_zero, List.set_cons_succ]
      refine wpAnyH_take (i := 4) (v := ?vb4) rfl (by kernel_rfl) (by kernel_rfl) (by kernel_rfl) (fun _ _ _ h => h) (Or.inl ⟨by rfl, ?yb4⟩) hHeld ?rb4
      case yb4 => (intro W hW; obtain ⟨hW0, hW1, hW2⟩ := hW; go_simp; first | done | with_reducible rfl)
      try simp only [List.getElem_toArray, List.getElem_cons_succ, List.getElem_cons_zero, Act.put, List.setIfInBounds_toArray, List.set_cons_zero, List.set_cons_succ]
      refine wpAnyH_take (i := 5) (v := ?vb5) rfl (by kernel_rfl) (by kernel_rfl) (by kernel_rfl) (fun _ _ _ h => h) (Or.inl ⟨by rfl, ?yb5⟩) hHeld ?rb5
      case yb5 => (intro W hW; obtain ⟨hW0, hW1, hW2⟩ := hW; go_simp; first | done | with_reducible rfl)
      try simp only [List.getElem_toArray, List.getElem_cons_succ, List.getElem_cons_zero, Act.put, List.setIfInBounds_toArray, List.set_cons_zero, List.set_cons_succ]
      refine wpAnyH_ready (rs := [6]) (by kernel_rfl) (by simp) ?_
      refine AllReadyH.cons rfl (fun K hK => ?_) (AllReadyH.nil)
      go_simp
      refine HS2.out.mono ?_
      rintro e9 w6 ⟨rfl, hb6⟩
      have k6 := Keeps.of_below hb6
      have HB6 := Lib.hid (HBQ.out.drew.trans (hb6.mono hzq))
      clear hb6
      refine hK.out _ _ (⟨k6 _ _ u0, k6 _ _ u1, k6 _ _ hcx⟩) (fun hHeld => ?_)
      clear hK K
      try simp only [List.getElem_toArray, List.getElem_cons_succ, List.getElem_cons_zero, Act.put, List.setIfInBounds_toArray, List.set_cons_zero, List.set_cons_succ]
      refine wpAnyH_take (i := 7) (v := ?vb7) rfl (by kernel_rfl) (by kernel_rfl) (by kernel_rfl) (fun _ _ _ h => h) (Or.inl ⟨by rfl, ?yb7⟩) hHeld ?rb7
      case yb7 => (intro W hW; obtain ⟨hW0, hW1, hW2⟩ := hW; go_simp; first | done | with_reducible rfl)
      try simp only [List.getElem_toArray, List.getElem_cons_succ, List.getElem_cons_zero, Act.put, List.setIfInBounds_toArray, List.set_cons_zero, List.set_cons_succ]
      refine wpAnyH_done (by kernel_rfl) ?_ _
      have hc6 := hHeld.2.2
      clear hHeld
      clear u0 u1 hcx k6
      by_cases hlt : fx < fb
      · have HS3 := Lib.hid (HSN.out.trans (if_pos hlt))
        go_wp2
        go_roundw
        case rel => exact ⟨k + 1, by go_num, by omega, by omega, by rw [HS3.out], by rw [HS3.out, HFX.out], HB6.out⟩
        case measure => simp [intOf]; omega
      · have HS3 := Lib.hid (HSN.out.trans (if_neg hlt))
        go_wp2
        go_roundw
        case rel => exact ⟨k + 1, by go_num, by omega, by omega, by rw [HS3.out], by rw [HS3.out, HFB.out], HB6.out⟩
        case measure => simp [intOf]; omega
    · obtain rfl : k = M := by omega
      have hall : (parL s q).take k = parL s q := List.take_of_length_le (by rw [← HM.out]; omega)
      rw [hall]
      have HBf := Lib.hid (HB2.out.trans (HBQ.out.mono hz2))
      clear hall kq
      go_wp2
      exact bodyPost_ret (v := .tuple #[.int .i64 (cheapL (sortB cs n) (parL s q)), .int .i64 (sortB cs n (cheapL (sortB cs n) (parL s q)))]) (by simp [results, Tryz.results45, go_sem]) rfl ⟨rfl, HBf.out⟩
end Go.Proofs.YtjllmladhjbnaaaGreatDoor
