/- The reference's plan by sorting: a level's edges, all levels'. -/
import Derived.Test.YtjllmladhjbnaaaGreatDoorRlvl
import Derived.Test.YtjllmladhjbnaaaGreatDoorRcost
import Derived.Test.YtjllmladhjbnaaaGreatDoorMatR3
import Derived.Test.YtjllmladhjbnaaaGreatDoorMatUA
import Derived.Test.YtjllmladhjbnaaaGreatDoorOth
import Derived.Test.YtjllmladhjbnaaaGreatDoorRegion
namespace Go.Proofs.YtjllmladhjbnaaaGreatDoor
open Go.RowKit Go.Shelf
attribute [local go_sem] Oper.semAt_some
theorem scan_iff : ∀ d, 1 ≤ d → d ≤ 4 → ∀ l, l < d → ∀ s ∈ levL d l, ∀ p ∈ levL d (l + 1), (bits .and .i64 p s == s) = decide (p ∈ parL s d) := by
  intro d h1 h2
  rcases (by omega : d = 1 ∨ d = 2 ∨ d = 3 ∨ d = 4) with rfl | rfl | rfl | rfl <;> decide +kernel
theorem rowM_eq (cs : List Int) (n : Int) (l i : Nat) (s : Int) (q m : Nat) (hq : cs.length = q) (hm : m = (levL q l).length) :
    (levL q (l + 1)).map (scanC cs n s) ++ (List.range m).map (fun k => if k = i then sortB cs n (own cs n s) else 1000000) = rowM cs n l i s := by
  subst hq; subst hm; rfl
set_option maxRecDepth 100000 in
set_option maxHeartbeats 16000000 in
theorem rBelow_any (A : Option Addr) (q c mm : Nat) (cs : List Int) (n : Int) (l : Nat) (w : World) (h : FQ w A q mm cs n) (hl : l < q) :
    Calls Tryz.prog 23 #[.agg #[.slice A q c, .int .i64 mm], .int .i64 n, .int .i64 l] w fun e w' => ∃ v, e = .returned v ∧ OE w.heap.size w' v (edsM cs n l) ∧ Below w.heap.size w w' := by
  have hcl := h.len
  have q1 := h.q1
  have q4 := h.q4
  have hg := h.good
  obtain ⟨w0, hw0⟩ : ∃ w0, w0 = w.alloc (.cells #[.slice A q c, .int .i64 mm] 25) := ⟨_, rfl⟩
  have hb0 : Below w.heap.size w w0 := by rw [hw0]; exact below_box w _
  have hx0 : Bx w0 w.heap.size #[.slice A q c, .int .i64 mm] := by rw [hw0]; exact Bx.new _ _ _
  have HL1 := Lib.hid (rLevel_any q l w0 q1 q4)
  have HL2 := Lib.hid (fun W => rLevel_any q (l + 1) W q1 q4)
  have e1 : IntKind.i64.wrap ((l : Int) + 1) = ((l + 1 : Nat) : Int) := by rw [IntWalk.i64_in _ (by omega)]; push_cast; rfl
  obtain ⟨l2, hl2⟩ : ∃ l2, l2 = l + 1 := ⟨_, rfl⟩
  rw [← hl2] at e1 HL2
  have HE2 := Lib.hid hl2
  obtain ⟨m, hm⟩ : ∃ m, m = (levL q l).length := ⟨_, rfl⟩
  obtain ⟨nu, hnu⟩ : ∃ nu, nu = (levL q (l + 1)).length := ⟨_, rfl⟩
  have hll := lev_len q q1 q4 l hl
  rw [← hm, ← hnu] at hll
  obtain ⟨m1, m6, mn⟩ := hll
  have nu1 : 1 ≤ nu := by
    rw [hnu]
    obtain ⟨s, hs⟩ := List.exists_mem_of_length_pos (l := levL q l) (by omega)
    have hp := lev_par q q1 q4 l hl s hs
    obtain ⟨p, hp2⟩ := List.exists_mem_of_ne_nil _ hp.1
    exact List.length_pos_of_mem (hp.2 p hp2)
  have hfs : ∀ s ∈ levL q l, 0 ≤ s ∧ s ≤ 15 ∧ s ∈ setsL q ∧ parL s q ≠ [] ∧ 0 ≤ sortB cs n (own cs n s) ∧ sortB cs n (own cs n s) ≤ 3000 := fun s hs => by
    have a := (mem_lev.1 hs).1
    have b := sets_lvl q q1 q4 s a
    have hsp := (own_spec hg (l := l) (by rw [hcl]; exact hl) (s := s) (by rw [hcl]; exact hs)).1
    have hpb := par_bd hg (l := l) (by rw [hcl]; exact hl) (s := s) (by rw [hcl]; exact hs) hsp
    have hsb := sortB_bd hg.c hpb.1 hpb.2 (by omega) h.n0 h.n3
    exact ⟨b.1, b.2, a, (lev_par q q1 q4 l hl s hs).1, hsb.1, hsb.2.1⟩
  have hfp : ∀ p ∈ levL q (l + 1), 0 ≤ p ∧ p ≤ fullB q := fun p hp => sets_bd q q1 q4 p (mem_lev.1 hp).1
  have hsi := scan_iff q q1 q4 l hl
  have HF := Lib.hid h
  have HG := Lib.hid hg
  have HB0 := Lib.hid hb0
  have HX0 := Lib.hid hx0
  have HW0 := Lib.hid hw0
  have HM := Lib.hid hm
  have HNU := Lib.hid hnu
  have HFS := Lib.hid hfs
  have HFP := Lib.hid hfp
  have HSI := Lib.hid hsi
  have HLL := Lib.hid hl
  have x0 : w0.cell? ⟨w.heap.size, 0, none⟩ = some (.slice A q c) := hx0 0 _ rfl
  clear h hg hb0 hx0 hw0 hl2 hm hnu hfs hfp hsi
  go_enter Tryz.func23, Tryz.ntmps23
  go_wp2_with fail
  rw [← HW0.out]
  go_wp2_with fail
  refine HL1.out.mono ?_
  rintro e w2 ⟨vs, rfl, hos, hb2⟩
  obtain ⟨PS, cS, rfl, -, -, hns, -⟩ := hos.form
  obtain ⟨PS', cS', eS, -, -, h3⟩ := own_form hos.1
  injection eS with eS e8 e9
  obtain ⟨gs, egs, -, -⟩ := h3 (by rw [← HM.out]; omega)
  rw [← eS] at egs
  subst egs
  clear eS e8 e9 h3
  rw [← HM.out] at hns ⊢
  have HNS2 := Lib.hid hns
  have HB2 := Lib.hid (HB0.out.trans (hb2.mono HB0.out.size))
  have HX2 := Lib.hid (HX0.out.keep (Keeps.of_below hb2))
  clear hns hb2 hos x0
  go_wp2_with fail
  refine (HL2.out w2).mono ?_
  rintro e w3 ⟨va, rfl, hoa, hb3⟩
  rw [HE2.out] at hoa
  obtain ⟨PA, cA, rfl, -, -, hna, -⟩ := hoa.form
  obtain ⟨PA', cA', eS, -, -, h3⟩ := own_form hoa.1
  injection eS with eS e8 e9
  obtain ⟨ga, ega, -, -⟩ := h3 (by rw [← HNU.out]; omega)
  rw [← eS] at ega
  subst ega
  clear eS e8 e9 h3
  rw [← HNU.out] at hna ⊢
  have HNA := Lib.hid hna
  have HNS := Lib.hid (HNS2.out.keep (Keeps.of_below hb3))
  have HB3 := Lib.hid (HB2.out.trans (hb3.mono HB2.out.size))
  have HX3 := Lib.hid (HX2.out.keep (Keeps.of_below hb3))
  have hz3 := HB3.out.size
  clear hna hb3 hoa HNS2
  go_wp2_with fail
  go_loopw [10, 11] (fun v i wr => ∃ (k : Nat) (us : List Value), i = .int .i64 k ∧ k ≤ m ∧ OM w3.heap.size wr v ((costM cs n l).take k) us ∧ Below w3.heap.size w3 wr) (fun _ i _ => m - (intOf i).toNat)
  case atStart => exact ⟨0, _, rfl, Nat.zero_le _, OM.nil _ _, Below.refl _ _⟩
  case round =>
    obtain ⟨i, us, rfl, hi, hom, hb⟩ := hrel
    rename World => wr
    have HOM := Lib.hid hom
    have HB := Lib.hid hb
    have hz := hb.size
    clear hom hb
    by_cases hiN : i < m
    · have kw := Keeps.of_below HB.out
      obtain ⟨ad, s, e5, hs, -, hcs⟩ := (HNS.out.keep kw).at_ hiN
      injection e5 with e5
      subst e5
      rw [add0] at hcs
      obtain ⟨s0, s15, hss, hne, hsb0, hsb3⟩ := HFS.out s (List.mem_of_getElem? hs)
      have hxr := HX3.out.keep kw
      have v0 : wr.cell? ⟨w.heap.size, 0, none⟩ = some (.slice A q c) := hxr 0 _ rfl
      have v1 : wr.cell? ⟨w.heap.size, 1, none⟩ = some (.int .i64 mm) := hxr 1 _ rfl
      have hs' := hs
      rw [← hcl] at hs'
      have hcr := costM_of (n := n) hs'
      have htk : (costM cs n l).take (i + 1) = (costM cs n l).take i ++ [rowM cs n l i s] := by rw [List.take_add_one, hcr]; rfl
      have hre := rowM_eq cs n l i s q m hcl HM.out
      have hsc := fun p hp => HSI.out s (List.mem_of_getElem? hs) p hp
      have hfq : FQ wr A q mm cs n := HF.out.below (HB3.out.trans (HB.out.mono hz3)) (Nat.le_refl _)
      have HCH := Lib.hid (fun W (hF : FQ W A q mm cs n) => rChe_any A q c mm cs n s W hF hss hne)
      have HTK := Lib.hid htk
      have HRE := Lib.hid hre
      have HSC := Lib.hid hsc
      have HFQ := Lib.hid hfq
      have HNAr := Lib.hid (HNA.out.keep kw)
      have i0 : (0 : Int) ≤ (i : Int) := by omega
      have i1 : (i : Int) < (m : Int) := by omega
      have HBW := Lib.hid (HB3.out.trans (HB.out.mono hz3))
      clear hs hs' hxr hcr htk hre hsc hfq kw hss hne
      go_wp2_with fail
      go_loopw [12, 13] (fun v j wq => ∃ k : Nat, j = .int .i64 k ∧ k ≤ nu ∧ OI wr.heap.size wq v (((levL q (l + 1)).take k).map (scanC cs n s)) ∧ Below wr.heap.size wr wq) (fun _ j _ => nu - (intOf j).toNat)
      case atStart => exact ⟨0, rfl, Nat.zero_le _, OI.nil _ _, Below.refl _ _⟩
      case round =>
        obtain ⟨k, rfl, hk, hoi, hbq⟩ := hrel
        rename World => wq
        have HOI := Lib.hid hoi
        have HBQ := Lib.hid hbq
        have hzq := hbq.size
        have kq := Keeps.of_below hbq
        clear hoi hbq
        have t0 := kq _ _ v0
        have t1 := kq _ _ v1
        have ts := kq _ _ hcs
        by_cases hkN : k < nu
        · obtain ⟨ad, p, e5, hp, -, hcp⟩ := (HNAr.out.keep kq).at_ hkN
          injection e5 with e5
          subst e5
          rw [add0] at hcp
          have hpm := List.mem_of_getElem? hp
          have hpb := HFP.out p hpm
          have htk2 : ((levL q (l + 1)).take (k + 1)).map (scanC cs n s) = ((levL q (l + 1)).take k).map (scanC cs n s) ++ [scanC cs n s p] := by rw [List.take_add_one, hp]; simp
          have hln : (((levL q (l + 1)).take k).map (scanC cs n s)).length ≤ 1000 := by rw [List.length_map, List.length_take]; omega
          have hsip := HSC.out p hpm
          have HT2 := Lib.hid htk2
          have hfq := HFQ.out.below HBQ.out (Nat.le_refl _)
          have k0 : (0 : Int) ≤ (k : Int) := by omega
          have k1 : (k : Int) < (nu : Int) := by omega
          clear hp hpm htk2 kq
          by_cases hin : p ∈ parL s q
          · rw [decide_eq_true hin] at hsip
            have hsv : scanC cs n s p = sizeB cs n p := by unfold scanC; rw [if_pos (by rw [hcl]; exact hin)]
            have hsb := sizeB_bd (cs := cs) (rows := n) (k := p) hfq.c hpb.1 (by rw [hcl]; exact hpb.2) (by omega) hfq.n0 hfq.n3
            have HSV := Lib.hid hsv
            have HSCN := Lib.hid (rScan_any A q c mm cs n p wq.drew.drew hfq.drew.drew hpb.1 hpb.2)
            obtain ⟨y, hy⟩ : ∃ y, y = sizeB cs n p := ⟨_, rfl⟩
            rw [← hy] at hsb HSV HSCN
            clear hsv hy hin hfq
            go_wp2_with fail
            refine wp_region_held_drew (S := fun W => W.cell? ⟨ga, k, none⟩ = some (.int .i64 p) ∧ W.cell? ⟨gs, i, none⟩ = some (.int .i64 s)) (by kernel_rfl) ⟨hcp, ts⟩ (fun hHeld => ?_)
            refine wpAnyH_take (i := 0) (v := ?va0) rfl (by kernel_rfl) (by kernel_rfl) (by kernel_rfl) (fun _ _ _ h => h) (Or.inl ⟨by rfl, ?ya0⟩) hHeld ?ra0
            case ya0 => (intro W hW; obtain ⟨hW0, hW1⟩ := hW; go_simp; first | done | with_reducible rfl)
            try simp only [List.getElem_toArray, List.getElem_cons_zero, Act.put, List.setIfInBounds_toArray, List.set_cons_zero, List.set_cons_succ]
            refine wpAnyH_take (i := 1) (v := ?va1) rfl (by kernel_rfl) (by kernel_rfl) (by kernel_rfl) (fun _ _ _ h => h) (Or.inl ⟨by rfl, ?ya1⟩) hHeld ?ra1
            case ya1 => (intro W hW; obtain ⟨hW0, hW1⟩ := hW; go_simp; first | done | with_reducible rfl)
            try simp only [List.getElem_toArray, List.getElem_cons_succ, List.getElem_cons_zero, Act.put, List.setIfInBounds_toArray, List.set_cons_zero, List.set_cons_succ]
            refine wpAnyH_take (i := 2) (v := ?va2) rfl (by kernel_rfl) (by kernel_rfl) (by kernel_rfl) (fun _ _ _ h => h) (Or.inl ⟨by rfl, ?ya2⟩) hHeld ?ra2
            case ya2 => (intro W hW; obtain ⟨hW0, hW1⟩ := hW; go_simp; first | done | with_reducible rfl)
            try simp only [List.getElem_toArray, List.getElem_cons_succ, List.getElem_cons_zero, Act.put, List.setIfInBounds_toArray, List.set_cons_zero, List.set_cons_succ]
            refine wpAnyH_take (i := 3) (v := ?va3) rfl (by kernel_rfl) (by kernel_rfl) (by kernel_rfl) (fun _ _ _ h => h) (Or.inl ⟨by rfl, ?ya3⟩) hHeld ?ra3
            case ya3 => (intro W hW; obtain ⟨hW0, hW1⟩ := hW; go_simp; first | done | with_reducible rfl)
            try simp only [List.getElem_toArray, List.getElem_cons_succ, List.getElem_cons_zero, Act.put, List.setIfInBounds_toArray, List.set_cons_zero, List.set_cons_succ]
            refine wpAnyH_take (i := 4) (v := ?va4) rfl (by kernel_rfl) (by kernel_rfl) (by kernel_rfl) (fun _ _ _ h => h) (Or.inl ⟨by rfl, ?ya4⟩) hHeld ?ra4
            case ya4 => (intro W hW; obtain ⟨hW0, hW1⟩ := hW; go_simp; first | done | with_reducible rfl)
            try simp only [List.getElem_toArray, List.getElem_cons_succ, List.getElem_cons_zero, Act.put, List.setIfInBounds_toArray, List.set_cons_zero, List.set_cons_succ]
            refine wpAnyH_take (i := 5) (v := ?va5) rfl (by kernel_rfl) (by kernel_rfl) (by kernel_rfl) (fun _ _ _ h => h) (Or.inl ⟨by rfl, ?ya5⟩) hHeld ?ra5
            case ya5 => (intro W hW; obtain ⟨hW0, hW1⟩ := hW; go_simp; first | done | with_reducible rfl)
            try simp only [List.getElem_toArray, List.getElem_cons_succ, List.getElem_cons_zero, Act.put, List.setIfInBounds_toArray, List.set_cons_zero, List.set_cons_succ]
            refine wpAnyH_take (i := 6) (v := ?va6) rfl (by kernel_rfl) (by kernel_rfl) (by kernel_rfl) (fun _ _ _ h => h) (Or.inl ⟨by rfl, ?ya6⟩) hHeld ?ra6
            case ya6 => (intro W hW; obtain ⟨hW0, hW1⟩ := hW; go_simp; first | done | with_reducible rfl)
            try simp only [List.getElem_toArray, List.getElem_cons_succ, List.getElem_cons_zero, Act.put, List.setIfInBounds_toArray, List.set_cons_zero, List.set_cons_succ]
            refine wpAnyH_take (i := 7) (v := ?va7) rfl (by kernel_rfl) (by kernel_rfl) (by kernel_rfl) (fun _ _ _ h => h) (Or.inl ⟨by rfl, ?ya7⟩) hHeld ?ra7
            case ya7 => (intro W hW; obtain ⟨hW0, hW1⟩ := hW; go_simp; first | done | with_reducible rfl)
            try simp only [List.getElem_toArray, List.getElem_cons_succ, List.getElem_cons_zero, Act.put, List.setIfInBounds_toArray, List.set_cons_zero, List.set_cons_succ]
            refine wpAnyH_take (i := 8) (v := ?va8) rfl (by kernel_rfl) (by kernel_rfl) (by kernel_rfl) (fun _ _ _ h => h) (Or.inl ⟨by rfl, ?ya8⟩) hHeld ?ra8
            case ya8 => (intro W hW; obtain ⟨hW0, hW1⟩ := hW; go_simp; first | done | with_reducible rfl)
            try simp only [List.getElem_toArray, List.getElem_cons_succ, List.getElem_cons_zero, Act.put, List.setIfInBounds_toArray, List.set_cons_zero, List.set_cons_succ]
            refine wpAnyH_take (i := 9) (v := ?va9) rfl (by kernel_rfl) (by kernel_rfl) (by kernel_rfl) (fun _ _ _ h => h) (Or.inl ⟨by rfl, ?ya9⟩) hHeld ?ra9
            case ya9 => (intro W hW; obtain ⟨hW0, hW1⟩ := hW; go_simp; first | done | with_reducible rfl)
            try simp only [List.getElem_toArray, List.getElem_cons_succ, List.getElem_cons_zero, Act.put, List.setIfInBounds_toArray, List.set_cons_zero, List.set_cons_succ]
            refine wpAnyH_take (i := 10) (v := ?va10) rfl (by kernel_rfl) (by kernel_rfl) (by kernel_rfl) (fun _ _ _ h => h) (Or.inl ⟨by rfl, ?ya10⟩) hHeld ?ra10
            case ya10 => (intro W hW; obtain ⟨hW0, hW1⟩ := hW; go_simp; first | done | with_reducible rfl)
            try simp only [List.getElem_toArray, List.getElem_cons_succ, List.getElem_cons_zero, Act.put, List.setIfInBounds_toArray, List.set_cons_zero, List.set_cons_succ]
            refine wpAnyH_take (i := 11) (v := ?va11) rfl (by kernel_rfl) (by kernel_rfl) (by kernel_rfl) (fun _ _ _ h => h) (Or.inl ⟨by rfl, ?ya11⟩) hHeld ?ra11
            case ya11 => (intro W hW; obtain ⟨hW0, hW1⟩ := hW; go_simp; first | done | with_reducible rfl)
            try simp only [List.getElem_toArray, List.getElem_cons_succ, List.getElem_cons_zero, Act.put, List.setIfInBounds_toArray, List.set_cons_zero, List.set_cons_succ]
            refine wpAnyH_take (i := 12) (v := ?va12) rfl (by kernel_rfl) (by kernel_rfl) (by kernel_rfl) (fun _ _ _ h => h) (Or.inl ⟨by rfl, ?ya12⟩) hHeld ?ra12
            case ya12 => (intro W hW; obtain ⟨hW0, hW1⟩ := hW; go_simp; first | done | with_reducible rfl)
            try simp only [List.getElem_toArray, List.getElem_cons_succ, List.getElem_cons_zero, Act.put, List.setIfInBounds_toArray, List.set_cons_zero, List.set_cons_succ]
            refine wpAnyH_take (i := 13) (v := ?va13) rfl (by kernel_rfl) (by kernel_rfl) (by kernel_rfl) (fun _ _ _ h => h) (Or.inl ⟨by rfl, ?ya13⟩) hHeld ?ra13
            case ya13 => (intro W hW; obtain ⟨hW0, hW1⟩ := hW; go_simp; first | done | with_reducible rfl)
            try simp only [List.getElem_toArray, List.getElem_cons_succ, List.getElem_cons_zero, Act.put, List.setIfInBounds_toArray, List.set_cons_zero, List.set_cons_succ]
            refine wpAnyH_done (by kernel_rfl) ?_ _
            clear hHeld
            go_wp2_with fail
            refine wp_region_held_drew (S := fun W => W.cell? ⟨w.heap.size, 0, none⟩ = some (.slice A q c) ∧ W.cell? ⟨w.heap.size, 1, none⟩ = some (.int .i64 mm) ∧ W.cell? ⟨ga, k, none⟩ = some (.int .i64 p)) (by kernel_rfl) ⟨t0, t1, hcp⟩ (fun hHeld => ?_)
            refine wpAnyH_take (i := 0) (v := ?vb0) rfl (by kernel_rfl) (by kernel_rfl) (by kernel_rfl) (fun _ _ _ h => h) (Or.inl ⟨by rfl, ?yb0⟩) hHeld ?rb0
            case yb0 => (intro W hW; obtain ⟨hW0, hW1, hW2⟩ := hW; go_simp; first | done | with_reducible rfl)
            try simp only [List.getElem_toArray, List.getElem_cons_zero, Act.put, List.setIfInBounds_toArray, List.set_cons_zero, List.set_cons_succ]
            refine wpAnyH_take (i := 1) (v := ?vb1) rfl (by kernel_rfl) (by kernel_rfl) (by kernel_rfl) (fun _ _ _ h => h) (Or.inl ⟨by rfl, ?yb1⟩) hHeld ?rb1
            case yb1 => (intro W hW; obtain ⟨hW0, hW1, hW2⟩ := hW; go_simp; first | done | with_reducible rfl)
            try simp only [List.getElem_toArray, List.getElem_cons_succ, List.getElem_cons_zero, Act.put, List.setIfInBounds_toArray, List.set_cons_zero, List.set_cons_succ]
            refine wpAnyH_take (i := 2) (v := ?vb2) rfl (by kernel_rfl) (by kernel_rfl) (by kernel_rfl) (fun _ _ _ h => h) (Or.inl ⟨by rfl, ?yb2⟩) hHeld ?rb2
            case yb2 => (intro W hW; obtain ⟨hW0, hW1, hW2⟩ := hW; go_simp; first | done | with_reducible rfl)
            try simp only [List.getElem_toArray, List.getElem_cons_succ, List.getElem_cons_zero, Act.put, List.setIfInBounds_toArray, List.set_cons_zero, List.set_cons_succ]
            refine wpAnyH_take (i := 3) (v := ?vb3) rfl (by kernel_rfl) (by kernel_rfl) (by kernel_rfl) (fun _ _ _ h => h) (Or.inl ⟨by rfl, ?yb3⟩) hHeld ?rb3
            case yb3 => (intro W hW; obtain ⟨hW0, hW1, hW2⟩ := hW; go_simp; first | done | with_reducible rfl)
            try simp only [List.getElem_toArray, List.getElem_cons_succ, List.getElem_cons_zero, Act.put, List.setIfInBounds_toArray, List.set_cons_zero, List.set_cons_succ]
            refine wpAnyH_take (i := 4) (v := ?vb4) rfl (by kernel_rfl) (by kernel_rfl) (by kernel_rfl) (fun _ _ _ h => h) (Or.inl ⟨by rfl, ?yb4⟩) hHeld ?rb4
            case yb4 => (intro W hW; obtain ⟨hW0, hW1, hW2⟩ := hW; go_simp; first | done | with_reducible rfl)
            try simp only [List.getElem_toArray, List.getElem_cons_succ, List.getElem_cons_zero, Act.put, List.setIfInBounds_toArray, List.set_cons_zero, List.set_cons_succ]
            refine wpAnyH_take (i := 5) (v := ?vb5) rfl (by kernel_rfl) (by kernel_rfl) (by kernel_rfl) (fun _ _ _ h => h) (Or.inl ⟨by rfl, ?yb5⟩) hHeld ?rb5
            case yb5 => (intro W hW; obtain ⟨hW0, hW1, hW2⟩ := hW; go_simp; first | done | with_reducible rfl)
            try simp only [List.getElem_toArray, List.getElem_cons_succ, List.getElem_cons_zero, Act.put, List.setIfInBounds_toArray, List.set_cons_zero, List.set_cons_succ]
            refine wpAnyH_ready (rs := [6]) (by kernel_rfl) (by simp) ?_
            refine AllReadyH.cons rfl (fun K hK => ?_) (AllReadyH.nil)
            go_simp
            refine HSCN.out.mono ?_
            rintro e9 w6 ⟨rfl, hb6⟩
            have k6 := Keeps.of_below hb6
            have HB6 := Lib.hid (HBQ.out.drew.drew.trans (hb6.mono hzq))
            have HOI6 := Lib.hid (HOI.out.below (((Below.refl wq.heap.size wq).drew.drew).trans hb6))
            clear hb6
            refine hK.out _ _ (⟨k6 _ _ t0, k6 _ _ t1, k6 _ _ hcp⟩) (fun hHeld => ?_)
            clear hK K
            try simp only [List.getElem_toArray, List.getElem_cons_succ, List.getElem_cons_zero, Act.put, List.setIfInBounds_toArray, List.set_cons_zero, List.set_cons_succ]
            refine wpAnyH_take (i := 7) (v := ?vb7) rfl (by kernel_rfl) (by kernel_rfl) (by kernel_rfl) (fun _ _ _ h => h) (Or.inl ⟨by rfl, ?yb7⟩) hHeld ?rb7
            case yb7 => (intro W hW; obtain ⟨hW0, hW1, hW2⟩ := hW; go_simp; first | done | with_reducible rfl)
            try simp only [List.getElem_toArray, List.getElem_cons_succ, List.getElem_cons_zero, Act.put, List.setIfInBounds_toArray, List.set_cons_zero, List.set_cons_succ]
            refine wpAnyH_done (by kernel_rfl) ?_ _
            clear hHeld
            clear t0 t1 ts hcp k6
            obtain ⟨v', w7, hrun, ho7, hb7⟩ := oi_append y HOI6.out (by constructor <;> omega) (by omega) HB6.out.size
            have HO7 := Lib.hid ho7
            have HB7 := Lib.hid (HB6.out.trans hb7)
            have Hrun := Lib.hid hrun
            clear hrun ho7 hb7
            go_wp2_with (at_builtin; have _t := Hrun; refine wpList_append_eq rfl (.tmp 69) (.tmp 71) 22 rfl _ _ _ _ rfl rfl Hrun.out ?_; clear _t Hrun)
            go_roundw
            case rel => exact ⟨k + 1, by go_num, by omega, by rw [HT2.out, HSV.out]; exact HO7.out, HB7.out⟩
            case measure => simp [intOf]; omega
          · rw [decide_eq_false hin] at hsip
            have hsv : scanC cs n s p = 1000000 := by unfold scanC; rw [if_neg (by rw [hcl]; exact hin)]
            have HSV := Lib.hid hsv
            obtain ⟨v', w7, hrun, ho7, hb7⟩ := oi_append 1000000 (HOI.out.below (Below.refl wq.heap.size wq).drew) (by constructor <;> omega) (by omega) (show wr.heap.size ≤ wq.drew.heap.size from hzq)
            have HO7 := Lib.hid ho7
            have HB7 := Lib.hid (HBQ.out.drew.trans hb7)
            have Hrun := Lib.hid hrun
            clear hsv hin hfq hrun ho7 hb7
            go_wp2_with fail
            refine wp_region_held_drew (S := fun W => W.cell? ⟨ga, k, none⟩ = some (.int .i64 p) ∧ W.cell? ⟨gs, i, none⟩ = some (.int .i64 s)) (by kernel_rfl) ⟨hcp, ts⟩ (fun hHeld => ?_)
            refine wpAnyH_take (i := 0) (v := ?vd0) rfl (by kernel_rfl) (by kernel_rfl) (by kernel_rfl) (fun _ _ _ h => h) (Or.inl ⟨by rfl, ?yd0⟩) hHeld ?rd0
            case yd0 => (intro W hW; obtain ⟨hW0, hW1⟩ := hW; go_simp; first | done | with_reducible rfl)
            try simp only [List.getElem_toArray, List.getElem_cons_zero, Act.put, List.setIfInBounds_toArray, List.set_cons_zero, List.set_cons_succ]
            refine wpAnyH_take (i := 1) (v := ?vd1) rfl (by kernel_rfl) (by kernel_rfl) (by kernel_rfl) (fun _ _ _ h => h) (Or.inl ⟨by rfl, ?yd1⟩) hHeld ?rd1
            case yd1 => (intro W hW; obtain ⟨hW0, hW1⟩ := hW; go_simp; first | done | with_reducible rfl)
            try simp only [List.getElem_toArray, List.getElem_cons_succ, List.getElem_cons_zero, Act.put, List.setIfInBounds_toArray, List.set_cons_zero, List.set_cons_succ]
            refine wpAnyH_take (i := 2) (v := ?vd2) rfl (by kernel_rfl) (by kernel_rfl) (by kernel_rfl) (fun _ _ _ h => h) (Or.inl ⟨by rfl, ?yd2⟩) hHeld ?rd2
            case yd2 => (intro W hW; obtain ⟨hW0, hW1⟩ := hW; go_simp; first | done | with_reducible rfl)
            try simp only [List.getElem_toArray, List.getElem_cons_succ, List.getElem_cons_zero, Act.put, List.setIfInBounds_toArray, List.set_cons_zero, List.set_cons_succ]
            refine wpAnyH_take (i := 3) (v := ?vd3) rfl (by kernel_rfl) (by kernel_rfl) (by kernel_rfl) (fun _ _ _ h => h) (Or.inl ⟨by rfl, ?yd3⟩) hHeld ?rd3
            case yd3 => (intro W hW; obtain ⟨hW0, hW1⟩ := hW; go_simp; first | done | with_reducible rfl)
            try simp only [List.getElem_toArray, List.getElem_cons_succ, List.getElem_cons_zero, Act.put, List.setIfInBounds_toArray, List.set_cons_zero, List.set_cons_succ]
            refine wpAnyH_take (i := 4) (v := ?vd4) rfl (by kernel_rfl) (by kernel_rfl) (by kernel_rfl) (fun _ _ _ h => h) (Or.inl ⟨by rfl, ?yd4⟩) hHeld ?rd4
            case yd4 => (intro W hW; obtain ⟨hW0, hW1⟩ := hW; go_simp; first | done | with_reducible rfl)
            try simp only [List.getElem_toArray, List.getElem_cons_succ, List.getElem_cons_zero, Act.put, List.setIfInBounds_toArray, List.set_cons_zero, List.set_cons_succ]
            refine wpAnyH_take (i := 5) (v := ?vd5) rfl (by kernel_rfl) (by kernel_rfl) (by kernel_rfl) (fun _ _ _ h => h) (Or.inl ⟨by rfl, ?yd5⟩) hHeld ?rd5
            case yd5 => (intro W hW; obtain ⟨hW0, hW1⟩ := hW; go_simp; first | done | with_reducible rfl)
            try simp only [List.getElem_toArray, List.getElem_cons_succ, List.getElem_cons_zero, Act.put, List.setIfInBounds_toArray, List.set_cons_zero, List.set_cons_succ]
            refine wpAnyH_take (i := 6) (v := ?vd6) rfl (by kernel_rfl) (by kernel_rfl) (by kernel_rfl) (fun _ _ _ h => h) (Or.inl ⟨by rfl, ?yd6⟩) hHeld ?rd6
            case yd6 => (intro W hW; obtain ⟨hW0, hW1⟩ := hW; go_simp; first | done | with_reducible rfl)
            try simp only [List.getElem_toArray, List.getElem_cons_succ, List.getElem_cons_zero, Act.put, List.setIfInBounds_toArray, List.set_cons_zero, List.set_cons_succ]
            refine wpAnyH_take (i := 7) (v := ?vd7) rfl (by kernel_rfl) (by kernel_rfl) (by kernel_rfl) (fun _ _ _ h => h) (Or.inl ⟨by rfl, ?yd7⟩) hHeld ?rd7
            case yd7 => (intro W hW; obtain ⟨hW0, hW1⟩ := hW; go_simp; first | done | with_reducible rfl)
            try simp only [List.getElem_toArray, List.getElem_cons_succ, List.getElem_cons_zero, Act.put, List.setIfInBounds_toArray, List.set_cons_zero, List.set_cons_succ]
            refine wpAnyH_take (i := 8) (v := ?vd8) rfl (by kernel_rfl) (by kernel_rfl) (by kernel_rfl) (fun _ _ _ h => h) (Or.inl ⟨by rfl, ?yd8⟩) hHeld ?rd8
            case yd8 => (intro W hW; obtain ⟨hW0, hW1⟩ := hW; go_simp; first | done | with_reducible rfl)
            try simp only [List.getElem_toArray, List.getElem_cons_succ, List.getElem_cons_zero, Act.put, List.setIfInBounds_toArray, List.set_cons_zero, List.set_cons_succ]
            refine wpAnyH_take (i := 9) (v := ?vd9) rfl (by kernel_rfl) (by kernel_rfl) (by kernel_rfl) (fun _ _ _ h => h) (Or.inl ⟨by rfl, ?yd9⟩) hHeld ?rd9
            case yd9 => (intro W hW; obtain ⟨hW0, hW1⟩ := hW; go_simp; first | done | with_reducible rfl)
            try simp only [List.getElem_toArray, List.getElem_cons_succ, List.getElem_cons_zero, Act.put, List.setIfInBounds_toArray, List.set_cons_zero, List.set_cons_succ]
            refine wpAnyH_take (i := 10) (v := ?vd10) rfl (by kernel_rfl) (by kernel_rfl) (by kernel_rfl) (fun _ _ _ h => h) (Or.inl ⟨by rfl, ?yd10⟩) hHeld ?rd10
            case yd10 => (intro W hW; obtain ⟨hW0, hW1⟩ := hW; go_simp; first | done | with_reducible rfl)
            try simp only [List.getElem_toArray, List.getElem_cons_succ, List.getElem_cons_zero, Act.put, List.setIfInBounds_toArray, List.set_cons_zero, List.set_cons_succ]
            refine wpAnyH_take (i := 11) (v := ?vd11) rfl (by kernel_rfl) (by kernel_rfl) (by kernel_rfl) (fun _ _ _ h => h) (Or.inl ⟨by rfl, ?yd11⟩) hHeld ?rd11
            case yd11 => (intro W hW; obtain ⟨hW0, hW1⟩ := hW; go_simp; first | done | with_reducible rfl)
            try simp only [List.getElem_toArray, List.getElem_cons_succ, List.getElem_cons_zero, Act.put, List.setIfInBounds_toArray, List.set_cons_zero, List.set_cons_succ]
            refine wpAnyH_take (i := 12) (v := ?vd12) rfl (by kernel_rfl) (by kernel_rfl) (by kernel_rfl) (fun _ _ _ h => h) (Or.inl ⟨by rfl, ?yd12⟩) hHeld ?rd12
            case yd12 => (intro W hW; obtain ⟨hW0, hW1⟩ := hW; go_simp; first | done | with_reducible rfl)
            try simp only [List.getElem_toArray, List.getElem_cons_succ, List.getElem_cons_zero, Act.put, List.setIfInBounds_toArray, List.set_cons_zero, List.set_cons_succ]
            refine wpAnyH_take (i := 13) (v := ?vd13) rfl (by kernel_rfl) (by kernel_rfl) (by kernel_rfl) (fun _ _ _ h => h) (Or.inl ⟨by rfl, ?yd13⟩) hHeld ?rd13
            case yd13 => (intro W hW; obtain ⟨hW0, hW1⟩ := hW; go_simp; first | done | with_reducible rfl)
            try simp only [List.getElem_toArray, List.getElem_cons_succ, List.getElem_cons_zero, Act.put, List.setIfInBounds_toArray, List.set_cons_zero, List.set_cons_succ]
            refine wpAnyH_done (by kernel_rfl) ?_ _
            clear hHeld
            go_wp2_with (at_builtin; have _t := Hrun; refine wpList_append_eq rfl (.tmp 69) (.tmp 71) 22 rfl _ _ _ _ rfl rfl Hrun.out ?_; clear _t Hrun)
            go_roundw
            case rel => exact ⟨k + 1, by go_num, by omega, by rw [HT2.out, HSV.out]; exact HO7.out, HB7.out⟩
            case measure => simp [intOf]; omega
        · obtain rfl : k = nu := by omega
          have hoi := HOI.out
          rw [show (levL q (l + 1)).take k = levL q (l + 1) from List.take_of_length_le (by rw [← HNU.out]; omega)] at hoi
          have HOI1 := Lib.hid hoi
          have hfq := HFQ.out.below HBQ.out (Nat.le_refl _)
          have HCHq := Lib.hid (HCH.out wq.drew hfq.drew)
          clear hoi hfq
          obtain ⟨ow, how⟩ : ∃ ow, ow = own cs n s := ⟨_, rfl⟩
          rw [← how] at HCHq hsb0 hsb3
          obtain ⟨z, hzz⟩ : ∃ z, z = sortB cs n ow := ⟨_, rfl⟩
          rw [← hzz] at HCHq hsb0 hsb3
          have HZZ := Lib.hid (hzz.trans (by rw [how]))
          clear how hzz kq
          go_wp2_with fail
          refine wp_region_held_drew (S := fun W => W.cell? ⟨w.heap.size, 0, none⟩ = some (.slice A q c) ∧ W.cell? ⟨w.heap.size, 1, none⟩ = some (.int .i64 mm) ∧ W.cell? ⟨gs, i, none⟩ = some (.int .i64 s)) (by kernel_rfl) ⟨t0, t1, ts⟩ (fun hHeld => ?_)
          refine wpAnyH_take (i := 0) (v := ?ve0) rfl (by kernel_rfl) (by kernel_rfl) (by kernel_rfl) (fun _ _ _ h => h) (Or.inl ⟨by rfl, ?ye0⟩) hHeld ?re0
          case ye0 => (intro W hW; obtain ⟨hW0, hW1, hW2⟩ := hW; go_simp; first | done | with_reducible rfl)
          try simp only [List.getElem_toArray, List.getElem_cons_zero, Act.put, List.setIfInBounds_toArray, List.set_cons_zero, List.set_cons_succ]
          refine wpAnyH_take (i := 1) (v := ?ve1) rfl (by kernel_rfl) (by kernel_rfl) (by kernel_rfl) (fun _ _ _ h => h) (Or.inl ⟨by rfl, ?ye1⟩) hHeld ?re1
          case ye1 => (intro W hW; obtain ⟨hW0, hW1, hW2⟩ := hW; go_simp; first | done | with_reducible rfl)
          try simp only [List.getElem_toArray, List.getElem_cons_succ, List.getElem_cons_zero, Act.put, List.setIfInBounds_toArray, List.set_cons_zero, List.set_cons_succ]
          refine wpAnyH_take (i := 2) (v := ?ve2) rfl (by kernel_rfl) (by kernel_rfl) (by kernel_rfl) (fun _ _ _ h => h) (Or.inl ⟨by rfl, ?ye2⟩) hHeld ?re2
          case ye2 => (intro W hW; obtain ⟨hW0, hW1, hW2⟩ := hW; go_simp; first | done | with_reducible rfl)
          try simp only [List.getElem_toArray, List.getElem_cons_succ, List.getElem_cons_zero, Act.put, List.setIfInBounds_toArray, List.set_cons_zero, List.set_cons_succ]
          refine wpAnyH_take (i := 3) (v := ?ve3) rfl (by kernel_rfl) (by kernel_rfl) (by kernel_rfl) (fun _ _ _ h => h) (Or.inl ⟨by rfl, ?ye3⟩) hHeld ?re3
          case ye3 => (intro W hW; obtain ⟨hW0, hW1, hW2⟩ := hW; go_simp; first | done | with_reducible rfl)
          try simp only [List.getElem_toArray, List.getElem_cons_succ, List.getElem_cons_zero, Act.put, List.setIfInBounds_toArray, List.set_cons_zero, List.set_cons_succ]
          refine wpAnyH_take (i := 4) (v := ?ve4) rfl (by kernel_rfl) (by kernel_rfl) (by kernel_rfl) (fun _ _ _ h => h) (Or.inl ⟨by rfl, ?ye4⟩) hHeld ?re4
          case ye4 => (intro W hW; obtain ⟨hW0, hW1, hW2⟩ := hW; go_simp; first | done | with_reducible rfl)
          try simp only [List.getElem_toArray, List.getElem_cons_succ, List.getElem_cons_zero, Act.put, List.setIfInBounds_toArray, List.set_cons_zero, List.set_cons_succ]
          refine wpAnyH_take (i := 5) (v := ?ve5) rfl (by kernel_rfl) (by kernel_rfl) (by kernel_rfl) (fun _ _ _ h => h) (Or.inl ⟨by rfl, ?ye5⟩) hHeld ?re5
          case ye5 => (intro W hW; obtain ⟨hW0, hW1, hW2⟩ := hW; go_simp; first | done | with_reducible rfl)
          try simp only [List.getElem_toArray, List.getElem_cons_succ, List.getElem_cons_zero, Act.put, List.setIfInBounds_toArray, List.set_cons_zero, List.set_cons_succ]
          refine wpAnyH_ready (rs := [6]) (by kernel_rfl) (by simp) ?_
          refine AllReadyH.cons rfl (fun K hK => ?_) (AllReadyH.nil)
          go_simp
          refine HCHq.out.mono ?_
          rintro e9 w6 ⟨rfl, hb6⟩
          have k6 := Keeps.of_below hb6
          have HB6 := Lib.hid (HBQ.out.drew.trans (hb6.mono hzq))
          have HOI6 := Lib.hid (HOI1.out.below ((Below.refl wq.heap.size wq).drew.trans hb6))
          clear hb6
          refine hK.out _ _ (⟨k6 _ _ t0, k6 _ _ t1, k6 _ _ ts⟩) (fun hHeld => ?_)
          clear hK K
          try simp only [List.getElem_toArray, List.getElem_cons_succ, List.getElem_cons_zero, Act.put, List.setIfInBounds_toArray, List.set_cons_zero, List.set_cons_succ]
          refine wpAnyH_take (i := 7) (v := ?ve7) rfl (by kernel_rfl) (by kernel_rfl) (by kernel_rfl) (fun _ _ _ h => h) (Or.inl ⟨by rfl, ?ye7⟩) hHeld ?re7
          case ye7 => (intro W hW; obtain ⟨hW0, hW1, hW2⟩ := hW; go_simp; first | done | with_reducible rfl)
          try simp only [List.getElem_toArray, List.getElem_cons_succ, List.getElem_cons_zero, Act.put, List.setIfInBounds_toArray, List.set_cons_zero, List.set_cons_succ]
          refine wpAnyH_take (i := 8) (v := ?ve8) rfl (by kernel_rfl) (by kernel_rfl) (by kernel_rfl) (fun _ _ _ h => h) (Or.inl ⟨by rfl, ?ye8⟩) hHeld ?re8
          case ye8 => (intro W hW; obtain ⟨hW0, hW1, hW2⟩ := hW; go_simp; first | done | with_reducible rfl)
          try simp only [List.getElem_toArray, List.getElem_cons_succ, List.getElem_cons_zero, Act.put, List.setIfInBounds_toArray, List.set_cons_zero, List.set_cons_succ]
          refine wpAnyH_take (i := 9) (v := ?ve9) rfl (by kernel_rfl) (by kernel_rfl) (by kernel_rfl) (fun _ _ _ h => h) (Or.inl ⟨by rfl, ?ye9⟩) hHeld ?re9
          case ye9 => (intro W hW; obtain ⟨hW0, hW1, hW2⟩ := hW; go_simp; first | done | with_reducible rfl)
          try simp only [List.getElem_toArray, List.getElem_cons_succ, List.getElem_cons_zero, Act.put, List.setIfInBounds_toArray, List.set_cons_zero, List.set_cons_succ]
          refine wpAnyH_take (i := 10) (v := ?ve10) rfl (by kernel_rfl) (by kernel_rfl) (by kernel_rfl) (fun _ _ _ h => h) (Or.inl ⟨by rfl, ?ye10⟩) hHeld ?re10
          case ye10 => (intro W hW; obtain ⟨hW0, hW1, hW2⟩ := hW; go_simp; first | done | with_reducible rfl)
          try simp only [List.getElem_toArray, List.getElem_cons_succ, List.getElem_cons_zero, Act.put, List.setIfInBounds_toArray, List.set_cons_zero, List.set_cons_succ]
          refine wpAnyH_take (i := 11) (v := ?ve11) rfl (by kernel_rfl) (by kernel_rfl) (by kernel_rfl) (fun _ _ _ h => h) (Or.inl ⟨by rfl, ?ye11⟩) hHeld ?re11
          case ye11 => (intro W hW; obtain ⟨hW0, hW1, hW2⟩ := hW; go_simp; first | done | with_reducible rfl)
          try simp only [List.getElem_toArray, List.getElem_cons_succ, List.getElem_cons_zero, Act.put, List.setIfInBounds_toArray, List.set_cons_zero, List.set_cons_succ]
          refine wpAnyH_done (by kernel_rfl) ?_ _
          have ts6 := hHeld.2.2
          clear hHeld
          clear t0 t1 ts k6
          have hz6 := HB6.out.size
          go_wp2_with fail
          go_loopw [12, 17] (fun v j wq => ∃ k : Nat, j = .int .i64 k ∧ k ≤ m ∧ OI wr.heap.size wq v ((levL q (l + 1)).map (scanC cs n s) ++ (List.range k).map (fun k => if k = i then z else 1000000)) ∧ Below wr.heap.size wr wq) (fun _ j _ => m - (intOf j).toNat)
          case atStart => exact ⟨0, rfl, Nat.zero_le _, by simpa using HOI6.out, HB6.out⟩
          case round =>
            obtain ⟨j, rfl, hj, hoi, hbq⟩ := hrel
            rename World => wy
            have HOIy := Lib.hid hoi
            have HBY := Lib.hid hbq
            have hzy := hbq.size
            clear hoi hbq HOI6 HB6
            by_cases hjm : j < m
            · have hsn : (levL q (l + 1)).map (scanC cs n s) ++ (List.range (j + 1)).map (fun k => if k = i then z else 1000000) = ((levL q (l + 1)).map (scanC cs n s) ++ (List.range j).map (fun k => if k = i then z else 1000000)) ++ [if j = i then z else 1000000] := by
                rw [List.range_succ, List.map_append, List.append_assoc]; rfl
              have hln : ((levL q (l + 1)).map (scanC cs n s) ++ (List.range j).map (fun k => if k = i then z else 1000000)).length ≤ 1000 := by
                rw [List.length_append, List.length_map, List.length_map, List.length_range, ← HNU.out]; omega
              have j0 : (0 : Int) ≤ (j : Int) := by omega
              have j1 : (j : Int) < (m : Int) := by omega
              by_cases hji : j = i
              · rw [if_pos hji] at hsn
                have HSN := Lib.hid hsn
                have d1 : ((j : Int) == (i : Int)) = true := by simp; omega
                obtain ⟨v', w7, hrun, ho7, hb7⟩ := oi_append z HOIy.out (by constructor <;> omega) (by omega) hzy
                have HO7 := Lib.hid ho7
                have HB7 := Lib.hid (HBY.out.trans hb7)
                have Hrun := Lib.hid hrun
                clear hsn hrun ho7 hb7 hln hji
                go_wp2_with (at_builtin; have _t := Hrun; refine wpList_append_eq rfl (.tmp 93) (.tmp 95) 22 rfl _ _ _ _ rfl rfl Hrun.out ?_; clear _t Hrun)
                go_roundw
                case rel => exact ⟨j + 1, by go_num, by omega, by rw [HSN.out]; exact HO7.out, HB7.out⟩
                case measure => simp [intOf]; omega
              · rw [if_neg hji] at hsn
                have HSN := Lib.hid hsn
                have d1 : ((j : Int) == (i : Int)) = false := by simp; omega
                obtain ⟨v', w7, hrun, ho7, hb7⟩ := oi_append 1000000 HOIy.out (by constructor <;> omega) (by omega) hzy
                have HO7 := Lib.hid ho7
                have HB7 := Lib.hid (HBY.out.trans hb7)
                have Hrun := Lib.hid hrun
                clear hsn hrun ho7 hb7 hln hji
                go_wp2_with (at_builtin; have _t := Hrun; refine wpList_append_eq rfl (.tmp 93) (.tmp 95) 22 rfl _ _ _ _ rfl rfl Hrun.out ?_; clear _t Hrun)
                go_roundw
                case rel => exact ⟨j + 1, by go_num, by omega, by rw [HSN.out]; exact HO7.out, HB7.out⟩
                case measure => simp [intOf]; omega
            · obtain rfl : j = m := by omega
              have hoi := HOIy.out
              rw [HZZ.out, HRE.out] at hoi
              have hby := HBY.out
              have homy := HOM.out.below hby
              have hcl2 : ((costM cs n l).take i).length ≤ 1000 := by rw [List.length_take, costM_len, hcl, ← HM.out]; omega
              obtain ⟨Pr, cr, hvr, -, -, -, -⟩ := hoi.form
              subst hvr
              obtain ⟨v', w7, hrun, ho7, hb7⟩ := om_append homy (hoi.mono hz) (HOM.out.apart_new hoi (Nat.le_refl _)) hcl2 (Nat.le_trans hz hzy)
              rw [← HTK.out] at ho7
              have HO7 := Lib.hid ho7
              have HB7 := Lib.hid ((HB.out.trans (hby.mono hz)).trans hb7)
              have Hrun := Lib.hid hrun
              clear hoi hby homy hcl2 hrun ho7 hb7 ts6
              go_wp2_with (at_builtin; have _t := Hrun; refine wpList_append_eq rfl (.tmp 97) (.tmp 99) 35 rfl _ _ _ _ rfl rfl Hrun.out ?_; clear _t Hrun)
              go_roundw
              case rel => exact ⟨i + 1, _, by go_num, by omega, HO7.out, HB7.out⟩
              case measure => simp [intOf]; omega
    · obtain rfl : i = m := by omega
      have hom := HOM.out
      rw [show (costM cs n l).take i = costM cs n l from List.take_of_length_le (by rw [costM_len, hcl, ← HM.out]; omega)] at hom
      obtain ⟨AM, cAM, rfl, hmat⟩ := hom.mat
      have hml : (costM cs n l).length = i := by rw [costM_len, hcl, ← HM.out]
      rw [hml] at hmat ⊢
      have HAS := Lib.hid (rAssign_any AM i cAM (costM cs n l) wr hmat (by omega) (fun r hr => by rw [costM_rows r hr, hcl, ← HNU.out, ← HM.out]; omega))
      have hok := costM_ok HG.out (l := l) (by rw [hcl]; exact HLL.out)
      have HTO := Lib.hid (toL_ok hok)
      have hpl := pick_len HG.out (l := l) (by rw [hcl]; exact HLL.out)
      rw [hcl, ← HM.out] at hpl
      have hfs1 := (fst1_spec hok).2.2
      rw [costM_wid HG.out (by rw [hcl]; exact HLL.out), hcl, ← HM.out, ← HNU.out] at hfs1
      have HPLN := Lib.hid hpl
      have HFS1 := Lib.hid hfs1
      have HBW := Lib.hid (HB3.out.trans (HB.out.mono hz3))
      have hxr := HX3.out.keep (Keeps.of_below HB.out)
      have HXR := Lib.hid hxr
      have HNSr := Lib.hid (HNS.out.keep (Keeps.of_below HB.out))
      have HNAr := Lib.hid (HNA.out.keep (Keeps.of_below HB.out))
      clear hom hmat hml hok hpl hfs1 hxr
      go_wp2_with fail
      refine HAS.out.mono ?_
      rintro e w5 ⟨vt, rfl, hot, hb5⟩
      rw [HTO.out] at hot
      obtain ⟨PT, cT, rfl, -, -, hnt, -⟩ := hot.form
      have htl : ((fst1 (costM cs n l) 0).map fun (k : Nat) => (k : Int)).length = i := by rw [List.length_map, HPLN.out]
      obtain ⟨PT', cT', eS, -, -, h3⟩ := own_form hot.1
      injection eS with eS e8 e9
      obtain ⟨gt, egt, -, -⟩ := h3 (by rw [htl]; omega)
      rw [← eS] at egt
      subst egt
      clear eS e8 e9 h3
      rw [htl] at hnt ⊢
      have HNT := Lib.hid hnt
      have HB5 := Lib.hid (HBW.out.trans (hb5.mono HBW.out.size))
      have HX5 := Lib.hid (HXR.out.keep (Keeps.of_below hb5))
      have HNS5 := Lib.hid (HNSr.out.keep (Keeps.of_below hb5))
      have HNA5 := Lib.hid (HNAr.out.keep (Keeps.of_below hb5))
      have HF5 := Lib.hid (HF.out.below HB5.out (Nat.le_refl _))
      have hz5 := HB5.out.size
      clear hnt htl hb5 hot
      go_wp2_with fail
      go_loopw [22, 23] (fun v j wy => ∃ k : Nat, j = .int .i64 k ∧ k ≤ i ∧ OE w5.heap.size wy v ((edsM cs n l).take k) ∧ Below w5.heap.size w5 wy) (fun _ j _ => i - (intOf j).toNat)
      case atStart => exact ⟨0, rfl, Nat.zero_le _, OE.nil _ _, Below.refl _ _⟩
      case round =>
        obtain ⟨k, rfl, hk, hoe, hby⟩ := hrel
        rename World => wy
        have HOE := Lib.hid hoe
        have HBY := Lib.hid hby
        have hzy := hby.size
        have ky := Keeps.of_below hby
        clear hoe hby
        by_cases hki : k < i
        · obtain ⟨ad, tz, e5, htz, -, hct⟩ := (HNT.out.keep ky).at_ hki
          injection e5 with e5
          subst e5
          rw [add0] at hct
          obtain ⟨ad, s, e5, hs, -, hcs⟩ := (HNS5.out.keep ky).at_ hki
          injection e5 with e5
          subst e5
          rw [add0] at hcs
          rw [List.getElem?_map] at htz
          obtain ⟨kk, hkk, rfl⟩ : ∃ kk : Nat, (fst1 (costM cs n l) 0)[k]? = some kk ∧ tz = (kk : Int) := by
            cases hc : (fst1 (costM cs n l) 0)[k]? with
            | none => rw [hc] at htz; simp at htz
            | some kk => rw [hc] at htz; simp at htz; exact ⟨kk, rfl, htz.symm⟩
          have hkb := HFS1.out kk (List.mem_of_getElem? hkk)
          have hs' := hs
          rw [← hcl] at hs'
          have heds := edsM_of (n := n) hs' hkk
          have htk : (edsM cs n l).take (k + 1) = (edsM cs n l).take k ++ [edM cs n l s kk] := by rw [List.take_add_one, heds]; rfl
          have hlen : ((edsM cs n l).take k).length + 1 ≤ 1000 := by rw [List.length_take]; omega
          have hxr := HX5.out.keep ky
          have v0 : wy.cell? ⟨w.heap.size, 0, none⟩ = some (.slice A q c) := hxr 0 _ rfl
          have v1 : wy.cell? ⟨w.heap.size, 1, none⟩ = some (.int .i64 mm) := hxr 1 _ rfl
          have k0 : (0 : Int) ≤ (k : Int) := by omega
          have k1 : (k : Int) < (i : Int) := by omega
          by_cases hkn : kk < nu
          · obtain ⟨ad, p, e5, hp, -, hcp⟩ := (HNA5.out.keep ky).at_ hkn
            injection e5 with e5
            subst e5
            rw [add0] at hcp
            have hed : edM cs n l s kk = ⟨s, p, true⟩ := by
              unfold edM
              rw [if_pos (by rw [hcl, ← HNU.out]; exact hkn), hcl, List.getD_eq_getElem?_getD, hp]; rfl
            rw [hed] at htk
            have HTK := Lib.hid htk
            obtain ⟨v', w7, hrun, hoe7, -, hb7⟩ := oe_push ⟨s, p, true⟩ (HOE.out.below (Below.refl wy.heap.size wy).drew) (OI.nil wy.heap.size wy.drew) hlen (show w5.heap.size ≤ wy.drew.heap.size from hzy)
            rw [← htk] at hoe7
            have HOE7 := Lib.hid hoe7
            have hb57 : Below w5.heap.size w5 w7 := HBY.out.drew.trans hb7
            have HB7 := Lib.hid hb57
            have Hrun := Lib.hid hrun
            have kkz : (kk : Int) < (nu : Int) := by omega
            have kk0 : (0 : Int) ≤ (kk : Int) := by omega
            obtain ⟨ad, tz, e5, htz5, -, hct5⟩ := HNT.out.at_ hki
            injection e5 with e5
            subst e5
            rw [add0] at hct5
            rw [List.getElem?_map, hkk] at htz5
            simp at htz5
            subst htz5
            obtain ⟨ad, s', e5, hs5, -, hcs5⟩ := HNS5.out.at_ hki
            injection e5 with e5
            subst e5
            rw [add0] at hcs5
            rw [hs] at hs5
            injection hs5 with hs5
            subst hs5
            obtain ⟨ad, p', e5, hp5, -, hcp5⟩ := HNA5.out.at_ hkn
            injection e5 with e5
            subst e5
            rw [add0] at hcp5
            rw [hp] at hp5
            injection hp5 with hp5
            subst hp5
            have k7 := Keeps.of_below hb57
            have kal : Keeps wy.drew (wy.drew.alloc (.cells #[.int .i64 s, .int .i64 p, .bool true] 42)) := Keeps.of_below (below_box _ _)
            have HC7 := Lib.hid (And.intro (k7 _ _ hct5) (And.intro (k7 _ _ hcs5) (k7 _ _ hcp5)))
            have HCA := Lib.hid (And.intro (kal _ _ hct) (And.intro (kal _ _ hcs) (kal _ _ hcp)))
            clear htz hs hkk hs' heds htk hp hed hrun hoe7 hb7 hb57 hct5 hcs5 hcp5 k7 kal ky hxr v0 v1
            go_wp2_with fail
            refine wp_region_held_drew (S := fun W => W.cell? ⟨gt, k, none⟩ = some (.int .i64 kk) ∧ W.cell? ⟨gs, k, none⟩ = some (.int .i64 s) ∧ W.cell? ⟨ga, kk, none⟩ = some (.int .i64 p)) (by kernel_rfl) ⟨hct, hcs, hcp⟩ (fun hHeld => ?_)
            refine wpAnyH_take (i := 0) (v := ?vf0) rfl (by kernel_rfl) (by kernel_rfl) (by kernel_rfl) (fun _ _ _ h => h) (Or.inl ⟨by rfl, ?yf0⟩) hHeld ?rf0
            case yf0 => (intro W hW; obtain ⟨hW0, hW1, hW2⟩ := hW; go_simp; first | done | with_reducible rfl)
            try simp only [List.getElem_toArray, List.getElem_cons_zero, Act.put, List.setIfInBounds_toArray, List.set_cons_zero, List.set_cons_succ]
            refine wpAnyH_take (i := 1) (v := ?vf1) rfl (by kernel_rfl) (by kernel_rfl) (by kernel_rfl) (fun _ _ _ h => h) (Or.inl ⟨by rfl, ?yf1⟩) hHeld ?rf1
            case yf1 => (intro W hW; obtain ⟨hW0, hW1, hW2⟩ := hW; go_simp; first | done | with_reducible rfl)
            try simp only [List.getElem_toArray, List.getElem_cons_succ, List.getElem_cons_zero, Act.put, List.setIfInBounds_toArray, List.set_cons_zero, List.set_cons_succ]
            refine wpAnyH_take (i := 2) (v := ?vf2) rfl (by kernel_rfl) (by kernel_rfl) (by kernel_rfl) (fun _ _ _ h => h) (Or.inl ⟨by rfl, ?yf2⟩) hHeld ?rf2
            case yf2 => (intro W hW; obtain ⟨hW0, hW1, hW2⟩ := hW; go_simp; first | done | with_reducible rfl)
            try simp only [List.getElem_toArray, List.getElem_cons_succ, List.getElem_cons_zero, Act.put, List.setIfInBounds_toArray, List.set_cons_zero, List.set_cons_succ]
            refine wpAnyH_take (i := 3) (v := ?vf3) rfl (by kernel_rfl) (by kernel_rfl) (by kernel_rfl) (fun _ _ _ h => h) (Or.inl ⟨by rfl, ?yf3⟩) hHeld ?rf3
            case yf3 => (intro W hW; obtain ⟨hW0, hW1, hW2⟩ := hW; go_simp; first | done | with_reducible rfl)
            try simp only [List.getElem_toArray, List.getElem_cons_succ, List.getElem_cons_zero, Act.put, List.setIfInBounds_toArray, List.set_cons_zero, List.set_cons_succ]
            refine wpAnyH_take (i := 4) (v := ?vf4) rfl (by kernel_rfl) (by kernel_rfl) (by kernel_rfl) (fun _ _ _ h => h) (Or.inl ⟨by rfl, ?yf4⟩) hHeld ?rf4
            case yf4 => (intro W hW; obtain ⟨hW0, hW1, hW2⟩ := hW; go_simp; first | done | with_reducible rfl)
            try simp only [List.getElem_toArray, List.getElem_cons_succ, List.getElem_cons_zero, Act.put, List.setIfInBounds_toArray, List.set_cons_zero, List.set_cons_succ]
            refine wpAnyH_take (i := 5) (v := ?vf5) rfl (by kernel_rfl) (by kernel_rfl) (by kernel_rfl) (fun _ _ _ h => h) (Or.inl ⟨by rfl, ?yf5⟩) hHeld ?rf5
            case yf5 => (intro W hW; obtain ⟨hW0, hW1, hW2⟩ := hW; go_simp; first | done | with_reducible rfl)
            try simp only [List.getElem_toArray, List.getElem_cons_succ, List.getElem_cons_zero, Act.put, List.setIfInBounds_toArray, List.set_cons_zero, List.set_cons_succ]
            refine wpAnyH_take (i := 6) (v := ?vf6) rfl (by kernel_rfl) (by kernel_rfl) (by kernel_rfl) (fun _ _ _ h => h) (Or.inl ⟨by rfl, ?yf6⟩) hHeld ?rf6
            case yf6 => (intro W hW; obtain ⟨hW0, hW1, hW2⟩ := hW; go_simp; first | done | with_reducible rfl)
            try simp only [List.getElem_toArray, List.getElem_cons_succ, List.getElem_cons_zero, Act.put, List.setIfInBounds_toArray, List.set_cons_zero, List.set_cons_succ]
            refine wpAnyH_take (i := 7) (v := ?vf7) rfl (by kernel_rfl) (by kernel_rfl) (by kernel_rfl) (fun _ _ _ h => h) (Or.inl ⟨by rfl, ?yf7⟩) hHeld ?rf7
            case yf7 => (intro W hW; obtain ⟨hW0, hW1, hW2⟩ := hW; go_simp; first | done | with_reducible rfl)
            try simp only [List.getElem_toArray, List.getElem_cons_succ, List.getElem_cons_zero, Act.put, List.setIfInBounds_toArray, List.set_cons_zero, List.set_cons_succ]
            refine wpAnyH_take (i := 8) (v := ?vf8) rfl (by kernel_rfl) (by kernel_rfl) (by kernel_rfl) (fun _ _ _ h => h) (Or.inl ⟨by rfl, ?yf8⟩) hHeld ?rf8
            case yf8 => (intro W hW; obtain ⟨hW0, hW1, hW2⟩ := hW; go_simp; first | done | with_reducible rfl)
            try simp only [List.getElem_toArray, List.getElem_cons_succ, List.getElem_cons_zero, Act.put, List.setIfInBounds_toArray, List.set_cons_zero, List.set_cons_succ]
            refine wpAnyH_take (i := 9) (v := ?vf9) rfl (by kernel_rfl) (by kernel_rfl) (by kernel_rfl) (fun _ _ _ h => h) (Or.inl ⟨by rfl, ?yf9⟩) hHeld ?rf9
            case yf9 => (intro W hW; obtain ⟨hW0, hW1, hW2⟩ := hW; go_simp; first | done | with_reducible rfl)
            try simp only [List.getElem_toArray, List.getElem_cons_succ, List.getElem_cons_zero, Act.put, List.setIfInBounds_toArray, List.set_cons_zero, List.set_cons_succ]
            refine wpAnyH_take (i := 10) (v := ?vf10) rfl (by kernel_rfl) (by kernel_rfl) (by kernel_rfl) (fun _ _ _ h => h) (Or.inl ⟨by rfl, ?yf10⟩) hHeld ?rf10
            case yf10 => (intro W hW; obtain ⟨hW0, hW1, hW2⟩ := hW; go_simp; first | done | with_reducible rfl)
            try simp only [List.getElem_toArray, List.getElem_cons_succ, List.getElem_cons_zero, Act.put, List.setIfInBounds_toArray, List.set_cons_zero, List.set_cons_succ]
            refine wpAnyH_take (i := 11) (v := ?vf11) rfl (by kernel_rfl) (by kernel_rfl) (by kernel_rfl) (fun _ _ _ h => h) (Or.inl ⟨by rfl, ?yf11⟩) hHeld ?rf11
            case yf11 => (intro W hW; obtain ⟨hW0, hW1, hW2⟩ := hW; go_simp; first | done | with_reducible rfl)
            try simp only [List.getElem_toArray, List.getElem_cons_succ, List.getElem_cons_zero, Act.put, List.setIfInBounds_toArray, List.set_cons_zero, List.set_cons_succ]
            refine wpAnyH_take (i := 12) (v := ?vf12) rfl (by kernel_rfl) (by kernel_rfl) (by kernel_rfl) (fun _ _ _ h => h) (Or.inl ⟨by rfl, ?yf12⟩) hHeld ?rf12
            case yf12 => (intro W hW; obtain ⟨hW0, hW1, hW2⟩ := hW; go_simp; first | done | with_reducible rfl)
            try simp only [List.getElem_toArray, List.getElem_cons_succ, List.getElem_cons_zero, Act.put, List.setIfInBounds_toArray, List.set_cons_zero, List.set_cons_succ]
            refine wpAnyH_ready (rs := [13]) (by kernel_rfl) (by simp) ?_
            refine AllReadyH.cons rfl (fun K hK => ?_) (AllReadyH.nil)
            go_simp
            refine hK.out _ _ (HCA.out) (fun hHeld => ?_)
            clear hK K
            try simp only [List.getElem_toArray, List.getElem_cons_succ, List.getElem_cons_zero, Act.put, List.setIfInBounds_toArray, List.set_cons_zero, List.set_cons_succ]
            refine wpAnyH_ready (rs := [14]) (by kernel_rfl) (by simp) ?_
            refine AllReadyH.cons rfl (fun K hK => ?_) (AllReadyH.nil)
            rw [if_pos (by rfl)]
            refine oper_append (.tmp 120) (.tmp 133) 30 rfl _ _ _ _ rfl rfl Hrun.out ?_
            refine hK.out _ _ (HC7.out) (fun hHeld => ?_)
            clear hK K
            try simp only [List.getElem_toArray, List.getElem_cons_succ, List.getElem_cons_zero, Act.put, List.setIfInBounds_toArray, List.set_cons_zero, List.set_cons_succ]
            refine wpAnyH_take (i := 15) (v := ?vf15) rfl (by kernel_rfl) (by kernel_rfl) (by kernel_rfl) (fun _ _ _ h => h) (Or.inl ⟨by rfl, ?yf15⟩) hHeld ?rf15
            case yf15 => (intro W hW; obtain ⟨hW0, hW1, hW2⟩ := hW; go_simp; first | done | with_reducible rfl)
            try simp only [List.getElem_toArray, List.getElem_cons_succ, List.getElem_cons_zero, Act.put, List.setIfInBounds_toArray, List.set_cons_zero, List.set_cons_succ]
            refine wpAnyH_done (by kernel_rfl) ?_ _
            clear hHeld
            clear hct hcs hcp
            go_wp2
            go_roundw
            case rel => exact ⟨k + 1, by go_num, by omega, HOE7.out, HB7.out⟩
            case measure => simp [intOf]; omega
          · have hed : edM cs n l s kk = ⟨s, own cs n s, false⟩ := by
              unfold edM
              rw [if_neg (by rw [hcl, ← HNU.out]; exact hkn)]
            rw [hed] at htk
            obtain ⟨-, -, hss, hne, -, -⟩ := HFS.out s (List.mem_of_getElem? hs)
            have hfy := HF5.out.below HBY.out (Nat.le_refl _)
            have HCH := Lib.hid (rChe_any A q c mm cs n s wy.drew hfy.drew hss hne)
            obtain ⟨ow, how⟩ : ∃ ow, ow = own cs n s := ⟨_, rfl⟩
            rw [← how] at HCH htk
            obtain ⟨z, hzz⟩ : ∃ z, z = sortB cs n ow := ⟨_, rfl⟩
            rw [← hzz] at HCH
            have HTK := Lib.hid htk
            have kkz : ¬ (kk : Int) < (nu : Int) := by omega
            have kkd : decide ((kk : Int) < (nu : Int)) = false := by simp; omega
            clear htz hs hkk hs' heds htk hed hss hne hfy how hzz ky hxr
            go_wp2_with fail
            refine wp_region_held_drew (S := fun W => W.cell? ⟨w.heap.size, 0, none⟩ = some (.slice A q c) ∧ W.cell? ⟨w.heap.size, 1, none⟩ = some (.int .i64 mm) ∧ W.cell? ⟨gs, k, none⟩ = some (.int .i64 s)) (by kernel_rfl) ⟨v0, v1, hcs⟩ (fun hHeld => ?_)
            refine wpAnyH_take (i := 0) (v := ?vg0) rfl (by kernel_rfl) (by kernel_rfl) (by kernel_rfl) (fun _ _ _ h => h) (Or.inl ⟨by rfl, ?yg0⟩) hHeld ?rg0
            case yg0 => (intro W hW; obtain ⟨hW0, hW1, hW2⟩ := hW; go_simp; first | done | with_reducible rfl)
            try simp only [List.getElem_toArray, List.getElem_cons_zero, Act.put, List.setIfInBounds_toArray, List.set_cons_zero, List.set_cons_succ]
            refine wpAnyH_take (i := 1) (v := ?vg1) rfl (by kernel_rfl) (by kernel_rfl) (by kernel_rfl) (fun _ _ _ h => h) (Or.inl ⟨by rfl, ?yg1⟩) hHeld ?rg1
            case yg1 => (intro W hW; obtain ⟨hW0, hW1, hW2⟩ := hW; go_simp; first | done | with_reducible rfl)
            try simp only [List.getElem_toArray, List.getElem_cons_succ, List.getElem_cons_zero, Act.put, List.setIfInBounds_toArray, List.set_cons_zero, List.set_cons_succ]
            refine wpAnyH_take (i := 2) (v := ?vg2) rfl (by kernel_rfl) (by kernel_rfl) (by kernel_rfl) (fun _ _ _ h => h) (Or.inl ⟨by rfl, ?yg2⟩) hHeld ?rg2
            case yg2 => (intro W hW; obtain ⟨hW0, hW1, hW2⟩ := hW; go_simp; first | done | with_reducible rfl)
            try simp only [List.getElem_toArray, List.getElem_cons_succ, List.getElem_cons_zero, Act.put, List.setIfInBounds_toArray, List.set_cons_zero, List.set_cons_succ]
            refine wpAnyH_take (i := 3) (v := ?vg3) rfl (by kernel_rfl) (by kernel_rfl) (by kernel_rfl) (fun _ _ _ h => h) (Or.inl ⟨by rfl, ?yg3⟩) hHeld ?rg3
            case yg3 => (intro W hW; obtain ⟨hW0, hW1, hW2⟩ := hW; go_simp; first | done | with_reducible rfl)
            try simp only [List.getElem_toArray, List.getElem_cons_succ, List.getElem_cons_zero, Act.put, List.setIfInBounds_toArray, List.set_cons_zero, List.set_cons_succ]
            refine wpAnyH_take (i := 4) (v := ?vg4) rfl (by kernel_rfl) (by kernel_rfl) (by kernel_rfl) (fun _ _ _ h => h) (Or.inl ⟨by rfl, ?yg4⟩) hHeld ?rg4
            case yg4 => (intro W hW; obtain ⟨hW0, hW1, hW2⟩ := hW; go_simp; first | done | with_reducible rfl)
            try simp only [List.getElem_toArray, List.getElem_cons_succ, List.getElem_cons_zero, Act.put, List.setIfInBounds_toArray, List.set_cons_zero, List.set_cons_succ]
            refine wpAnyH_take (i := 5) (v := ?vg5) rfl (by kernel_rfl) (by kernel_rfl) (by kernel_rfl) (fun _ _ _ h => h) (Or.inl ⟨by rfl, ?yg5⟩) hHeld ?rg5
            case yg5 => (intro W hW; obtain ⟨hW0, hW1, hW2⟩ := hW; go_simp; first | done | with_reducible rfl)
            try simp only [List.getElem_toArray, List.getElem_cons_succ, List.getElem_cons_zero, Act.put, List.setIfInBounds_toArray, List.set_cons_zero, List.set_cons_succ]
            refine wpAnyH_ready (rs := [6]) (by kernel_rfl) (by simp) ?_
            refine AllReadyH.cons rfl (fun K hK => ?_) (AllReadyH.nil)
            go_simp
            refine HCH.out.mono ?_
            rintro e9 w6 ⟨rfl, hb6⟩
            have k6 := Keeps.of_below hb6
            have HB6 := Lib.hid (HBY.out.drew.trans (hb6.mono hzy))
            have HOE6 := Lib.hid (HOE.out.below ((Below.refl wy.heap.size wy).drew.trans hb6))
            clear hb6
            refine hK.out _ _ (⟨k6 _ _ v0, k6 _ _ v1, k6 _ _ hcs⟩) (fun hHeld => ?_)
            clear hK K
            try simp only [List.getElem_toArray, List.getElem_cons_succ, List.getElem_cons_zero, Act.put, List.setIfInBounds_toArray, List.set_cons_zero, List.set_cons_succ]
            refine wpAnyH_take (i := 7) (v := ?vg7) rfl (by kernel_rfl) (by kernel_rfl) (by kernel_rfl) (fun _ _ _ h => h) (Or.inl ⟨by rfl, ?yg7⟩) hHeld ?rg7
            case yg7 => (intro W hW; obtain ⟨hW0, hW1, hW2⟩ := hW; go_simp; first | done | with_reducible rfl)
            try simp only [List.getElem_toArray, List.getElem_cons_succ, List.getElem_cons_zero, Act.put, List.setIfInBounds_toArray, List.set_cons_zero, List.set_cons_succ]
            refine wpAnyH_take (i := 8) (v := ?vg8) rfl (by kernel_rfl) (by kernel_rfl) (by kernel_rfl) (fun _ _ _ h => h) (Or.inl ⟨by rfl, ?yg8⟩) hHeld ?rg8
            case yg8 => (intro W hW; obtain ⟨hW0, hW1, hW2⟩ := hW; go_simp; first | done | with_reducible rfl)
            try simp only [List.getElem_toArray, List.getElem_cons_succ, List.getElem_cons_zero, Act.put, List.setIfInBounds_toArray, List.set_cons_zero, List.set_cons_succ]
            refine wpAnyH_take (i := 9) (v := ?vg9) rfl (by kernel_rfl) (by kernel_rfl) (by kernel_rfl) (fun _ _ _ h => h) (Or.inl ⟨by rfl, ?yg9⟩) hHeld ?rg9
            case yg9 => (intro W hW; obtain ⟨hW0, hW1, hW2⟩ := hW; go_simp; first | done | with_reducible rfl)
            try simp only [List.getElem_toArray, List.getElem_cons_succ, List.getElem_cons_zero, Act.put, List.setIfInBounds_toArray, List.set_cons_zero, List.set_cons_succ]
            refine wpAnyH_take (i := 10) (v := ?vg10) rfl (by kernel_rfl) (by kernel_rfl) (by kernel_rfl) (fun _ _ _ h => h) (Or.inl ⟨by rfl, ?yg10⟩) hHeld ?rg10
            case yg10 => (intro W hW; obtain ⟨hW0, hW1, hW2⟩ := hW; go_simp; first | done | with_reducible rfl)
            try simp only [List.getElem_toArray, List.getElem_cons_succ, List.getElem_cons_zero, Act.put, List.setIfInBounds_toArray, List.set_cons_zero, List.set_cons_succ]
            refine wpAnyH_take (i := 11) (v := ?vg11) rfl (by kernel_rfl) (by kernel_rfl) (by kernel_rfl) (fun _ _ _ h => h) (Or.inl ⟨by rfl, ?yg11⟩) hHeld ?rg11
            case yg11 => (intro W hW; obtain ⟨hW0, hW1, hW2⟩ := hW; go_simp; first | done | with_reducible rfl)
            try simp only [List.getElem_toArray, List.getElem_cons_succ, List.getElem_cons_zero, Act.put, List.setIfInBounds_toArray, List.set_cons_zero, List.set_cons_succ]
            refine wpAnyH_done (by kernel_rfl) ?_ _
            have hcs6 := hHeld.2.2
            clear hHeld
            clear v0 v1 hcs hct k6
            obtain ⟨v', w7, hrun, hoe7, -, hb7⟩ := oe_push ⟨s, ow, false⟩ HOE6.out (OI.nil w6.heap.size w6) hlen HB6.out.size
            rw [← HTK.out] at hoe7
            have HOE7 := Lib.hid hoe7
            have HB7 := Lib.hid (HB6.out.trans hb7)
            have Hrun := Lib.hid hrun
            clear hrun hoe7 hb7
            go_wp2_with (at_builtin; have _t := Hrun; refine wpList_append_eq rfl (.tmp 145) (.tmp 152) 30 rfl _ _ _ _ rfl rfl Hrun.out ?_; clear _t Hrun)
            go_roundw
            case rel => exact ⟨k + 1, by go_num, by omega, HOE7.out, HB7.out⟩
            case measure => simp [intOf]; omega
        · obtain rfl : k = i := by omega
          have hel := edsM_len HG.out (l := l) (by rw [hcl]; exact HLL.out)
          have hoe := HOE.out
          rw [show (edsM cs n l).take k = edsM cs n l from List.take_of_length_le (by rw [hel, hcl, ← HM.out]; omega)] at hoe
          have HO2 := Lib.hid (hoe.mono hz5)
          have HBf := Lib.hid (HB5.out.trans (HBY.out.mono hz5))
          clear hoe hel ky
          go_wp2
          go_ret
          exact ⟨_, rfl, HO2.out, HBf.out⟩
end Go.Proofs.YtjllmladhjbnaaaGreatDoor
