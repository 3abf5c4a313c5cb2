/- The reference's plans by hashing. -/
import Derived.Test.YtjllmladhjbnaaaDoorTreP
import Derived.Test.YtjllmladhjbnaaaDoorSoA
import Derived.Test.YtjllmladhjbnaaaDoorOth
import Derived.Test.YtjllmladhjbnaaaDoorRegion
namespace Go.Proofs.YtjllmladhjbnaaaDoor
open Go.RowKit Go.Shelf
attribute [local go_sem] Oper.semAt_some
theorem treeM_at' {cs : List Int} {n : Int} {k : Nat} {s : Int} (h : (setsL cs.length)[k]? = some s) : (treeM cs n).take (k + 1) = (treeM cs n).take k ++ [treeE cs n s] := by
  rw [List.take_add_one]
  congr 1
  unfold treeM
  rw [List.getElem?_map, h]; rfl
theorem leastP_mem (f : Int → Int) (l : List Int) (h : l ≠ []) : leastP f l ∈ l := by
  unfold leastP
  rw [if_neg h]
  exact (cheapL_spec f l h).1
set_option maxRecDepth 100000 in
set_option maxHeartbeats 8000000 in
theorem rtplan_any (A : Option Addr) (q c mm : Nat) (cs : List Int) (n : Int) (w : World) (h : FQ w A q mm cs n) :
    Calls Tryd.prog 14 #[.agg #[.slice A q c, .int .i64 mm], .int .i64 n] w fun e w' => ∃ v, e = .returned v ∧ OE w.heap.size w' v (treeM cs n) ∧ Below w.heap.size w w' := by
  have hcl := h.len
  have q1 := h.q1
  have q4 := h.q4
  obtain ⟨w0, hw0⟩ : ∃ w0, w0 = w.alloc (.cells #[.slice A q c, .int .i64 mm] 25) := ⟨_, rfl⟩
  have hb0 : Below w.heap.size w w0 := by rw [hw0]; exact below_box w _
  have hx0 : Bx w0 w.heap.size #[.slice A q c, .int .i64 mm] := by rw [hw0]; exact Bx.new _ _ _
  have HS := Lib.hid (rSets_any q w0 q1 q4)
  have hsl := setsL_len q q1 q4
  obtain ⟨N, hN⟩ : ∃ N, N = 2 ^ q := ⟨_, rfl⟩
  have n16 := pow_16 q q4
  rw [← hN] at hsl n16
  have HF := Lib.hid h
  have HB0 := Lib.hid hb0
  have HX0 := Lib.hid hx0
  have HW0 := Lib.hid hw0
  have HSL := Lib.hid hsl
  have x0 : w0.cell? ⟨w.heap.size, 0, none⟩ = some (.slice A q c) := hx0 0 _ rfl
  clear h hb0 hx0 hw0 hN hsl
  go_enter Tryd.func14, Tryd.ntmps14
  go_wp2_with fail
  rw [← HW0.out]
  go_wp2_with fail
  refine HS.out.mono ?_
  rintro e w2 ⟨vs, rfl, hos, hb2⟩
  obtain ⟨PS, cS, rfl, -, -, hns, -⟩ := hos.form
  obtain ⟨PS', cS', eS, -, -, h3⟩ := own_form hos.1
  injection eS with eS e8 e9
  obtain ⟨gs, egs, -, -⟩ := h3 (by rw [HSL.out]; omega)
  rw [← eS] at egs
  subst egs
  clear eS e8 e9 h3
  rw [HSL.out] at hns ⊢
  have HNS := Lib.hid hns
  have HB2 := Lib.hid (HB0.out.trans (hb2.mono HB0.out.size))
  have HX2 := Lib.hid (HX0.out.keep (Keeps.of_below hb2))
  clear hns hb2 hos x0
  go_wp2_with fail
  go_loopw [7, 8] (fun out i wr => ∃ k : Nat, i = .int .i64 k ∧ k ≤ N ∧ OE w2.heap.size wr out ((treeM cs n).take k) ∧ Below w2.heap.size w2 wr) (fun _ i _ => N - (intOf i).toNat)
  case atStart => exact ⟨0, rfl, Nat.zero_le _, OE.nil _ _, Below.refl _ _⟩
  case round =>
    obtain ⟨i, rfl, hi, hoe, hb⟩ := hrel
    rename World => wr
    have HOE := Lib.hid hoe
    have HB := Lib.hid hb
    have hz := hb.size
    clear hoe hb
    by_cases hiN : i < N
    · have kw := Keeps.of_below HB.out
      obtain ⟨ad, s, e1, hs, -, hcs⟩ := (HNS.out.keep kw).at_ hiN
      injection e1 with e1
      subst e1
      rw [add0] at hcs
      have hsm := List.mem_of_getElem? hs
      obtain ⟨s0, s1⟩ := sets_bd q q1 q4 s hsm
      have hf15 := fullB_15 q q4
      obtain ⟨sN, hsN⟩ : ∃ sN : Nat, s = (sN : Int) := ⟨s.toNat, by omega⟩
      have hsl2 : sN < 2 ^ q := by
        have : fullB q = ((2 ^ q : Nat) : Int) - 1 := by unfold fullB; push_cast; rfl
        omega
      have HPA := Lib.hid (rPar_any sN q wr hsl2 q4)
      rw [← hsN] at HPA
      have hs' := hs
      rw [← hcl] at hs'
      have HTK := Lib.hid (treeM_at' (n := n) hs')
      have hee : treeE cs n s = ⟨s, leastP (sizeB cs n) (parL s q), false⟩ := by unfold treeE; rw [hcl]
      have HEE := Lib.hid hee
      have hlen : ((treeM cs n).take i).length ≤ 16 := by rw [List.length_take]; omega
      have HLN := Lib.hid hlen
      have hpb : ∀ x ∈ parL s q, 0 ≤ x ∧ x ≤ fullB q := fun x hx => sets_bd q q1 q4 x (par_lvl q q1 q4 s hsm x hx).2
      have HPB := Lib.hid hpb
      have i0 : (0 : Int) ≤ (i : Int) := by omega
      have i1 : (i : Int) < (N : Int) := by omega
      have HCS := Lib.hid hcs
      clear hsN hsl2 hs hs' hsm kw hee hlen hpb
      go_wp2_with fail
      refine HPA.out.mono ?_
      rintro e w3 ⟨vp, rfl, hop, hb3⟩
      have hb13 := HB.out.trans (hb3.mono hz)
      have HB3 := Lib.hid hb13
      have hz3 := hb3.size
      have HOE3 := Lib.hid (HOE.out.below hb3)
      have HC3 := Lib.hid ((Keeps.of_below hb3) _ _ HCS.out)
      obtain ⟨PP, cP, rfl, -, -, hnp, -⟩ := hop.form
      obtain ⟨M, hM⟩ : ∃ M, M = (parL s q).length := ⟨_, rfl⟩
      rw [← hM] at hnp ⊢
      have HNP := Lib.hid hnp
      have HM := Lib.hid hM
      have hM100 : M ≤ 100 := by rw [hM]; unfold parL; rw [List.length_map]; have := dimsL_le (lackI s q); omega
      have hbw3 := HB2.out.trans (hb13.mono HB2.out.size)
      have HF3 := Lib.hid (HF.out.below hbw3 (Nat.le_refl _))
      have HX3 := Lib.hid ((HX2.out.keep (Keeps.of_below hb13)))
      clear hnp hM hb3 hb13 hop hcs hbw3
      go_wp2_with fail
      go_loopw [10, 11] (fun b j wq => ∃ k : Nat, j = .int .i64 k ∧ k ≤ M ∧ b = .int .i64 (leastP (sizeB cs n) ((parL s q).take k)) ∧ Below w3.heap.size w3 wq) (fun _ j _ => M - (intOf j).toNat)
      case atStart => exact ⟨0, rfl, Nat.zero_le _, rfl, Below.refl _ _⟩
      case round =>
        obtain ⟨k, rfl, hk, rfl, hbq⟩ := hrel
        rename World => wq
        have HBQ := Lib.hid hbq
        have hzq := hbq.size
        have kq := Keeps.of_below hbq
        clear hbq
        by_cases hkM : k < M
        · obtain ⟨ad, x, rfl, hx, -, hcx⟩ := (HNP.out.keep kq).at_ hkM
          have hxb := HPB.out x (List.mem_of_getElem? hx)
          have hsn := leastP_snoc (sizeB cs n) ((parL s q).take k) x
          rw [show (parL s q).take k ++ [x] = (parL s q).take (k + 1) by rw [List.take_add_one, hx]; rfl] at hsn
          have hxq := HX3.out.keep kq
          have u0 : wq.cell? ⟨w.heap.size, 0, none⟩ = some (.slice A q c) := hxq 0 _ rfl
          have u1 : wq.cell? ⟨w.heap.size, 1, none⟩ = some (.int .i64 mm) := hxq 1 _ rfl
          have hfq := (HF3.out.below HBQ.out (Nat.le_refl _)).drew
          have HFQ := Lib.hid hfq
          have k0 : (0 : Int) ≤ (k : Int) := by omega
          have k1 : (k : Int) < (M : Int) := by omega
          by_cases hk0 : k = 0
          · have e4 : (parL s q).take k = [] := by rw [hk0]; rfl
            rw [e4, if_pos (.inl rfl)] at hsn
            have HSN := Lib.hid hsn
            have e5 : leastP (sizeB cs n) ((parL s q).take k) = -1 := by rw [e4]; rfl
            rw [e5]
            clear hsn hxq hfq hx e5 e4 kq hk0
            go_wp2_with fail
            refine wp_region_held_drew (S := fun W => W.cell? ⟨w.heap.size, 0, none⟩ = some (.slice A q c) ∧ W.cell? (ad.add k) = some (.int .i64 x)) (by kernel_rfl) ⟨u0, hcx⟩ (fun hHeld => ?_)
            refine wpAnyH_take (i := 0) (v := ?va0) rfl (by kernel_rfl) (by kernel_rfl) (by kernel_rfl) (fun _ _ _ h => h) (Or.inl ⟨by rfl, ?ya0⟩) hHeld ?ra0
            case ya0 => (intro W hW; obtain ⟨hW0, hW1⟩ := hW; go_simp; first | done | with_reducible rfl)
            try simp only [List.getElem_toArray, List.getElem_cons_zero, Act.put, List.setIfInBounds_toArray, List.set_cons_zero, List.set_cons_succ]
            refine wpAnyH_take (i := 1) (v := ?va1) rfl (by kernel_rfl) (by kernel_rfl) (by kernel_rfl) (fun _ _ _ h => h) (Or.inl ⟨by rfl, ?ya1⟩) hHeld ?ra1
            case ya1 => (intro W hW; obtain ⟨hW0, hW1⟩ := hW; go_simp; first | done | with_reducible rfl)
            try simp only [List.getElem_toArray, List.getElem_cons_succ, List.getElem_cons_zero, Act.put, List.setIfInBounds_toArray, List.set_cons_zero, List.set_cons_succ]
            refine wpAnyH_take (i := 2) (v := ?va2) rfl (by kernel_rfl) (by kernel_rfl) (by kernel_rfl) (fun _ _ _ h => h) (Or.inl ⟨by rfl, ?ya2⟩) hHeld ?ra2
            case ya2 => (intro W hW; obtain ⟨hW0, hW1⟩ := hW; go_simp; first | done | with_reducible rfl)
            try simp only [List.getElem_toArray, List.getElem_cons_succ, List.getElem_cons_zero, Act.put, List.setIfInBounds_toArray, List.set_cons_zero, List.set_cons_succ]
            refine wpAnyH_take (i := 3) (v := undef) rfl (by kernel_rfl) (by kernel_rfl) (by kernel_rfl) (fun _ _ _ h => h) (Or.inr ⟨by rfl, rfl⟩) hHeld ?ra3
            try simp only [List.getElem_toArray, List.getElem_cons_succ, List.getElem_cons_zero, Act.put, List.setIfInBounds_toArray, List.set_cons_zero, List.set_cons_succ]
            refine wpAnyH_take (i := 4) (v := undef) rfl (by kernel_rfl) (by kernel_rfl) (by kernel_rfl) (fun _ _ _ h => h) (Or.inr ⟨by rfl, rfl⟩) hHeld ?ra4
            try simp only [List.getElem_toArray, List.getElem_cons_succ, List.getElem_cons_zero, Act.put, List.setIfInBounds_toArray, List.set_cons_zero, List.set_cons_succ]
            refine wpAnyH_take (i := 5) (v := undef) rfl (by kernel_rfl) (by kernel_rfl) (by kernel_rfl) (fun _ _ _ h => h) (Or.inr ⟨by rfl, rfl⟩) hHeld ?ra5
            try simp only [List.getElem_toArray, List.getElem_cons_succ, List.getElem_cons_zero, Act.put, List.setIfInBounds_toArray, List.set_cons_zero, List.set_cons_succ]
            refine wpAnyH_take (i := 6) (v := undef) rfl (by kernel_rfl) (by kernel_rfl) (by kernel_rfl) (fun _ _ _ h => h) (Or.inr ⟨by rfl, rfl⟩) hHeld ?ra6
            try simp only [List.getElem_toArray, List.getElem_cons_succ, List.getElem_cons_zero, Act.put, List.setIfInBounds_toArray, List.set_cons_zero, List.set_cons_succ]
            refine wpAnyH_take (i := 7) (v := undef) rfl (by kernel_rfl) (by kernel_rfl) (by kernel_rfl) (fun _ _ _ h => h) (Or.inr ⟨by rfl, rfl⟩) hHeld ?ra7
            try simp only [List.getElem_toArray, List.getElem_cons_succ, List.getElem_cons_zero, Act.put, List.setIfInBounds_toArray, List.set_cons_zero, List.set_cons_succ]
            refine wpAnyH_take (i := 8) (v := undef) rfl (by kernel_rfl) (by kernel_rfl) (by kernel_rfl) (fun _ _ _ h => h) (Or.inr ⟨by rfl, rfl⟩) hHeld ?ra8
            try simp only [List.getElem_toArray, List.getElem_cons_succ, List.getElem_cons_zero, Act.put, List.setIfInBounds_toArray, List.set_cons_zero, List.set_cons_succ]
            refine wpAnyH_take (i := 9) (v := undef) rfl (by kernel_rfl) (by kernel_rfl) (by kernel_rfl) (fun _ _ _ h => h) (Or.inr ⟨by rfl, rfl⟩) hHeld ?ra9
            try simp only [List.getElem_toArray, List.getElem_cons_succ, List.getElem_cons_zero, Act.put, List.setIfInBounds_toArray, List.set_cons_zero, List.set_cons_succ]
            refine wpAnyH_take (i := 10) (v := undef) rfl (by kernel_rfl) (by kernel_rfl) (by kernel_rfl) (fun _ _ _ h => h) (Or.inr ⟨by rfl, rfl⟩) hHeld ?ra10
            try simp only [List.getElem_toArray, List.getElem_cons_succ, List.getElem_cons_zero, Act.put, List.setIfInBounds_toArray, List.set_cons_zero, List.set_cons_succ]
            refine wpAnyH_take (i := 11) (v := undef) rfl (by kernel_rfl) (by kernel_rfl) (by kernel_rfl) (fun _ _ _ h => h) (Or.inr ⟨by rfl, rfl⟩) hHeld ?ra11
            try simp only [List.getElem_toArray, List.getElem_cons_succ, List.getElem_cons_zero, Act.put, List.setIfInBounds_toArray, List.set_cons_zero, List.set_cons_succ]
            refine wpAnyH_take (i := 12) (v := undef) rfl (by kernel_rfl) (by kernel_rfl) (by kernel_rfl) (fun _ _ _ h => h) (Or.inr ⟨by rfl, rfl⟩) hHeld ?ra12
            try simp only [List.getElem_toArray, List.getElem_cons_succ, List.getElem_cons_zero, Act.put, List.setIfInBounds_toArray, List.set_cons_zero, List.set_cons_succ]
            refine wpAnyH_take (i := 13) (v := undef) rfl (by kernel_rfl) (by kernel_rfl) (by kernel_rfl) (fun _ _ _ h => h) (Or.inr ⟨by rfl, rfl⟩) hHeld ?ra13
            try simp only [List.getElem_toArray, List.getElem_cons_succ, List.getElem_cons_zero, Act.put, List.setIfInBounds_toArray, List.set_cons_zero, List.set_cons_succ]
            refine wpAnyH_take (i := 14) (v := undef) rfl (by kernel_rfl) (by kernel_rfl) (by kernel_rfl) (fun _ _ _ h => h) (Or.inr ⟨by rfl, rfl⟩) hHeld ?ra14
            try simp only [List.getElem_toArray, List.getElem_cons_succ, List.getElem_cons_zero, Act.put, List.setIfInBounds_toArray, List.set_cons_zero, List.set_cons_succ]
            refine wpAnyH_take (i := 15) (v := ?va15) rfl (by kernel_rfl) (by kernel_rfl) (by kernel_rfl) (fun _ _ _ h => h) (Or.inl ⟨by rfl, ?ya15⟩) hHeld ?ra15
            case ya15 => (intro W hW; obtain ⟨hW0, hW1⟩ := hW; go_simp; first | done | with_reducible rfl)
            try simp only [List.getElem_toArray, List.getElem_cons_succ, List.getElem_cons_zero, Act.put, List.setIfInBounds_toArray, List.set_cons_zero, List.set_cons_succ]
            refine wpAnyH_done (by kernel_rfl) ?_ _
            go_wp2
            go_roundw
            case rel => exact ⟨k + 1, by go_num, by omega, by rw [HSN.out], HBQ.out.drew⟩
            case measure => simp [intOf]; omega
          · have hne : (parL s q).take k ≠ [] := fun e => by
              have := congrArg List.length e
              rw [List.length_take, ← HM.out] at this
              simp at this
              omega
            have hbm := HPB.out _ (List.mem_of_mem_take (leastP_mem (sizeB cs n) _ hne))
            obtain ⟨b, hbe⟩ : ∃ b, b = leastP (sizeB cs n) ((parL s q).take k) := ⟨_, rfl⟩
            rw [← hbe] at hsn hbm ⊢
            have hb0 : decide (b < 0) = false := by simp; omega
            have hs1 := Lib.hid (rSize_any A q c mm cs n x wq.drew hfq.nums q4 hfq.c hxb.1 hxb.2)
            have hs2 := Lib.hid (fun W (hF : FQ W A q mm cs n) => rSize_any A q c mm cs n b W hF.nums q4 hF.c hbm.1 hbm.2)
            obtain ⟨fx, hfx⟩ : ∃ z, z = sizeB cs n x := ⟨_, rfl⟩
            obtain ⟨fb, hfb⟩ : ∃ z, z = sizeB cs n b := ⟨_, rfl⟩
            rw [← hfx] at hs1 hsn
            rw [← hfb] at hs2 hsn
            have HSN := Lib.hid hsn
            have HNE := Lib.hid hne
            clear hsn hxq hfq hx hne hbe hfx hfb kq
            by_cases hlt : fx < fb
            · go_wp2_with fail
              refine wp_region_held_drew (S := fun W => W.cell? ⟨w.heap.size, 0, none⟩ = some (.slice A q c) ∧ W.cell? ⟨w.heap.size, 1, none⟩ = some (.int .i64 mm) ∧ W.cell? (ad.add k) = some (.int .i64 x)) (by kernel_rfl) ⟨u0, u1, hcx⟩ (fun hHeld => ?_)
              refine wpAnyH_take (i := 0) (v := ?vb0) rfl (by kernel_rfl) (by kernel_rfl) (by kernel_rfl) (fun _ _ _ h => h) (Or.inl ⟨by rfl, ?yb0⟩) hHeld ?rb0
              case yb0 => (intro W hW; obtain ⟨hW0, hW1, hW2⟩ := hW; go_simp; first | done | with_reducible rfl)
              try simp only [List.getElem_toArray, List.getElem_cons_zero, Act.put, List.setIfInBounds_toArray, List.set_cons_zero, List.set_cons_succ]
              refine wpAnyH_take (i := 1) (v := ?vb1) rfl (by kernel_rfl) (by kernel_rfl) (by kernel_rfl) (fun _ _ _ h => h) (Or.inl ⟨by rfl, ?yb1⟩) hHeld ?rb1
              case yb1 => (intro W hW; obtain ⟨hW0, hW1, hW2⟩ := hW; go_simp; first | done | with_reducible rfl)
              try simp only [List.getElem_toArray, List.getElem_cons_succ, List.getElem_cons_zero, Act.put, List.setIfInBounds_toArray, List.set_cons_zero, List.set_cons_succ]
              refine wpAnyH_take (i := 2) (v := ?vb2) rfl (by kernel_rfl) (by kernel_rfl) (by kernel_rfl) (fun _ _ _ h => h) (Or.inl ⟨by rfl, ?yb2⟩) hHeld ?rb2
              case yb2 => (intro W hW; obtain ⟨hW0, hW1, hW2⟩ := hW; go_simp; first | done | with_reducible rfl)
              try simp only [List.getElem_toArray, List.getElem_cons_succ, List.getElem_cons_zero, Act.put, List.setIfInBounds_toArray, List.set_cons_zero, List.set_cons_succ]
              refine wpAnyH_take (i := 3) (v := ?vb3) rfl (by kernel_rfl) (by kernel_rfl) (by kernel_rfl) (fun _ _ _ h => h) (Or.inl ⟨by rfl, ?yb3⟩) hHeld ?rb3
              case yb3 => (intro W hW; obtain ⟨hW0, hW1, hW2⟩ := hW; go_simp; first | done | with_reducible rfl)
              try simp only [List.getElem_toArray, List.getElem_cons_succ, List.getElem_cons_zero, Act.put, List.setIfInBounds_toArray, List.set_cons_zero, List.set_cons_succ]
              refine wpAnyH_take (i := 4) (v := ?vb4) rfl (by kernel_rfl) (by kernel_rfl) (by kernel_rfl) (fun _ _ _ h => h) (Or.inl ⟨by rfl, ?yb4⟩) hHeld ?rb4
              case yb4 => (intro W hW; obtain ⟨hW0, hW1, hW2⟩ := hW; go_simp; first | done | with_reducible rfl)
              try simp only [List.getElem_toArray, List.getElem_cons_succ, List.getElem_cons_zero, Act.put, List.setIfInBounds_toArray, List.set_cons_zero, List.set_cons_succ]
              refine wpAnyH_take (i := 5) (v := ?vb5) rfl (by kernel_rfl) (by kernel_rfl) (by kernel_rfl) (fun _ _ _ h => h) (Or.inl ⟨by rfl, ?yb5⟩) hHeld ?rb5
              case yb5 => (intro W hW; obtain ⟨hW0, hW1, hW2⟩ := hW; go_simp; first | done | with_reducible rfl)
              try simp only [List.getElem_toArray, List.getElem_cons_succ, List.getElem_cons_zero, Act.put, List.setIfInBounds_toArray, List.set_cons_zero, List.set_cons_succ]
              refine wpAnyH_take (i := 6) (v := ?vb6) rfl (by kernel_rfl) (by kernel_rfl) (by kernel_rfl) (fun _ _ _ h => h) (Or.inl ⟨by rfl, ?yb6⟩) hHeld ?rb6
              case yb6 => (intro W hW; obtain ⟨hW0, hW1, hW2⟩ := hW; go_simp; first | done | with_reducible rfl)
              try simp only [List.getElem_toArray, List.getElem_cons_succ, List.getElem_cons_zero, Act.put, List.setIfInBounds_toArray, List.set_cons_zero, List.set_cons_succ]
              refine wpAnyH_take (i := 7) (v := ?vb7) rfl (by kernel_rfl) (by kernel_rfl) (by kernel_rfl) (fun _ _ _ h => h) (Or.inl ⟨by rfl, ?yb7⟩) hHeld ?rb7
              case yb7 => (intro W hW; obtain ⟨hW0, hW1, hW2⟩ := hW; go_simp; first | done | with_reducible rfl)
              try simp only [List.getElem_toArray, List.getElem_cons_succ, List.getElem_cons_zero, Act.put, List.setIfInBounds_toArray, List.set_cons_zero, List.set_cons_succ]
              refine wpAnyH_take (i := 8) (v := ?vb8) rfl (by kernel_rfl) (by kernel_rfl) (by kernel_rfl) (fun _ _ _ h => h) (Or.inl ⟨by rfl, ?yb8⟩) hHeld ?rb8
              case yb8 => (intro W hW; obtain ⟨hW0, hW1, hW2⟩ := hW; go_simp; first | done | with_reducible rfl)
              try simp only [List.getElem_toArray, List.getElem_cons_succ, List.getElem_cons_zero, Act.put, List.setIfInBounds_toArray, List.set_cons_zero, List.set_cons_succ]
              refine wpAnyH_take (i := 10) (v := ?vb10) rfl (by kernel_rfl) (by kernel_rfl) (by kernel_rfl) (fun _ _ _ h => h) (Or.inl ⟨by rfl, ?yb10⟩) hHeld ?rb10
              case yb10 => (intro W hW; obtain ⟨hW0, hW1, hW2⟩ := hW; go_simp; first | done | with_reducible rfl)
              try simp only [List.getElem_toArray, List.getElem_cons_succ, List.getElem_cons_zero, Act.put, List.setIfInBounds_toArray, List.set_cons_zero, List.set_cons_succ]
              refine wpAnyH_take (i := 11) (v := ?vb11) rfl (by kernel_rfl) (by kernel_rfl) (by kernel_rfl) (fun _ _ _ h => h) (Or.inl ⟨by rfl, ?yb11⟩) hHeld ?rb11
              case yb11 => (intro W hW; obtain ⟨hW0, hW1, hW2⟩ := hW; go_simp; first | done | with_reducible rfl)
              try simp only [List.getElem_toArray, List.getElem_cons_succ, List.getElem_cons_zero, Act.put, List.setIfInBounds_toArray, List.set_cons_zero, List.set_cons_succ]
              refine wpAnyH_take (i := 12) (v := ?vb12) rfl (by kernel_rfl) (by kernel_rfl) (by kernel_rfl) (fun _ _ _ h => h) (Or.inl ⟨by rfl, ?yb12⟩) hHeld ?rb12
              case yb12 => (intro W hW; obtain ⟨hW0, hW1, hW2⟩ := hW; go_simp; first | done | with_reducible rfl)
              try simp only [List.getElem_toArray, List.getElem_cons_succ, List.getElem_cons_zero, Act.put, List.setIfInBounds_toArray, List.set_cons_zero, List.set_cons_succ]
              refine wpAnyH_ready (rs := [9]) (by kernel_rfl) (by simp) ?_
              refine AllReadyH.cons rfl (fun K hK => ?_) (AllReadyH.nil)
              go_simp
              refine hs1.out.mono ?_
              rintro e9 w5 ⟨rfl, hb5⟩
              have k5 := Keeps.of_below hb5
              have HB5 := Lib.hid ((HBQ.out.drew).trans (hb5.mono hzq))
              have HF5 := Lib.hid (HFQ.out.below hb5 (Nat.le_refl _))
              clear hb5
              refine hK.out _ _ (⟨k5 _ _ u0, k5 _ _ u1, k5 _ _ hcx⟩) (fun hHeld => ?_)
              clear hK K
              try simp only [List.getElem_toArray, List.getElem_cons_succ, List.getElem_cons_zero, Act.put, List.setIfInBounds_toArray, List.set_cons_zero, List.set_cons_succ]
              refine wpAnyH_ready (rs := [13]) (by kernel_rfl) (by simp) ?_
              refine AllReadyH.cons rfl (fun K hK => ?_) (AllReadyH.nil)
              go_simp
              refine (hs2.out w5 HF5.out).mono ?_
              rintro e9 w6 ⟨rfl, hb6⟩
              have k6 := Keeps.of_below hb6
              have HB6 := Lib.hid (HB5.out.trans (hb6.mono HB5.out.size))
              clear hb6
              refine hK.out _ _ (⟨k6 _ _ hHeld.1, k6 _ _ hHeld.2.1, k6 _ _ hHeld.2.2⟩) (fun hHeld => ?_)
              clear hK K
              try simp only [List.getElem_toArray, List.getElem_cons_succ, List.getElem_cons_zero, Act.put, List.setIfInBounds_toArray, List.set_cons_zero, List.set_cons_succ]
              refine wpAnyH_take (i := 14) (v := ?vb14) rfl (by kernel_rfl) (by kernel_rfl) (by kernel_rfl) (fun _ _ _ h => h) (Or.inl ⟨by rfl, ?yb14⟩) hHeld ?rb14
              case yb14 => (intro W hW; obtain ⟨hW0, hW1, hW2⟩ := hW; go_simp; first | done | with_reducible rfl)
              try simp only [List.getElem_toArray, List.getElem_cons_succ, List.getElem_cons_zero, Act.put, List.setIfInBounds_toArray, List.set_cons_zero, List.set_cons_succ]
              refine wpAnyH_take (i := 15) (v := ?vb15) rfl (by kernel_rfl) (by kernel_rfl) (by kernel_rfl) (fun _ _ _ h => h) (Or.inl ⟨by rfl, ?yb15⟩) hHeld ?rb15
              case yb15 => (intro W hW; obtain ⟨hW0, hW1, hW2⟩ := hW; go_simp; first | done | with_reducible rfl)
              try simp only [List.getElem_toArray, List.getElem_cons_succ, List.getElem_cons_zero, Act.put, List.setIfInBounds_toArray, List.set_cons_zero, List.set_cons_succ]
              refine wpAnyH_done (by kernel_rfl) ?_ _
              have hc6 := hHeld.2.2
              clear hHeld
              go_wp2
              go_roundw
              case rel => exact ⟨k + 1, by go_num, by omega, by rw [HSN.out, if_pos (.inr hlt)], HB6.out⟩
              case measure => simp [intOf]; omega
            · go_wp2_with fail
              refine wp_region_held_drew (S := fun W => W.cell? ⟨w.heap.size, 0, none⟩ = some (.slice A q c) ∧ W.cell? ⟨w.heap.size, 1, none⟩ = some (.int .i64 mm) ∧ W.cell? (ad.add k) = some (.int .i64 x)) (by kernel_rfl) ⟨u0, u1, hcx⟩ (fun hHeld => ?_)
              refine wpAnyH_take (i := 0) (v := ?vc0) rfl (by kernel_rfl) (by kernel_rfl) (by kernel_rfl) (fun _ _ _ h => h) (Or.inl ⟨by rfl, ?yc0⟩) hHeld ?rc0
              case yc0 => (intro W hW; obtain ⟨hW0, hW1, hW2⟩ := hW; go_simp; first | done | with_reducible rfl)
              try simp only [List.getElem_toArray, List.getElem_cons_zero, Act.put, List.setIfInBounds_toArray, List.set_cons_zero, List.set_cons_succ]
              refine wpAnyH_take (i := 1) (v := ?vc1) rfl (by kernel_rfl) (by kernel_rfl) (by kernel_rfl) (fun _ _ _ h => h) (Or.inl ⟨by rfl, ?yc1⟩) hHeld ?rc1
              case yc1 => (intro W hW; obtain ⟨hW0, hW1, hW2⟩ := hW; go_simp; first | done | with_reducible rfl)
              try simp only [List.getElem_toArray, List.getElem_cons_succ, List.getElem_cons_zero, Act.put, List.setIfInBounds_toArray, List.set_cons_zero, List.set_cons_succ]
              refine wpAnyH_take (i := 2) (v := ?vc2) rfl (by kernel_rfl) (by kernel_rfl) (by kernel_rfl) (fun _ _ _ h => h) (Or.inl ⟨by rfl, ?yc2⟩) hHeld ?rc2
              case yc2 => (intro W hW; obtain ⟨hW0, hW1, hW2⟩ := hW; go_simp; first | done | with_reducible rfl)
              try simp only [List.getElem_toArray, List.getElem_cons_succ, List.getElem_cons_zero, Act.put, List.setIfInBounds_toArray, List.set_cons_zero, List.set_cons_succ]
              refine wpAnyH_take (i := 3) (v := ?vc3) rfl (by kernel_rfl) (by kernel_rfl) (by kernel_rfl) (fun _ _ _ h => h) (Or.inl ⟨by rfl, ?yc3⟩) hHeld ?rc3
              case yc3 => (intro W hW; obtain ⟨hW0, hW1, hW2⟩ := hW; go_simp; first | done | with_reducible rfl)
              try simp only [List.getElem_toArray, List.getElem_cons_succ, List.getElem_cons_zero, Act.put, List.setIfInBounds_toArray, List.set_cons_zero, List.set_cons_succ]
              refine wpAnyH_take (i := 4) (v := ?vc4) rfl (by kernel_rfl) (by kernel_rfl) (by kernel_rfl) (fun _ _ _ h => h) (Or.inl ⟨by rfl, ?yc4⟩) hHeld ?rc4
              case yc4 => (intro W hW; obtain ⟨hW0, hW1, hW2⟩ := hW; go_simp; first | done | with_reducible rfl)
              try simp only [List.getElem_toArray, List.getElem_cons_succ, List.getElem_cons_zero, Act.put, List.setIfInBounds_toArray, List.set_cons_zero, List.set_cons_succ]
              refine wpAnyH_take (i := 5) (v := ?vc5) rfl (by kernel_rfl) (by kernel_rfl) (by kernel_rfl) (fun _ _ _ h => h) (Or.inl ⟨by rfl, ?yc5⟩) hHeld ?rc5
              case yc5 => (intro W hW; obtain ⟨hW0, hW1, hW2⟩ := hW; go_simp; first | done | with_reducible rfl)
              try simp only [List.getElem_toArray, List.getElem_cons_succ, List.getElem_cons_zero, Act.put, List.setIfInBounds_toArray, List.set_cons_zero, List.set_cons_succ]
              refine wpAnyH_take (i := 6) (v := ?vc6) rfl (by kernel_rfl) (by kernel_rfl) (by kernel_rfl) (fun _ _ _ h => h) (Or.inl ⟨by rfl, ?yc6⟩) hHeld ?rc6
              case yc6 => (intro W hW; obtain ⟨hW0, hW1, hW2⟩ := hW; go_simp; first | done | with_reducible rfl)
              try simp only [List.getElem_toArray, List.getElem_cons_succ, List.getElem_cons_zero, Act.put, List.setIfInBounds_toArray, List.set_cons_zero, List.set_cons_succ]
              refine wpAnyH_take (i := 7) (v := ?vc7) rfl (by kernel_rfl) (by kernel_rfl) (by kernel_rfl) (fun _ _ _ h => h) (Or.inl ⟨by rfl, ?yc7⟩) hHeld ?rc7
              case yc7 => (intro W hW; obtain ⟨hW0, hW1, hW2⟩ := hW; go_simp; first | done | with_reducible rfl)
              try simp only [List.getElem_toArray, List.getElem_cons_succ, List.getElem_cons_zero, Act.put, List.setIfInBounds_toArray, List.set_cons_zero, List.set_cons_succ]
              refine wpAnyH_take (i := 8) (v := ?vc8) rfl (by kernel_rfl) (by kernel_rfl) (by kernel_rfl) (fun _ _ _ h => h) (Or.inl ⟨by rfl, ?yc8⟩) hHeld ?rc8
              case yc8 => (intro W hW; obtain ⟨hW0, hW1, hW2⟩ := hW; go_simp; first | done | with_reducible rfl)
              try simp only [List.getElem_toArray, List.getElem_cons_succ, List.getElem_cons_zero, Act.put, List.setIfInBounds_toArray, List.set_cons_zero, List.set_cons_succ]
              refine wpAnyH_take (i := 10) (v := ?vc10) rfl (by kernel_rfl) (by kernel_rfl) (by kernel_rfl) (fun _ _ _ h => h) (Or.inl ⟨by rfl, ?yc10⟩) hHeld ?rc10
              case yc10 => (intro W hW; obtain ⟨hW0, hW1, hW2⟩ := hW; go_simp; first | done | with_reducible rfl)
              try simp only [List.getElem_toArray, List.getElem_cons_succ, List.getElem_cons_zero, Act.put, List.setIfInBounds_toArray, List.set_cons_zero, List.set_cons_succ]
              refine wpAnyH_take (i := 11) (v := ?vc11) rfl (by kernel_rfl) (by kernel_rfl) (by kernel_rfl) (fun _ _ _ h => h) (Or.inl ⟨by rfl, ?yc11⟩) hHeld ?rc11
              case yc11 => (intro W hW; obtain ⟨hW0, hW1, hW2⟩ := hW; go_simp; first | done | with_reducible rfl)
              try simp only [List.getElem_toArray, List.getElem_cons_succ, List.getElem_cons_zero, Act.put, List.setIfInBounds_toArray, List.set_cons_zero, List.set_cons_succ]
              refine wpAnyH_take (i := 12) (v := ?vc12) rfl (by kernel_rfl) (by kernel_rfl) (by kernel_rfl) (fun _ _ _ h => h) (Or.inl ⟨by rfl, ?yc12⟩) hHeld ?rc12
              case yc12 => (intro W hW; obtain ⟨hW0, hW1, hW2⟩ := hW; go_simp; first | done | with_reducible rfl)
              try simp only [List.getElem_toArray, List.getElem_cons_succ, List.getElem_cons_zero, Act.put, List.setIfInBounds_toArray, List.set_cons_zero, List.set_cons_succ]
              refine wpAnyH_ready (rs := [9]) (by kernel_rfl) (by simp) ?_
              refine AllReadyH.cons rfl (fun K hK => ?_) (AllReadyH.nil)
              go_simp
              refine hs1.out.mono ?_
              rintro e9 w5 ⟨rfl, hb5⟩
              have k5 := Keeps.of_below hb5
              have HB5 := Lib.hid ((HBQ.out.drew).trans (hb5.mono hzq))
              have HF5 := Lib.hid (HFQ.out.below hb5 (Nat.le_refl _))
              clear hb5
              refine hK.out _ _ (⟨k5 _ _ u0, k5 _ _ u1, k5 _ _ hcx⟩) (fun hHeld => ?_)
              clear hK K
              try simp only [List.getElem_toArray, List.getElem_cons_succ, List.getElem_cons_zero, Act.put, List.setIfInBounds_toArray, List.set_cons_zero, List.set_cons_succ]
              refine wpAnyH_ready (rs := [13]) (by kernel_rfl) (by simp) ?_
              refine AllReadyH.cons rfl (fun K hK => ?_) (AllReadyH.nil)
              go_simp
              refine (hs2.out w5 HF5.out).mono ?_
              rintro e9 w6 ⟨rfl, hb6⟩
              have k6 := Keeps.of_below hb6
              have HB6 := Lib.hid (HB5.out.trans (hb6.mono HB5.out.size))
              clear hb6
              refine hK.out _ _ (⟨k6 _ _ hHeld.1, k6 _ _ hHeld.2.1, k6 _ _ hHeld.2.2⟩) (fun hHeld => ?_)
              clear hK K
              try simp only [List.getElem_toArray, List.getElem_cons_succ, List.getElem_cons_zero, Act.put, List.setIfInBounds_toArray, List.set_cons_zero, List.set_cons_succ]
              refine wpAnyH_take (i := 14) (v := ?vc14) rfl (by kernel_rfl) (by kernel_rfl) (by kernel_rfl) (fun _ _ _ h => h) (Or.inl ⟨by rfl, ?yc14⟩) hHeld ?rc14
              case yc14 => (intro W hW; obtain ⟨hW0, hW1, hW2⟩ := hW; go_simp; first | done | with_reducible rfl)
              try simp only [List.getElem_toArray, List.getElem_cons_succ, List.getElem_cons_zero, Act.put, List.setIfInBounds_toArray, List.set_cons_zero, List.set_cons_succ]
              refine wpAnyH_take (i := 15) (v := ?vc15) rfl (by kernel_rfl) (by kernel_rfl) (by kernel_rfl) (fun _ _ _ h => h) (Or.inl ⟨by rfl, ?yc15⟩) hHeld ?rc15
              case yc15 => (intro W hW; obtain ⟨hW0, hW1, hW2⟩ := hW; go_simp; first | done | with_reducible rfl)
              try simp only [List.getElem_toArray, List.getElem_cons_succ, List.getElem_cons_zero, Act.put, List.setIfInBounds_toArray, List.set_cons_zero, List.set_cons_succ]
              refine wpAnyH_done (by kernel_rfl) ?_ _
              clear hHeld
              go_wp2
              go_roundw
              case rel => exact ⟨k + 1, by go_num, by omega, by rw [HSN.out, if_neg (fun h => h.elim HNE.out (fun h => by omega))], HB6.out⟩
              case measure => simp [intOf]; omega
        · obtain rfl : k = M := by omega
          have hall : (parL s q).take k = parL s q := List.take_of_length_le (by rw [← HM.out]; omega)
          rw [hall]
          have hee := HEE.out
          obtain ⟨lp, hlp⟩ : ∃ lp, lp = leastP (sizeB cs n) (parL s q) := ⟨_, rfl⟩
          rw [← hlp] at hee ⊢
          have htk := HTK.out
          rw [hee] at htk
          have hcw := kq _ _ HC3.out
          have hbq := HBQ.out
          obtain ⟨v', w6, hrun, hoe6, -, hb6⟩ := oe_push ⟨s, lp, false⟩ (HOE3.out.below hbq) (OI.nil wq.heap.size wq) (by have := HLN.out; omega) (by have := HB3.out.size; omega)
          have HB6 := Lib.hid ((HB3.out.trans (hbq.mono HB3.out.size)).trans hb6)
          rw [← htk] at hoe6
          have HOE6 := Lib.hid hoe6
          have Hrun := Lib.hid hrun
          clear hrun hoe6 hb6 htk hee hlp hall hbq kq
          go_wp2_with (at_builtin; have _t := Hrun; refine wpList_append_eq rfl (.tmp 55) (.tmp 62) 30 rfl _ _ _ _ rfl rfl Hrun.out ?_; clear _t Hrun)
          go_roundw
          case rel => exact ⟨i + 1, by go_num, by omega, HOE6.out, HB6.out⟩
          case measure => simp [intOf]; omega
    · obtain rfl : i = N := by omega
      have hall : (treeM cs n).take i = treeM cs n := List.take_of_length_le (by rw [tree_len, hcl, HSL.out]; omega)
      have hoe := HOE.out
      rw [hall] at hoe
      have HO2 := Lib.hid (hoe.mono HB2.out.size)
      have HBW := Lib.hid (HB2.out.trans (HB.out.mono HB2.out.size))
      clear hoe hall
      go_wp2
      go_ret
      exact ⟨_, rfl, HO2.out, HBW.out⟩
end Go.Proofs.YtjllmladhjbnaaaDoor
