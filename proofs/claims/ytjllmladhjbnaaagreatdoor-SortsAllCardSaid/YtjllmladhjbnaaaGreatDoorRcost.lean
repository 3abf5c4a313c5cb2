/- The reference's Scan, and its Cost of a plan that is right. -/
import Derived.Test.YtjllmladhjbnaaaGreatDoorSoC
import Derived.Test.YtjllmladhjbnaaaGreatDoorRlat
import Derived.Test.YtjllmladhjbnaaaGreatDoorRegion
namespace Go.Proofs.YtjllmladhjbnaaaGreatDoor
open Go.RowKit Go.Shelf
attribute [local go_sem] Oper.semAt_some
set_option maxHeartbeats 1000000 in
theorem rScan_any (A : Option Addr) (q c mm : Nat) (cs : List Int) (n k : Int) (w : World) (h : FQ w A q mm cs n) (h1 : 0 ≤ k) (h2 : k ≤ fullB q) :
    Calls Tryz.prog 29 #[.agg #[.slice A q c, .int .i64 mm], .int .i64 n, .int .i64 k] w fun e w' => e = .returned (.int .i64 (sizeB cs n k)) ∧ Below w.heap.size w w' := by
  have hb0 := below_box w (.cells #[.slice A q c, .int .i64 mm] 25)
  have h' := h.below hb0 (Nat.le_refl _)
  have H := Lib.hid (rSize_any A q c mm cs n k _ h'.nums h'.q4 h'.c h1 h2)
  have HB0 := Lib.hid hb0
  clear h h' hb0
  go_enter Tryz.func29, Tryz.ntmps29
  go_wp2_with fail
  refine H.out.mono ?_
  rintro e w1 ⟨rfl, hb1⟩
  have HB1 := Lib.hid (HB0.out.trans (hb1.mono HB0.out.size))
  clear hb1
  go_wp2
  go_ret
  exact ⟨rfl, HB1.out⟩
set_option maxRecDepth 100000 in
set_option maxHeartbeats 8000000 in
theorem rCost_any (A : Option Addr) (q c mm : Nat) (cs : List Int) (n : Int) (P : Option Addr) (m d : Nat) (es : List Ed) (w : World) (h : FQ w A q mm cs n) (hE : Edgs w P m es) (hm : m ≤ 1000) (hr : RightP q es) :
    Calls Tryz.prog 13 #[.agg #[.slice A q c, .int .i64 mm], .int .i64 n, .slice P m d] w fun e w' => e = .returned (.int .i64 (costP cs n es)) ∧ Below w.heap.size w w' := by
  have hcl := h.len
  have hg := h.good
  have hel := hE.1
  obtain ⟨w0, hw0⟩ : ∃ w0, w0 = w.alloc (.cells #[.slice A q c, .int .i64 mm] 25) := ⟨_, rfl⟩
  have hb0 : Below w.heap.size w w0 := by rw [hw0]; exact below_box w _
  have hbx : Bx w0 w.heap.size #[.slice A q c, .int .i64 mm] := by rw [hw0]; exact Bx.new _ _ _
  have HF := Lib.hid h
  have HE := Lib.hid hE
  have HR := Lib.hid hr
  have HB0 := Lib.hid hb0
  have HX0 := Lib.hid hbx
  have HW0 := Lib.hid hw0
  have HBD := Lib.hid (sumTo_bd (costE_bd (cs := cs) (n := n) hg (by rw [hcl]; exact hr)))
  have hpr : ∀ e ∈ es, 0 ≤ e.p → e.p ≤ fullB q := fun e he hp => by
    rw [hr.cons] at he
    rcases List.mem_cons.1 he with rfl | h2
    · exact absurd hp (by simp [topE])
    · have := right_p (cs := cs) hg.d1 hg.d4 (by rw [hcl]; exact hr) h2
      rw [hcl] at this
      exact this.2
  have HPR := Lib.hid hpr
  clear h hE hr hb0 hbx hw0 hg hpr hcl
  go_enter Tryz.func13, Tryz.ntmps13
  go_wp2_with fail
  rw [← HW0.out]
  go_loopw [7, 8] (fun sm i wr => ∃ k : Nat, i = .int .i64 k ∧ k ≤ m ∧ sm = .int .i64 (sumTo cs n es k) ∧ Below w0.heap.size w0 wr) (fun _ i _ => m - (intOf i).toNat)
  case atStart => exact ⟨0, rfl, Nat.zero_le _, rfl, Below.refl _ _⟩
  case round =>
    obtain ⟨k, rfl, hk, rfl, hb⟩ := hrel
    rename World => wr
    have HB := Lib.hid hb
    have hz := hb.size
    clear hb
    by_cases hkm : k < m
    · obtain ⟨e, he⟩ : ∃ e, es[k]? = some e := ⟨_, List.getElem?_eq_getElem (by omega)⟩
      have hbw : Below w.heap.size w wr := HB0.out.trans (HB.out.mono HB0.out.size)
      have HBW := Lib.hid hbw
      obtain ⟨g0, o0, rfl, hcs⟩ := (HE.out.keep (Keeps.of_below hbw)).2.2 (by omega)
      obtain ⟨y0, y1, y2⟩ := hcs k e he
      have hxr := HX0.out.keep (Keeps.of_below HB.out)
      have x0 : wr.cell? ⟨w.heap.size, 0, none⟩ = some (.slice A q c) := hxr 0 _ rfl
      have x1 : wr.cell? ⟨w.heap.size, 1, none⟩ = some (.int .i64 mm) := hxr 1 _ rfl
      have hss := sumTo_succ (cs := cs) (n := n) he
      have HSS := Lib.hid hss
      have hsb1 := HBD.out k (by omega)
      have hsb2 := HBD.out (k + 1) (by omega)
      rw [hss] at hsb2
      have hem := List.mem_of_getElem? he
      obtain ⟨sm, hsm⟩ : ∃ sm, sm = sumTo cs n es k := ⟨_, rfl⟩
      rw [← hsm] at hsb1 hsb2 ⊢
      have HSM := Lib.hid hsm
      have k0 : (0 : Int) ≤ (k : Int) := by omega
      have k1 : (k : Int) < (m : Int) := by omega
      have HEM := Lib.hid hem
      clear hcs he hxr hbw hss hsm hem
      by_cases hp : e.p < 0
      · have hce : costE cs n e = 0 := by unfold costE; rw [if_pos hp]
        have HCE := Lib.hid hce
        clear hce
        go_wp2
        go_roundw
        case rel => exact ⟨k + 1, by go_num, by omega, by rw [HSS.out, HCE.out, ← HSM.out, Int.add_zero], HB.out⟩
        case measure => simp [intOf]; omega
      · have p0 : 0 ≤ e.p := by omega
        have p1 := HPR.out e HEM.out p0
        have hf := (HF.out.below HBW.out (Nat.le_refl _)).drew
        have HFR := Lib.hid hf
        obtain ⟨sc, hsc⟩ : ∃ sc, sc = e.sc := ⟨_, rfl⟩
        have hce : costE cs n e = if sc then sizeB cs n e.p else sortB cs n e.p := by unfold costE; rw [if_neg hp, hsc]
        rw [← hsc] at y2
        rw [hce] at hsb2
        have HCE := Lib.hid hce
        clear hf hsc hce
        cases sc with
        | true =>
          rw [if_pos rfl] at hsb2
          have HSC := Lib.hid (rScan_any A q c mm cs n e.p wr.drew HFR.out p0 p1)
          obtain ⟨ce, hcc⟩ : ∃ ce, ce = sizeB cs n e.p := ⟨_, rfl⟩
          rw [← hcc] at HSC hsb2
          have hw64 : IntKind.i64.wrap (sm + ce) = sm + ce := IntWalk.i64_in _ (by omega)
          have HS2 := Lib.hid (show sumTo cs n es (k + 1) = sm + ce by rw [HSS.out, HCE.out, if_pos rfl, ← hcc, HSM.out])
          clear hcc
          go_wp2_with fail
          refine wp_region_held_drew (S := fun W => W.cell? ⟨w.heap.size, 0, none⟩ = some (.slice A q c) ∧ W.cell? ⟨w.heap.size, 1, none⟩ = some (.int .i64 mm) ∧ W.cell? ⟨g0, o0 + k * 3 + 1, none⟩ = some (.int .i64 e.p)) (by kernel_rfl) ⟨x0, x1, y1⟩ (fun hHeld => ?_)
          refine wpAnyH_take (i := 0) (v := ?va0) rfl (by kernel_rfl) (by kernel_rfl) (by kernel_rfl) (fun _ _ _ h => h) (Or.inl ⟨by rfl, ?ya0⟩) hHeld ?ra0
          case ya0 => (intro W hW; obtain ⟨hW0, hW1, hW2⟩ := hW; go_simp; first | done | with_reducible rfl)
          try simp only [List.getElem_toArray, List.getElem_cons_zero, Act.put, List.setIfInBounds_toArray, List.set_cons_zero, List.set_cons_succ]
          refine wpAnyH_take (i := 1) (v := ?va1) rfl (by kernel_rfl) (by kernel_rfl) (by kernel_rfl) (fun _ _ _ h => h) (Or.inl ⟨by rfl, ?ya1⟩) hHeld ?ra1
          case ya1 => (intro W hW; obtain ⟨hW0, hW1, hW2⟩ := hW; go_simp; first | done | with_reducible rfl)
          try simp only [List.getElem_toArray, List.getElem_cons_succ, List.getElem_cons_zero, Act.put, List.setIfInBounds_toArray, List.set_cons_zero, List.set_cons_succ]
          refine wpAnyH_take (i := 2) (v := ?va2) rfl (by kernel_rfl) (by kernel_rfl) (by kernel_rfl) (fun _ _ _ h => h) (Or.inl ⟨by rfl, ?ya2⟩) hHeld ?ra2
          case ya2 => (intro W hW; obtain ⟨hW0, hW1, hW2⟩ := hW; go_simp; first | done | with_reducible rfl)
          try simp only [List.getElem_toArray, List.getElem_cons_succ, List.getElem_cons_zero, Act.put, List.setIfInBounds_toArray, List.set_cons_zero, List.set_cons_succ]
          refine wpAnyH_take (i := 3) (v := ?va3) rfl (by kernel_rfl) (by kernel_rfl) (by kernel_rfl) (fun _ _ _ h => h) (Or.inl ⟨by rfl, ?ya3⟩) hHeld ?ra3
          case ya3 => (intro W hW; obtain ⟨hW0, hW1, hW2⟩ := hW; go_simp; first | done | with_reducible rfl)
          try simp only [List.getElem_toArray, List.getElem_cons_succ, List.getElem_cons_zero, Act.put, List.setIfInBounds_toArray, List.set_cons_zero, List.set_cons_succ]
          refine wpAnyH_take (i := 4) (v := ?va4) rfl (by kernel_rfl) (by kernel_rfl) (by kernel_rfl) (fun _ _ _ h => h) (Or.inl ⟨by rfl, ?ya4⟩) hHeld ?ra4
          case ya4 => (intro W hW; obtain ⟨hW0, hW1, hW2⟩ := hW; go_simp; first | done | with_reducible rfl)
          try simp only [List.getElem_toArray, List.getElem_cons_succ, List.getElem_cons_zero, Act.put, List.setIfInBounds_toArray, List.set_cons_zero, List.set_cons_succ]
          refine wpAnyH_take (i := 5) (v := ?va5) rfl (by kernel_rfl) (by kernel_rfl) (by kernel_rfl) (fun _ _ _ h => h) (Or.inl ⟨by rfl, ?ya5⟩) hHeld ?ra5
          case ya5 => (intro W hW; obtain ⟨hW0, hW1, hW2⟩ := hW; go_simp; first | done | with_reducible rfl)
          try simp only [List.getElem_toArray, List.getElem_cons_succ, List.getElem_cons_zero, Act.put, List.setIfInBounds_toArray, List.set_cons_zero, List.set_cons_succ]
          refine wpAnyH_take (i := 6) (v := ?va6) rfl (by kernel_rfl) (by kernel_rfl) (by kernel_rfl) (fun _ _ _ h => h) (Or.inl ⟨by rfl, ?ya6⟩) hHeld ?ra6
          case ya6 => (intro W hW; obtain ⟨hW0, hW1, hW2⟩ := hW; go_simp; first | done | with_reducible rfl)
          try simp only [List.getElem_toArray, List.getElem_cons_succ, List.getElem_cons_zero, Act.put, List.setIfInBounds_toArray, List.set_cons_zero, List.set_cons_succ]
          refine wpAnyH_take (i := 7) (v := ?va7) rfl (by kernel_rfl) (by kernel_rfl) (by kernel_rfl) (fun _ _ _ h => h) (Or.inl ⟨by rfl, ?ya7⟩) hHeld ?ra7
          case ya7 => (intro W hW; obtain ⟨hW0, hW1, hW2⟩ := hW; go_simp; first | done | with_reducible rfl)
          try simp only [List.getElem_toArray, List.getElem_cons_succ, List.getElem_cons_zero, Act.put, List.setIfInBounds_toArray, List.set_cons_zero, List.set_cons_succ]
          refine wpAnyH_ready (rs := [8]) (by kernel_rfl) (by simp) ?_
          refine AllReadyH.cons rfl (fun K hK => ?_) (AllReadyH.nil)
          go_simp
          refine HSC.out.mono ?_
          rintro e9 w5 ⟨rfl, hb5⟩
          have k5 := Keeps.of_below hb5
          have HB5 := Lib.hid ((HB.out.drew).trans (hb5.mono hz))
          clear hb5
          refine hK.out _ _ (⟨k5 _ _ x0, k5 _ _ x1, k5 _ _ y1⟩) (fun hHeld => ?_)
          clear hK K
          try simp only [List.getElem_toArray, List.getElem_cons_succ, List.getElem_cons_zero, Act.put, List.setIfInBounds_toArray, List.set_cons_zero, List.set_cons_succ]
          refine wpAnyH_take (i := 9) (v := ?va9) rfl (by kernel_rfl) (by kernel_rfl) (by kernel_rfl) (fun _ _ _ h => h) (Or.inl ⟨by rfl, ?ya9⟩) hHeld ?ra9
          case ya9 => (intro W hW; obtain ⟨hW0, hW1, hW2⟩ := hW; go_simp; first | done | with_reducible rfl)
          try simp only [List.getElem_toArray, List.getElem_cons_succ, List.getElem_cons_zero, Act.put, List.setIfInBounds_toArray, List.set_cons_zero, List.set_cons_succ]
          refine wpAnyH_take (i := 10) (v := ?va10) rfl (by kernel_rfl) (by kernel_rfl) (by kernel_rfl) (fun _ _ _ h => h) (Or.inl ⟨by rfl, ?ya10⟩) hHeld ?ra10
          case ya10 => (intro W hW; obtain ⟨hW0, hW1, hW2⟩ := hW; go_simp; first | done | with_reducible rfl)
          try simp only [List.getElem_toArray, List.getElem_cons_succ, List.getElem_cons_zero, Act.put, List.setIfInBounds_toArray, List.set_cons_zero, List.set_cons_succ]
          refine wpAnyH_done (by kernel_rfl) ?_ _
          go_wp2
          try rw [hw64]
          go_roundw
          case rel => exact ⟨k + 1, by go_num, by omega, by rw [HS2.out], HB5.out⟩
          case measure => simp [intOf]; omega
        | false =>
          rw [if_neg (by simp)] at hsb2
          have HSC := Lib.hid (rSort_any A q c mm cs n e.p wr.drew HFR.out.nums HFR.out.q4 HFR.out.c HFR.out.n0 HFR.out.n3 p0 p1)
          obtain ⟨ce, hcc⟩ : ∃ ce, ce = sortB cs n e.p := ⟨_, rfl⟩
          rw [← hcc] at HSC hsb2
          have hw64 : IntKind.i64.wrap (sm + ce) = sm + ce := IntWalk.i64_in _ (by omega)
          have HS2 := Lib.hid (show sumTo cs n es (k + 1) = sm + ce by rw [HSS.out, HCE.out, if_neg (by simp), ← hcc, HSM.out])
          clear hcc
          go_wp2_with fail
          refine wp_region_held_drew (S := fun W => W.cell? ⟨w.heap.size, 0, none⟩ = some (.slice A q c) ∧ W.cell? ⟨w.heap.size, 1, none⟩ = some (.int .i64 mm) ∧ W.cell? ⟨g0, o0 + k * 3 + 1, none⟩ = some (.int .i64 e.p)) (by kernel_rfl) ⟨x0, x1, y1⟩ (fun hHeld => ?_)
          refine wpAnyH_take (i := 0) (v := ?vb0) rfl (by kernel_rfl) (by kernel_rfl) (by kernel_rfl) (fun _ _ _ h => h) (Or.inl ⟨by rfl, ?yb0⟩) hHeld ?rb0
          case yb0 => (intro W hW; obtain ⟨hW0, hW1, hW2⟩ := hW; go_simp; first | done | with_reducible rfl)
          try simp only [List.getElem_toArray, List.getElem_cons_zero, Act.put, List.setIfInBounds_toArray, List.set_cons_zero, List.set_cons_succ]
          refine wpAnyH_take (i := 1) (v := ?vb1) rfl (by kernel_rfl) (by kernel_rfl) (by kernel_rfl) (fun _ _ _ h => h) (Or.inl ⟨by rfl, ?yb1⟩) hHeld ?rb1
          case yb1 => (intro W hW; obtain ⟨hW0, hW1, hW2⟩ := hW; go_simp; first | done | with_reducible rfl)
          try simp only [List.getElem_toArray, List.getElem_cons_succ, List.getElem_cons_zero, Act.put, List.setIfInBounds_toArray, List.set_cons_zero, List.set_cons_succ]
          refine wpAnyH_take (i := 2) (v := ?vb2) rfl (by kernel_rfl) (by kernel_rfl) (by kernel_rfl) (fun _ _ _ h => h) (Or.inl ⟨by rfl, ?yb2⟩) hHeld ?rb2
          case yb2 => (intro W hW; obtain ⟨hW0, hW1, hW2⟩ := hW; go_simp; first | done | with_reducible rfl)
          try simp only [List.getElem_toArray, List.getElem_cons_succ, List.getElem_cons_zero, Act.put, List.setIfInBounds_toArray, List.set_cons_zero, List.set_cons_succ]
          refine wpAnyH_take (i := 3) (v := ?vb3) rfl (by kernel_rfl) (by kernel_rfl) (by kernel_rfl) (fun _ _ _ h => h) (Or.inl ⟨by rfl, ?yb3⟩) hHeld ?rb3
          case yb3 => (intro W hW; obtain ⟨hW0, hW1, hW2⟩ := hW; go_simp; first | done | with_reducible rfl)
          try simp only [List.getElem_toArray, List.getElem_cons_succ, List.getElem_cons_zero, Act.put, List.setIfInBounds_toArray, List.set_cons_zero, List.set_cons_succ]
          refine wpAnyH_take (i := 4) (v := ?vb4) rfl (by kernel_rfl) (by kernel_rfl) (by kernel_rfl) (fun _ _ _ h => h) (Or.inl ⟨by rfl, ?yb4⟩) hHeld ?rb4
          case yb4 => (intro W hW; obtain ⟨hW0, hW1, hW2⟩ := hW; go_simp; first | done | with_reducible rfl)
          try simp only [List.getElem_toArray, List.getElem_cons_succ, List.getElem_cons_zero, Act.put, List.setIfInBounds_toArray, List.set_cons_zero, List.set_cons_succ]
          refine wpAnyH_take (i := 5) (v := ?vb5) rfl (by kernel_rfl) (by kernel_rfl) (by kernel_rfl) (fun _ _ _ h => h) (Or.inl ⟨by rfl, ?yb5⟩) hHeld ?rb5
          case yb5 => (intro W hW; obtain ⟨hW0, hW1, hW2⟩ := hW; go_simp; first | done | with_reducible rfl)
          try simp only [List.getElem_toArray, List.getElem_cons_succ, List.getElem_cons_zero, Act.put, List.setIfInBounds_toArray, List.set_cons_zero, List.set_cons_succ]
          refine wpAnyH_take (i := 6) (v := ?vb6) rfl (by kernel_rfl) (by kernel_rfl) (by kernel_rfl) (fun _ _ _ h => h) (Or.inl ⟨by rfl, ?yb6⟩) hHeld ?rb6
          case yb6 => (intro W hW; obtain ⟨hW0, hW1, hW2⟩ := hW; go_simp; first | done | with_reducible rfl)
          try simp only [List.getElem_toArray, List.getElem_cons_succ, List.getElem_cons_zero, Act.put, List.setIfInBounds_toArray, List.set_cons_zero, List.set_cons_succ]
          refine wpAnyH_take (i := 7) (v := ?vb7) rfl (by kernel_rfl) (by kernel_rfl) (by kernel_rfl) (fun _ _ _ h => h) (Or.inl ⟨by rfl, ?yb7⟩) hHeld ?rb7
          case yb7 => (intro W hW; obtain ⟨hW0, hW1, hW2⟩ := hW; go_simp; first | done | with_reducible rfl)
          try simp only [List.getElem_toArray, List.getElem_cons_succ, List.getElem_cons_zero, Act.put, List.setIfInBounds_toArray, List.set_cons_zero, List.set_cons_succ]
          refine wpAnyH_ready (rs := [8]) (by kernel_rfl) (by simp) ?_
          refine AllReadyH.cons rfl (fun K hK => ?_) (AllReadyH.nil)
          go_simp
          refine HSC.out.mono ?_
          rintro e9 w5 ⟨rfl, hb5⟩
          have k5 := Keeps.of_below hb5
          have HB5 := Lib.hid ((HB.out.drew).trans (hb5.mono hz))
          clear hb5
          refine hK.out _ _ (⟨k5 _ _ x0, k5 _ _ x1, k5 _ _ y1⟩) (fun hHeld => ?_)
          clear hK K
          try simp only [List.getElem_toArray, List.getElem_cons_succ, List.getElem_cons_zero, Act.put, List.setIfInBounds_toArray, List.set_cons_zero, List.set_cons_succ]
          refine wpAnyH_take (i := 9) (v := ?vb9) rfl (by kernel_rfl) (by kernel_rfl) (by kernel_rfl) (fun _ _ _ h => h) (Or.inl ⟨by rfl, ?yb9⟩) hHeld ?rb9
          case yb9 => (intro W hW; obtain ⟨hW0, hW1, hW2⟩ := hW; go_simp; first | done | with_reducible rfl)
          try simp only [List.getElem_toArray, List.getElem_cons_succ, List.getElem_cons_zero, Act.put, List.setIfInBounds_toArray, List.set_cons_zero, List.set_cons_succ]
          refine wpAnyH_take (i := 10) (v := ?vb10) rfl (by kernel_rfl) (by kernel_rfl) (by kernel_rfl) (fun _ _ _ h => h) (Or.inl ⟨by rfl, ?yb10⟩) hHeld ?rb10
          case yb10 => (intro W hW; obtain ⟨hW0, hW1, hW2⟩ := hW; go_simp; first | done | with_reducible rfl)
          try simp only [List.getElem_toArray, List.getElem_cons_succ, List.getElem_cons_zero, Act.put, List.setIfInBounds_toArray, List.set_cons_zero, List.set_cons_succ]
          refine wpAnyH_done (by kernel_rfl) ?_ _
          go_wp2
          try rw [hw64]
          go_roundw
          case rel => exact ⟨k + 1, by go_num, by omega, by rw [HS2.out], HB5.out⟩
          case measure => simp [intOf]; omega
    · obtain rfl : k = m := by omega
      have hfin : sumTo cs n es k = costP cs n es := by
        unfold sumTo costP
        rw [List.take_of_length_le (by omega)]
      have HFI := Lib.hid hfin
      have HBW := Lib.hid (HB0.out.trans (HB.out.mono HB0.out.size))
      clear hfin
      rw [HFI.out]
      go_wp2
      go_ret
      exact ⟨rfl, HBW.out⟩
end Go.Proofs.YtjllmladhjbnaaaGreatDoor
