/- The walk of the law LedgerApart: the Go text returns true, and writes nothing that was there. -/
import Derived.Test.YtmckiokiegcalaaLedRow
import Derived.Test.YtmckiokiegcalaaRegion
import Derived.Deep.CutRange
import Derived.Deep.DeepCutAuto
namespace Go.Proofs.Ytmckiokiegcalaa
open Go.RowKit
set_option maxRecDepth 100000 in
set_option maxHeartbeats 8000000 in
theorem ledgerApart_walk (a0 : Option Addr) (len0 cap0 : Nat) (z0 : List Int) (a1 : Option Addr) (len1 cap1 : Nat) (z1 : List Int) (w : World) (w0 : IsRow .i64 w a0 len0 cap0 z0) (w1 : IsRow .i64 w a1 len1 cap1 z1) :
    Calls Try.prog 7 #[.slice a0 len0 cap0, .slice a1 len1 cap1] w fun e w' => e = .returned (.bool true) ∧ Below w.heap.size w w' := by
  obtain ⟨hx, hlc, hcap⟩ := w0.nums
  obtain ⟨hy, hlc1, hcap1⟩ := w1.nums
  obtain ⟨xs, hxs⟩ : ∃ xs, xs = z0.take len0 := ⟨_, rfl⟩
  obtain ⟨ys, hys⟩ : ∃ ys, ys = z1.take len1 := ⟨_, rfl⟩
  rw [← hxs] at hx
  rw [← hys] at hy
  have Hx := Lib.hid hx
  have Hy := Lib.hid hy
  clear hxs hys w0 w1 hx hy
  go_enter Try.func7, Try.ntmps7
  go_wp2_with fail
  refine (known3 w).mono ?_
  rintro e w1 ⟨rfl, hb1⟩
  have Hb := Lib.hid hb1
  clear hb1
  go_wp2_with fail
  refine (new_l Hb.out 50 (by omega)).mono ?_
  rintro e w2 ⟨rfl, h1, -⟩
  have h := Lib.hid h1
  clear h1 Hb
  generalize w1.heap.size = g at h ⊢
  go_wp2_with fail
  refine (new_r h.out.bel 50 (by omega)).mono ?_
  rintro e w3 ⟨rfl, h1, h2⟩
  have hne : g ≠ w2.heap.size := by have := h.out.at_.lt; omega
  have h := Lib.hid (h.out.below h2)
  have hB := Lib.hid h1
  clear h1 h2
  generalize w2.heap.size = g2 at h hB hne ⊢
  go_wp2_with fail
  refine (new_l h.out.bel 20 (by omega)).mono ?_
  rintro e w4 ⟨rfl, h1, h2⟩
  have hne1 : g ≠ w3.heap.size := by have := h.out.at_.lt; omega
  have hne2 : g2 ≠ w3.heap.size := by have := hB.out.at_.lt; omega
  have h := Lib.hid (h.out.below h2)
  have hB := Lib.hid (hB.out.below h2)
  have hC := Lib.hid h1
  clear h1 h2
  generalize w3.heap.size = g3 at h hB hC hne1 hne2 ⊢
  go_wp2_with fail
  go_loopw [8] (fun i wr => ∃ (k : Nat) (s s3 : LS), k ≤ len0 ∧ i = .int .i64 k ∧ L w wr g s ∧ R w wr g2 s ∧ L w wr g3 s3) (fun i _ => len0 - (intOf i).toNat)
  case atStart => exact ⟨0, LS.new 50, LS.new 20, by omega, rfl, h.out, hB.out, hC.out⟩
  case round =>
    obtain ⟨k, s, s3, hk, rfl, hL, hM, hC2⟩ := hrel
    have HL := Lib.hid hL
    have HM := Lib.hid hM
    have HC := Lib.hid hC2
    clear h hB hC hL hM hC2
    by_cases hgo : k < len0 ∧ k < 40
    · obtain ⟨hlt, h40⟩ := hgo
      obtain ⟨ad, x, rfl, hxk, hx0, hxw⟩ := Hx.out.at_ hlt
      obtain ⟨hx1, hx2⟩ := hx0
      have Hxw := Lib.hid hxw
      obtain ⟨z, hz⟩ : ∃ z, z = x.tdiv 20 := ⟨_, rfl⟩
      have hz20 : IntKind.i64.wrap (x.tdiv 20) = z := by rw [hz]; exact IntWalk.i64_in _ (tdiv_in (k := x) ⟨hx1, hx2⟩ (by omega))
      have hzin : inK .i64 z := by rw [hz]; exact tdiv_in (k := x) ⟨hx1, hx2⟩ (by omega)
      have hz20' : x.tdiv 20 = z := hz.symm
      obtain ⟨q, hq⟩ : ∃ q, q = x % 20 := ⟨_, rfl⟩
      have q1 : 0 ≤ q := by omega
      have q2 : q ≤ 19 := by omega
      obtain ⟨p, hp⟩ : ∃ p, p = z % 20 := ⟨_, rfl⟩
      have p1 : 0 ≤ p := by omega
      have p2 : p ≤ 19 := by omega
      have Hq := Lib.hid hq
      have Hp := Lib.hid hp
      have Hz := Lib.hid hz20
      have Hz' := Lib.hid hz20'
      have Hzin := Lib.hid hzin
      clear hxk hxw hz hq hp hz20 hz20' hzin
      have d40 : decide ((k : Int) < 40) = true := by simp; omega
      go_upto_if 33 with (fail)
      go_cut [] from 33 to 49 (fun wx => L w wx g s ∧ R w wx g2 s ∧ ∃ s', L w wx g3 s')
      case first =>
        by_cases hm : k < len1
        · obtain ⟨bd, y, rfl, hyk, hy0, hyw⟩ := Hy.out.at_ hm
          obtain ⟨hy1, hy2⟩ := hy0
          have hyc : wr.cell? (bd.add k) = some (.int .i64 y) := Keeps.of_below HC.out.bel _ _ hyw
          have Hyw := Lib.hid hyw
          obtain ⟨u, hu⟩ : ∃ u, u = y % 9 := ⟨_, rfl⟩
          have u1 : 0 ≤ u := by omega
          have u2 : u ≤ 8 := by omega
          have Hu := Lib.hid hu
          clear hyk hyw hu
          go_wp2_with fail
          refine (wi3 y 9 _ ⟨hy1, hy2⟩ (by omega) (by omega)).mono ?_
          rintro e w5 ⟨rfl, rfl⟩
          rw [← Hu.out]
          go_wp2_with fail
          refine (take_l HC.out u (by simp only [inK]; omega)).mono ?_
          rintro e w5 ⟨rfl, h1, h2⟩
          have HL := Lib.hid (HL.out.only h2 hne1 HC.out.low)
          have HM := Lib.hid (HM.out.only h2 hne2 HC.out.low)
          have HC := Lib.hid h1
          clear h1 h2
          have hyc : w5.cell? (bd.add k) = some (.int .i64 y) := Keeps.of_below HC.out.bel _ _ Hyw.out
          obtain ⟨v, hv⟩ : ∃ v, v = (y.tdiv 9) % 9 := ⟨_, rfl⟩
          have v1 : 0 ≤ v := by omega
          have v2 : v ≤ 8 := by omega
          have hyd := tdiv_in (k := y) (c := 9) ⟨hy1, hy2⟩ (by omega)
          have Hyd := Lib.hid hyd
          have Hv := Lib.hid hv
          clear hv hyd
          go_wp2_with fail
          refine (wi3 (y.tdiv 9) 9 _ Hyd.out (by omega) (by omega)).mono ?_
          rintro e w6 ⟨rfl, rfl⟩
          rw [← Hv.out]
          go_wp2_with fail
          refine (give_l HC.out v (by simp only [inK]; omega)).mono ?_
          rintro e w6 ⟨rfl, h1, h2⟩
          have HL := Lib.hid (HL.out.only h2 hne1 HC.out.low)
          have HM := Lib.hid (HM.out.only h2 hne2 HC.out.low)
          have HC := Lib.hid h1
          clear h1 h2
          go_wp2
          go_meet
          exact ⟨HL.out, HM.out, _, HC.out⟩
        · go_wp2
          go_meet
          exact ⟨HL.out, HM.out, _, HC.out⟩
      case rest =>
      obtain ⟨hl, hm, s4, hc⟩ := hcut
      rename World => wx
      have HL := Lib.hid hl
      have HM := Lib.hid hm
      have HC := Lib.hid hc
      have hxc : wx.cell? (ad.add k) = some (.int .i64 x) := Keeps.of_below HL.out.bel _ _ Hxw.out
      have hk0 : (0 : Int) ≤ (k : Int) := by omega
      have hk1 : (k : Int) < (len0 : Int) := by omega
      have HLd : Hid (L w wx.drew g s) := Lib.hid ⟨HL.out.at_, HL.out.ok, HL.out.low, HL.out.bel.drew⟩
      have HMd : Hid (R w wx.drew g2 s) := Lib.hid ⟨HM.out.at_, HM.out.ok, HM.out.low, HM.out.bel.drew⟩
      have HCd : Hid (L w wx.drew g3 s4) := Lib.hid ⟨HC.out.at_, HC.out.ok, HC.out.low, HC.out.bel.drew⟩
      clear hl hm hc HL HM HC
      go_wp2_with fail
      refine wp_region_held_drew (S := fun W => W.cell? (ad.add k) = some (.int .i64 x)) (by kernel_rfl) (by exact hxc) (fun hHeld => ?_)
      refine wpAnyH_take (i := 0) (v := ?v0) rfl (by kernel_rfl) (by kernel_rfl) (by kernel_rfl) (fun _ _ _ h => h) (Or.inl ⟨by rfl, ?y0⟩) hHeld ?r0
      case y0 => (intro W hW; go_simp; first | done | with_reducible rfl)
      try simp only [List.getElem_toArray, List.getElem_cons_zero, Act.put, List.setIfInBounds_toArray, List.set_cons_zero, List.set_cons_succ]
      refine wpAnyH_take (i := 1) (v := ?v1) rfl (by kernel_rfl) (by kernel_rfl) (by kernel_rfl) (fun _ _ _ h => h) (Or.inl ⟨by rfl, ?y1⟩) hHeld ?r1
      case y1 => (intro W hW; go_simp; first | done | with_reducible rfl)
      try simp only [List.getElem_toArray, List.getElem_cons_succ, List.getElem_cons_zero, Act.put, List.setIfInBounds_toArray, List.set_cons_zero, List.set_cons_succ]
      refine wpAnyH_take (i := 2) (v := ?v2) rfl (by kernel_rfl) (by kernel_rfl) (by kernel_rfl) (fun _ _ _ h => h) (Or.inl ⟨by rfl, ?y2⟩) hHeld ?r2
      case y2 => (intro W hW; go_simp; first | done | with_reducible rfl)
      try simp only [List.getElem_toArray, List.getElem_cons_succ, List.getElem_cons_zero, Act.put, List.setIfInBounds_toArray, List.set_cons_zero, List.set_cons_succ]
      refine wpAnyH_take (i := 3) (v := ?v3) rfl (by kernel_rfl) (by kernel_rfl) (by kernel_rfl) (fun _ _ _ h => h) (Or.inl ⟨by rfl, ?y3⟩) hHeld ?r3
      case y3 => (intro W hW; go_simp; first | done | with_reducible rfl)
      try simp only [List.getElem_toArray, List.getElem_cons_succ, List.getElem_cons_zero, Act.put, List.setIfInBounds_toArray, List.set_cons_zero, List.set_cons_succ]
      refine wpAnyH_take (i := 4) (v := ?v4) rfl (by kernel_rfl) (by kernel_rfl) (by kernel_rfl) (fun _ _ _ h => h) (Or.inl ⟨by rfl, ?y4⟩) hHeld ?r4
      case y4 => (intro W hW; go_simp; first | done | with_reducible rfl)
      try simp only [List.getElem_toArray, List.getElem_cons_succ, List.getElem_cons_zero, Act.put, List.setIfInBounds_toArray, List.set_cons_zero, List.set_cons_succ]
      refine wpAnyH_take (i := 7) (v := ?v7) rfl (by kernel_rfl) (by kernel_rfl) (by kernel_rfl) (fun _ _ _ h => h) (Or.inl ⟨by rfl, ?y7⟩) hHeld ?r7
      case y7 => (intro W hW; go_simp; first | done | with_reducible rfl)
      try simp only [List.getElem_toArray, List.getElem_cons_succ, List.getElem_cons_zero, Act.put, List.setIfInBounds_toArray, List.set_cons_zero, List.set_cons_succ]
      refine wpAnyH_take (i := 8) (v := ?v8) rfl (by kernel_rfl) (by kernel_rfl) (by kernel_rfl) (fun _ _ _ h => h) (Or.inl ⟨by rfl, ?y8⟩) hHeld ?r8
      case y8 => (intro W hW; go_simp; first | done | with_reducible rfl)
      try simp only [List.getElem_toArray, List.getElem_cons_succ, List.getElem_cons_zero, Act.put, List.setIfInBounds_toArray, List.set_cons_zero, List.set_cons_succ]
      refine wpAnyH_take (i := 9) (v := ?v9) rfl (by kernel_rfl) (by kernel_rfl) (by kernel_rfl) (fun _ _ _ h => h) (Or.inl ⟨by rfl, ?y9⟩) hHeld ?r9
      case y9 => (intro W hW; go_simp; first | done | with_reducible rfl)
      try simp only [List.getElem_toArray, List.getElem_cons_succ, List.getElem_cons_zero, Act.put, List.setIfInBounds_toArray, List.set_cons_zero, List.set_cons_succ]
      refine wpAnyH_take (i := 10) (v := ?v10) rfl (by kernel_rfl) (by kernel_rfl) (by kernel_rfl) (fun _ _ _ h => h) (Or.inl ⟨by rfl, ?y10⟩) hHeld ?r10
      case y10 => (intro W hW; go_simp; first | done | with_reducible rfl)
      try simp only [List.getElem_toArray, List.getElem_cons_succ, List.getElem_cons_zero, Act.put, List.setIfInBounds_toArray, List.set_cons_zero, List.set_cons_succ]
      refine wpAnyH_take (i := 11) (v := ?v11) rfl (by kernel_rfl) (by kernel_rfl) (by kernel_rfl) (fun _ _ _ h => h) (Or.inl ⟨by rfl, ?y11⟩) hHeld ?r11
      case y11 => (intro W hW; go_simp; first | done | with_reducible rfl)
      try simp only [List.getElem_toArray, List.getElem_cons_succ, List.getElem_cons_zero, Act.put, List.setIfInBounds_toArray, List.set_cons_zero, List.set_cons_succ]
      refine wpAnyH_ready (rs := [5]) (by kernel_rfl) (by simp) ?_
      refine AllReadyH.cons rfl (fun K hK => ?_) AllReadyH.nil
      go_simp
      refine (wi3 x 20 _ ⟨hx1, hx2⟩ (by omega) (by omega)).mono ?_
      rintro e w6 ⟨rfl, rfl⟩
      rw [← Hq.out]
      go_wp2_with fail
      refine hK.out _ _ ?_ (fun hHeld => ?_)
      · exact hxc
      clear hK K
      try simp only [List.getElem_toArray, List.getElem_cons_succ, List.getElem_cons_zero, Act.put, List.setIfInBounds_toArray, List.set_cons_zero, List.set_cons_succ]
      refine wpAnyH_ready (rs := [6]) (by kernel_rfl) (by simp) ?_
      refine AllReadyH.cons rfl (fun K hK => ?_) AllReadyH.nil
      go_simp
      refine (take_l HLd.out q (by simp only [inK]; omega)).mono ?_
      rintro e w7 ⟨rfl, h1, h2⟩
      have HMd := Lib.hid (HMd.out.only h2 (Ne.symm hne) HLd.out.low)
      have HCd := Lib.hid (HCd.out.only h2 (Ne.symm hne1) HLd.out.low)
      have HLd := Lib.hid h1
      have hxc : w7.cell? (ad.add k) = some (.int .i64 x) := Keeps.of_below HLd.out.bel _ _ Hxw.out
      clear h1 h2
      go_wp2_with fail
      refine hK.out _ _ ?_ (fun hHeld => ?_)
      · exact hxc
      clear hK K
      try simp only [List.getElem_toArray, List.getElem_cons_succ, List.getElem_cons_zero, Act.put, List.setIfInBounds_toArray, List.set_cons_zero, List.set_cons_succ]
      refine wpAnyH_ready (rs := [12]) (by kernel_rfl) (by simp) ?_
      refine AllReadyH.cons rfl (fun K hK => ?_) AllReadyH.nil
      go_simp
      refine (wi3 x 20 _ ⟨hx1, hx2⟩ (by omega) (by omega)).mono ?_
      rintro e w6 ⟨rfl, rfl⟩
      rw [← Hq.out]
      go_wp2_with fail
      refine hK.out _ _ ?_ (fun hHeld => ?_)
      · exact hxc
      clear hK K
      try simp only [List.getElem_toArray, List.getElem_cons_succ, List.getElem_cons_zero, Act.put, List.setIfInBounds_toArray, List.set_cons_zero, List.set_cons_succ]
      refine wpAnyH_ready (rs := [13]) (by kernel_rfl) (by simp) ?_
      refine AllReadyH.cons rfl (fun K hK => ?_) AllReadyH.nil
      go_simp
      refine (take_r HMd.out q (by simp only [inK]; omega)).mono ?_
      rintro e w7 ⟨rfl, h1, h2⟩
      have HLd := Lib.hid (HLd.out.only h2 hne HMd.out.low)
      have HCd := Lib.hid (HCd.out.only h2 (Ne.symm hne2) HMd.out.low)
      have HMd := Lib.hid h1
      have hxc : w7.cell? (ad.add k) = some (.int .i64 x) := Keeps.of_below HMd.out.bel _ _ Hxw.out
      clear h1 h2
      go_wp2_with fail
      refine hK.out _ _ ?_ (fun hHeld => ?_)
      · exact hxc
      clear hK K
      try simp only [List.getElem_toArray, List.getElem_cons_succ, List.getElem_cons_zero, Act.put, List.setIfInBounds_toArray, List.set_cons_zero, List.set_cons_succ]
      generalize s.take q = s' at HLd HMd
      refine wpAnyH_take (i := 14) (v := ?v14) rfl (by kernel_rfl) (by kernel_rfl) (by kernel_rfl) (fun _ _ _ h => h) (Or.inl ⟨by rfl, ?y14⟩) hHeld ?r14
      case y14 => (intro W hW; go_simp; first | done | with_reducible rfl)
      try simp only [List.getElem_toArray, List.getElem_cons_succ, List.getElem_cons_zero, Act.put, List.setIfInBounds_toArray, List.set_cons_zero, List.set_cons_succ]
      refine wpAnyH_take (i := 15) (v := ?v15) rfl (by kernel_rfl) (by kernel_rfl) (by kernel_rfl) (fun _ _ _ h => h) (Or.inl ⟨by rfl, ?y15⟩) hHeld ?r15
      case y15 => (intro W hW; go_simp; first | done | with_reducible rfl)
      try simp only [List.getElem_toArray, List.getElem_cons_succ, List.getElem_cons_zero, Act.put, List.setIfInBounds_toArray, List.set_cons_zero, List.set_cons_succ]
      refine wpAnyH_take (i := 16) (v := ?v16) rfl (by kernel_rfl) (by kernel_rfl) (by kernel_rfl) (fun _ _ _ h => h) (Or.inl ⟨by rfl, ?y16⟩) hHeld ?r16
      case y16 => (intro W hW; go_simp; first | done | with_reducible rfl)
      try simp only [List.getElem_toArray, List.getElem_cons_succ, List.getElem_cons_zero, Act.put, List.setIfInBounds_toArray, List.set_cons_zero, List.set_cons_succ]
      refine wpAnyH_take (i := 17) (v := ?v17) rfl (by kernel_rfl) (by kernel_rfl) (by kernel_rfl) (fun _ _ _ h => h) (Or.inl ⟨by rfl, ?y17⟩) hHeld ?r17
      case y17 => (intro W hW; go_simp; first | done | with_reducible rfl)
      try simp only [List.getElem_toArray, List.getElem_cons_succ, List.getElem_cons_zero, Act.put, List.setIfInBounds_toArray, List.set_cons_zero, List.set_cons_succ]
      refine wpAnyH_take (i := 18) (v := ?v18) rfl (by kernel_rfl) (by kernel_rfl) (by kernel_rfl) (fun _ _ _ h => h) (Or.inl ⟨by rfl, ?y18⟩) hHeld ?r18
      case y18 => (intro W hW; go_simp; first | done | with_reducible rfl)
      try simp only [List.getElem_toArray, List.getElem_cons_succ, List.getElem_cons_zero, Act.put, List.setIfInBounds_toArray, List.set_cons_zero, List.set_cons_succ]
      refine wpAnyH_take (i := 19) (v := ?v19) rfl (by kernel_rfl) (by kernel_rfl) (by kernel_rfl) (fun _ _ _ h => h) (Or.inl ⟨by rfl, ?y19⟩) hHeld ?r19
      case y19 => (intro W hW; go_simp; first | done | with_reducible rfl)
      try simp only [List.getElem_toArray, List.getElem_cons_succ, List.getElem_cons_zero, Act.put, List.setIfInBounds_toArray, List.set_cons_zero, List.set_cons_succ]
      refine wpAnyH_take (i := 20) (v := ?v20) rfl (by kernel_rfl) (by kernel_rfl) (by kernel_rfl) (fun _ _ _ h => h) (Or.inl ⟨by rfl, ?y20⟩) hHeld ?r20
      case y20 => (intro W hW; go_simp; first | done | with_reducible rfl)
      try simp only [List.getElem_toArray, List.getElem_cons_succ, List.getElem_cons_zero, Act.put, List.setIfInBounds_toArray, List.set_cons_zero, List.set_cons_succ]
      refine wpAnyH_take (i := 21) (v := ?v21) rfl (by kernel_rfl) (by kernel_rfl) (by kernel_rfl) (fun _ _ _ h => h) (Or.inl ⟨by rfl, ?y21⟩) hHeld ?r21
      case y21 => (intro W hW; have hz := Hz.out; go_simp; first | done | with_reducible rfl)
      try simp only [List.getElem_toArray, List.getElem_cons_succ, List.getElem_cons_zero, Act.put, List.setIfInBounds_toArray, List.set_cons_zero, List.set_cons_succ]
      refine wpAnyH_take (i := 24) (v := ?v24) rfl (by kernel_rfl) (by kernel_rfl) (by kernel_rfl) (fun _ _ _ h => h) (Or.inl ⟨by rfl, ?y24⟩) hHeld ?r24
      case y24 => (intro W hW; go_simp; first | done | with_reducible rfl)
      try simp only [List.getElem_toArray, List.getElem_cons_succ, List.getElem_cons_zero, Act.put, List.setIfInBounds_toArray, List.set_cons_zero, List.set_cons_succ]
      refine wpAnyH_take (i := 25) (v := ?v25) rfl (by kernel_rfl) (by kernel_rfl) (by kernel_rfl) (fun _ _ _ h => h) (Or.inl ⟨by rfl, ?y25⟩) hHeld ?r25
      case y25 => (intro W hW; go_simp; first | done | with_reducible rfl)
      try simp only [List.getElem_toArray, List.getElem_cons_succ, List.getElem_cons_zero, Act.put, List.setIfInBounds_toArray, List.set_cons_zero, List.set_cons_succ]
      refine wpAnyH_take (i := 26) (v := ?v26) rfl (by kernel_rfl) (by kernel_rfl) (by kernel_rfl) (fun _ _ _ h => h) (Or.inl ⟨by rfl, ?y26⟩) hHeld ?r26
      case y26 => (intro W hW; go_simp; first | done | with_reducible rfl)
      try simp only [List.getElem_toArray, List.getElem_cons_succ, List.getElem_cons_zero, Act.put, List.setIfInBounds_toArray, List.set_cons_zero, List.set_cons_succ]
      refine wpAnyH_take (i := 27) (v := ?v27) rfl (by kernel_rfl) (by kernel_rfl) (by kernel_rfl) (fun _ _ _ h => h) (Or.inl ⟨by rfl, ?y27⟩) hHeld ?r27
      case y27 => (intro W hW; go_simp; first | done | with_reducible rfl)
      try simp only [List.getElem_toArray, List.getElem_cons_succ, List.getElem_cons_zero, Act.put, List.setIfInBounds_toArray, List.set_cons_zero, List.set_cons_succ]
      refine wpAnyH_take (i := 28) (v := ?v28) rfl (by kernel_rfl) (by kernel_rfl) (by kernel_rfl) (fun _ _ _ h => h) (Or.inl ⟨by rfl, ?y28⟩) hHeld ?r28
      case y28 => (intro W hW; go_simp; first | done | with_reducible rfl)
      try simp only [List.getElem_toArray, List.getElem_cons_succ, List.getElem_cons_zero, Act.put, List.setIfInBounds_toArray, List.set_cons_zero, List.set_cons_succ]
      refine wpAnyH_take (i := 29) (v := ?v29) rfl (by kernel_rfl) (by kernel_rfl) (by kernel_rfl) (fun _ _ _ h => h) (Or.inl ⟨by rfl, ?y29⟩) hHeld ?r29
      case y29 => (intro W hW; have hz := Hz.out; go_simp; first | done | with_reducible rfl)
      try simp only [List.getElem_toArray, List.getElem_cons_succ, List.getElem_cons_zero, Act.put, List.setIfInBounds_toArray, List.set_cons_zero, List.set_cons_succ]
      refine wpAnyH_ready (rs := [22]) (by kernel_rfl) (by simp) ?_
      refine AllReadyH.cons rfl (fun K hK => ?_) AllReadyH.nil
      go_simp
      refine (wi3 z 20 _ Hzin.out (by omega) (by omega)).mono ?_
      rintro e w6 ⟨rfl, rfl⟩
      rw [← Hp.out]
      go_wp2_with fail
      refine hK.out _ _ ?_ (fun hHeld => ?_)
      · exact hxc
      clear hK K
      try simp only [List.getElem_toArray, List.getElem_cons_succ, List.getElem_cons_zero, Act.put, List.setIfInBounds_toArray, List.set_cons_zero, List.set_cons_succ]
      refine wpAnyH_ready (rs := [23]) (by kernel_rfl) (by simp) ?_
      refine AllReadyH.cons rfl (fun K hK => ?_) AllReadyH.nil
      go_simp
      refine (give_l HLd.out p (by simp only [inK]; omega)).mono ?_
      rintro e w7 ⟨rfl, h1, h2⟩
      have HMd := Lib.hid (HMd.out.only h2 (Ne.symm hne) HLd.out.low)
      have HCd := Lib.hid (HCd.out.only h2 (Ne.symm hne1) HLd.out.low)
      have HLd := Lib.hid h1
      have hxc : w7.cell? (ad.add k) = some (.int .i64 x) := Keeps.of_below HLd.out.bel _ _ Hxw.out
      clear h1 h2
      go_wp2_with fail
      refine hK.out _ _ ?_ (fun hHeld => ?_)
      · exact hxc
      clear hK K
      try simp only [List.getElem_toArray, List.getElem_cons_succ, List.getElem_cons_zero, Act.put, List.setIfInBounds_toArray, List.set_cons_zero, List.set_cons_succ]
      refine wpAnyH_ready (rs := [30]) (by kernel_rfl) (by simp) ?_
      refine AllReadyH.cons rfl (fun K hK => ?_) AllReadyH.nil
      go_simp
      refine (wi3 z 20 _ Hzin.out (by omega) (by omega)).mono ?_
      rintro e w6 ⟨rfl, rfl⟩
      rw [← Hp.out]
      go_wp2_with fail
      refine hK.out _ _ ?_ (fun hHeld => ?_)
      · exact hxc
      clear hK K
      try simp only [List.getElem_toArray, List.getElem_cons_succ, List.getElem_cons_zero, Act.put, List.setIfInBounds_toArray, List.set_cons_zero, List.set_cons_succ]
      refine wpAnyH_ready (rs := [31]) (by kernel_rfl) (by simp) ?_
      refine AllReadyH.cons rfl (fun K hK => ?_) AllReadyH.nil
      go_simp
      refine (give_r HMd.out p (by simp only [inK]; omega)).mono ?_
      rintro e w7 ⟨rfl, h1, h2⟩
      have HLd := Lib.hid (HLd.out.only h2 hne HMd.out.low)
      have HCd := Lib.hid (HCd.out.only h2 (Ne.symm hne2) HMd.out.low)
      have HMd := Lib.hid h1
      have hxc : w7.cell? (ad.add k) = some (.int .i64 x) := Keeps.of_below HMd.out.bel _ _ Hxw.out
      clear h1 h2
      go_wp2_with fail
      refine hK.out _ _ ?_ (fun hHeld => ?_)
      · exact hxc
      clear hK K
      try simp only [List.getElem_toArray, List.getElem_cons_succ, List.getElem_cons_zero, Act.put, List.setIfInBounds_toArray, List.set_cons_zero, List.set_cons_succ]
      generalize s'.give p = s'' at HLd HMd
      refine wpAnyH_take (i := 32) (v := ?v32) rfl (by kernel_rfl) (by kernel_rfl) (by kernel_rfl) (fun _ _ _ h => h) (Or.inl ⟨by rfl, ?y32⟩) hHeld ?r32
      case y32 => (intro W hW; go_simp; first | done | with_reducible rfl)
      try simp only [List.getElem_toArray, List.getElem_cons_succ, List.getElem_cons_zero, Act.put, List.setIfInBounds_toArray, List.set_cons_zero, List.set_cons_succ]
      refine wpAnyH_take (i := 33) (v := ?v33) rfl (by kernel_rfl) (by kernel_rfl) (by kernel_rfl) (fun _ _ _ h => h) (Or.inl ⟨by rfl, ?y33⟩) hHeld ?r33
      case y33 => (intro W hW; go_simp; first | done | with_reducible rfl)
      try simp only [List.getElem_toArray, List.getElem_cons_succ, List.getElem_cons_zero, Act.put, List.setIfInBounds_toArray, List.set_cons_zero, List.set_cons_succ]
      refine wpAnyH_take (i := 34) (v := ?v34) rfl (by kernel_rfl) (by kernel_rfl) (by kernel_rfl) (fun _ _ _ h => h) (Or.inl ⟨by rfl, ?y34⟩) hHeld ?r34
      case y34 => (intro W hW; go_simp; first | done | with_reducible rfl)
      try simp only [List.getElem_toArray, List.getElem_cons_succ, List.getElem_cons_zero, Act.put, List.setIfInBounds_toArray, List.set_cons_zero, List.set_cons_succ]
      refine wpAnyH_take (i := 35) (v := ?v35) rfl (by kernel_rfl) (by kernel_rfl) (by kernel_rfl) (fun _ _ _ h => h) (Or.inl ⟨by rfl, ?y35⟩) hHeld ?r35
      case y35 => (intro W hW; go_simp; first | done | with_reducible rfl)
      try simp only [List.getElem_toArray, List.getElem_cons_succ, List.getElem_cons_zero, Act.put, List.setIfInBounds_toArray, List.set_cons_zero, List.set_cons_succ]
      refine wpAnyH_take (i := 37) (v := ?v37) rfl (by kernel_rfl) (by kernel_rfl) (by kernel_rfl) (fun _ _ _ h => h) (Or.inl ⟨by rfl, ?y37⟩) hHeld ?r37
      case y37 => (intro W hW; go_simp; first | done | with_reducible rfl)
      try simp only [List.getElem_toArray, List.getElem_cons_succ, List.getElem_cons_zero, Act.put, List.setIfInBounds_toArray, List.set_cons_zero, List.set_cons_succ]
      refine wpAnyH_ready (rs := [36]) (by kernel_rfl) (by simp) ?_
      refine AllReadyH.cons rfl (fun K hK => ?_) AllReadyH.nil
      go_simp
      refine (used_l HLd.out _ rfl).mono ?_
      rintro e w8 ⟨rfl, rfl⟩
      go_wp2_with fail
      refine hK.out _ _ ?_ (fun hHeld => ?_)
      · exact hxc
      clear hK K
      try simp only [List.getElem_toArray, List.getElem_cons_succ, List.getElem_cons_zero, Act.put, List.setIfInBounds_toArray, List.set_cons_zero, List.set_cons_succ]
      refine wpAnyH_ready (rs := [38]) (by kernel_rfl) (by simp) ?_
      refine AllReadyH.cons rfl (fun K hK => ?_) AllReadyH.nil
      go_simp
      refine (used_r HMd.out _ rfl).mono ?_
      rintro e w8 ⟨rfl, rfl⟩
      go_wp2_with fail
      refine hK.out _ _ ?_ (fun hHeld => ?_)
      · exact hxc
      clear hK K
      try simp only [List.getElem_toArray, List.getElem_cons_succ, List.getElem_cons_zero, Act.put, List.setIfInBounds_toArray, List.set_cons_zero, List.set_cons_succ]
      refine wpAnyH_take (i := 39) (v := ?v39) rfl (by kernel_rfl) (by kernel_rfl) (by kernel_rfl) (fun _ _ _ h => h) (Or.inl ⟨by rfl, ?y39⟩) hHeld ?r39
      case y39 => (intro W hW; go_simp; first | done | with_reducible rfl)
      try simp only [List.getElem_toArray, List.getElem_cons_succ, List.getElem_cons_zero, Act.put, List.setIfInBounds_toArray, List.set_cons_zero, List.set_cons_succ]
      refine wpAnyH_take (i := 40) (v := ?v40) rfl (by kernel_rfl) (by kernel_rfl) (by kernel_rfl) (fun _ _ _ h => h) (Or.inl ⟨by rfl, ?y40⟩) hHeld ?r40
      case y40 => (intro W hW; go_simp; first | done | with_reducible rfl)
      try simp only [List.getElem_toArray, List.getElem_cons_succ, List.getElem_cons_zero, Act.put, List.setIfInBounds_toArray, List.set_cons_zero, List.set_cons_succ]
      refine wpAnyH_done (by kernel_rfl) ?_ _
      go_wp2
      exact ⟨⟨k + 1, s'', s4, by omega, by go_num, HLd.out, HMd.out, HCd.out⟩, by simp [intOf]; omega⟩
    · by_cases hlt : k < len0
      all_goals
        first | (have h40 : ¬ k < 40 := by omega) | skip
        clear hgo
        go_wp2_with fail
        refine (high_l HL.out _ rfl).mono ?_
        rintro e w5 ⟨rfl, rfl⟩
        go_wp2_with fail
        refine (high_r HM.out _ rfl).mono ?_
        rintro e w5 ⟨rfl, rfl⟩
        go_wp2
        go_ret
        exact ⟨rfl, HL.out.bel⟩
end Go.Proofs.Ytmckiokiegcalaa
