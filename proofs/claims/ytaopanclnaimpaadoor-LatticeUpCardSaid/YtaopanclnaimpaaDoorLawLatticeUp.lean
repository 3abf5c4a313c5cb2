/- The law LatticeUp. -/
import Derived.Test.YtaopanclnaimpaaDoorCnt
import Derived.IntWalk
namespace Go.Proofs.YtaopanclnaimpaaDoor
open Go.RowKit Go.Shelf
attribute [local go_sem] Oper.semAt_some
theorem up_tab : ∀ k : Fin 16, ∀ q : Fin 5, ∀ x ∈ parL k.val q.val, k.val < 2 ^ q.val → 0 ≤ x ∧ x < 2 ^ q.val ∧ lvl x = lvl k.val + 1 := by decide +kernel
theorem up_all : ∀ q : Fin 5, 1 ≤ q.val → ∀ v : Fin 16, v.val < 2 ^ q.val → (((seenL q.val (2 ^ q.val)).count (v.val : Int) : Nat) : Int) = lvl v.val := by decide +kernel
set_option maxRecDepth 100000 in
set_option maxHeartbeats 8000000 in
theorem latticeUp_walk (a0 : Int) (w : World) (h0 : inK .i64 a0) (hT : Tab w) (hw1 : 1 < w.heap.size) :
    Calls Tryd.prog 9 #[.int .i64 a0] w fun e w' => e = .returned (.bool true) ∧ Below w.heap.size w w' := by
  have HKn := Lib.hid (known8_any w hT hw1)
  have HT := Lib.hid hT
  have HWI := fun W => lwithin8 a0 4 W h0 (by omega) (by omega)
  obtain ⟨d, hd⟩ : ∃ d : Nat, a0 % 4 = (d : Int) - 1 := ⟨(a0 % 4).toNat + 1, by omega⟩
  rw [hd] at HWI
  have d1 : 1 ≤ d := by omega
  have d4 : d ≤ 4 := by omega
  have HWI := Lib.hid HWI
  obtain ⟨N, hN⟩ : ∃ N, N = 2 ^ d := ⟨_, rfl⟩
  obtain ⟨n16, n1⟩ := pow_16 d d4
  rw [← hN] at n16 n1
  have hsh : wrap64 (2 ^ d) = (N : Int) := by rw [shl_wrap d d4, hN, two_pow]
  have hds : 1 + ((d : Int) - 1) = d := by omega
  have hfb : fullB d = (N : Int) - 1 := by unfold fullB; rw [hN, two_pow]
  have HFB := Lib.hid hfb
  have HN := Lib.hid hN
  obtain ⟨i0, hi, hz0, hz1, hz2⟩ := info_parts infoI
  have hmk := fun W => make_ints (P := Tryd.prog) 22 3 i0 Tryd.underlying22 hi hz0 hz1 hz2 N (by omega) W
  have HMK := Lib.hid hmk
  clear hT hd hN hfb hmk i0 hi hz0 hz1 hz2
  go_enter Tryd.func9, Tryd.ntmps9
  go_wp2_with fail
  refine HKn.out.mono ?_
  rintro e w1 ⟨rfl, hb1⟩
  have Hb1 := Lib.hid hb1
  clear hb1 HKn
  go_wp2_with fail
  refine (HWI.out w1).mono ?_
  rintro e w' ⟨rfl, rfl⟩
  have hmk := HMK.out w1
  obtain ⟨w2, hw2⟩ : ∃ w2, w2 = w1.alloc (.cells (madeCells #[.int .i64 0] N) 3) := ⟨_, rfl⟩
  have harr := Arr.made w1 3 N
  have hb2 : Below w.heap.size w w2 := by rw [hw2]; exact Hb1.out.alloc Hb1.out.size _
  rw [← hw2] at hmk harr
  obtain ⟨g, hg⟩ : ∃ g, g = w1.heap.size := ⟨_, rfl⟩
  rw [← hg] at hmk harr
  rw [← cntL_nil] at harr
  have hgw : w.heap.size ≤ g := by rw [hg]; exact Hb1.out.size
  have Harr := Lib.hid harr
  have Hb2 := Lib.hid hb2
  clear hw2 harr hb2 hg
  go_wp2
  rw [hsh]
  go_loopw [5] (fun s wr => ∃ k : Nat, s = .int .i64 k ∧ k ≤ N ∧ Arr .i64 3 wr g (cntL (seenL d k) N) ∧ Below w.heap.size w wr) (fun s _ => N - (intOf s).toNat)
  case atStart => exact ⟨0, rfl, Nat.zero_le _, Harr.out, Hb2.out⟩
  case round =>
    obtain ⟨k, rfl, hk, harr, hb⟩ := hrel
    rename World => wr
    have Ha := Lib.hid harr
    have Hb := Lib.hid hb
    have hgr := harr.lt
    have hzr := hb.size
    clear harr hb
    by_cases hlt : k < N
    · have hlt' : (k : Int) < (N : Int) := by omega
      go_wp2_with fail
      refine (par_oi k d wr (by omega) (by rw [HFB.out]; omega) d1 d4 (HT.out.below Hb.out hw1) (by omega)).mono ?_
      rintro e w3 ⟨v, rfl, ho, hb3⟩
      have HF := Lib.hid ho.form
      have HO := Lib.hid ho
      have HB3 := Lib.hid (Hb.out.trans (hb3.mono hzr))
      have HA3 := Lib.hid (Ha.out.below hb3 hgr)
      have h4 := parL_le (k : Int) d
      have hUP := up_tab ⟨k, by omega⟩ ⟨d, by omega⟩
      dsimp only at hUP
      have HUP := Lib.hid hUP
      clear ho hb3 hUP
      obtain ⟨P, c, rfl, -, -, -, -⟩ := HF.out
      obtain ⟨lp, hlp⟩ : ∃ lp, lp = (parL (k : Int) d).length := ⟨_, rfl⟩
      rw [← hlp] at HO HF h4 ⊢
      have HLP := Lib.hid hlp
      clear hlp
      go_wp2
      go_loopw [7] (fun i wq => ∃ j : Nat, i = .int .i64 j ∧ j ≤ lp ∧ Arr .i64 3 wq g (cntL (seenL d k ++ (parL (k : Int) d).take j) N) ∧ OI wr.heap.size wq (.slice P lp c) (parL (k : Int) d) ∧ Below w.heap.size w wq) (fun i _ => lp - (intOf i).toNat)
      case atStart => exact ⟨0, rfl, Nat.zero_le _, by simpa using HA3.out, HO.out, HB3.out⟩
      case round =>
        obtain ⟨j, rfl, hj, harr, ho, hb⟩ := hrel
        rename World => wq
        have Hq := Lib.hid harr
        have HOq := Lib.hid ho
        have HBq := Lib.hid hb
        have hgq := harr.lt
        have hzq := hb.size
        obtain ⟨P', c', e', -, -, hnq, -⟩ := ho.form
        injection e' with e1 e2 e3
        subst e1
        clear harr ho hb e2 e3
        by_cases hjl : j < lp
        · obtain ⟨ad, y, rfl, hy, -, hcell⟩ := hnq.at_ (k := j) (by rw [← HLP.out]; exact hjl)
          obtain ⟨y0, y1, y2⟩ := HUP.out y (List.mem_of_getElem? hy) (by rw [← HN.out]; exact hlt)
          obtain ⟨x, rfl⟩ : ∃ x : Nat, y = (x : Int) := ⟨y.toNat, by omega⟩
          have y3 : x < N := by rw [HN.out]; rw [← two_pow] at y1; omega
          have y3' : (x : Int) < (N : Int) := by omega
          have i0 : (0 : Int) ≤ (j : Int) := by omega
          have i1 : (j : Int) < (lp : Int) := by omega
          obtain ⟨l0, l4⟩ := lvl_bd (k : Int)
          have Hy := Lib.hid hy
          have Y2 := Lib.hid y2
          have HC := Lib.hid hcell
          clear hy y2 hnq y1
          go_wp2_with fail
          refine (level_any x wq (by omega) (by omega) (HT.out.below HBq.out hw1) (by omega)).mono ?_
          rintro e w4 ⟨rfl, hb4, -⟩
          have HB4 := Lib.hid (HBq.out.trans (hb4.mono hzq))
          have HA4 := Lib.hid (Hq.out.below hb4 hgq)
          have HO4 := Lib.hid (HOq.out.below hb4)
          have hc4 := (Keeps.of_below hb4) _ _ HC.out
          have hz4 := hb4.size
          clear hb4 hcell
          rw [Y2.out]
          go_wp2_with fail
          refine (level_any k w4 (by omega) (by omega) (HT.out.below HB4.out hw1) (by omega)).mono ?_
          rintro e w5 ⟨rfl, hb5, -⟩
          have HB5 := Lib.hid (HB4.out.trans (hb5.mono (by omega)))
          have ha5 := HA4.out.below hb5 (by omega)
          have HO5 := Lib.hid (HO4.out.below hb5)
          have hc5 := (Keeps.of_below hb5) _ _ hc4
          have hcnt := ha5.cell (cntL_at (seenL d k ++ (parL (k : Int) d).take j) y3)
          have hfz := ha5.frozen x
          obtain ⟨u, hu⟩ : ∃ u : Nat, u = (seenL d k ++ (parL (k : Int) d).take j).count (x : Int) := ⟨_, rfl⟩
          rw [← hu] at hcnt
          have hu2 : u ≤ 100 := by
            rw [hu]
            refine Nat.le_trans List.count_le_length ?_
            rw [List.length_append, List.length_take]
            have := seenL_le d k
            omega
          have HA5 := Lib.hid ha5
          have HU := Lib.hid hu
          clear hb5 hc4 ha5 hu
          go_wp2
          go_roundw
          case rel => exact ⟨j + 1, by go_num, by omega, by
            have e1 : seenL d k ++ (parL (k : Int) d).take (j + 1) = (seenL d k ++ (parL (k : Int) d).take j) ++ [(x : Int)] := by
              rw [List.append_assoc, take_at Hy.out]
            rw [e1, ← cntL_snoc, ← HU.out]
            exact HA5.out.set_ _ _, HO5.out.set hgr, HB5.out.setCell hgw _⟩
          case measure => simp [intOf]; omega
        · obtain rfl : j = lp := by omega
          clear hnq
          go_wp2
          go_roundw
          case rel => exact ⟨k + 1, by go_num, by omega, by
            have e1 : seenL d (k + 1) = seenL d k ++ (parL (k : Int) d).take j := by rw [seenL_snoc, HLP.out, List.take_length]
            rw [e1]
            exact Hq.out, HBq.out⟩
          case measure => simp [intOf]; omega
    · obtain rfl : k = N := by omega
      clear hlt hk
      go_wp2
      rw [hsh]
      go_loopw [8] (fun s wq => ∃ j : Nat, s = .int .i64 j ∧ j ≤ k ∧ Below wr.heap.size wr wq) (fun s _ => k - (intOf s).toNat)
      case atStart => exact ⟨0, rfl, Nat.zero_le _, Below.refl _ _⟩
      case round =>
        obtain ⟨j, rfl, hj, hbq⟩ := hrel
        rename World => wq
        have HBq := Lib.hid (Hb.out.trans (hbq.mono hzr))
        have HBr := Lib.hid hbq
        have hzq := hbq.size
        have ha := Ha.out.below hbq hgr
        have HAq := Lib.hid ha
        clear hbq ha
        by_cases hjl : j < k
        · have i0 : (0 : Int) ≤ (j : Int) := by omega
          have i1 : (j : Int) < (k : Int) := by omega
          have hcell := HAq.out.cell (cntL_at (seenL d k) hjl)
          have hall := up_all ⟨d, by omega⟩ d1 ⟨j, by omega⟩ (by rw [← HN.out]; exact hjl)
          dsimp only at hall
          rw [← HN.out] at hall
          rw [hall] at hcell
          have HC := Lib.hid (show wq.drew.cell? ⟨g, j, none⟩ = some (.int .i64 (lvl (j : Int))) from hcell)
          have HL := Lib.hid (level_any j wq.drew (by omega) (by omega) (HT.out.below HBq.out.drew hw1) (by show 1 < wq.heap.size; omega))
          obtain ⟨lv, hlv⟩ : ∃ lv, lv = lvl (j : Int) := ⟨_, rfl⟩
          rw [← hlv] at HC HL
          clear hcell hall hlv
          go_wp2_with fail
          refine wp_region_held_drew (S := fun W => W.cell? ⟨g, j, none⟩ = some (.int .i64 lv)) (by kernel_rfl) HC.out (fun hHeld => ?_)
          refine wpAnyH_take (i := 0) (v := ?vu0) rfl (by kernel_rfl) (by kernel_rfl) (by kernel_rfl) (fun _ _ _ h => h) (Or.inl ⟨by rfl, ?yu0⟩) hHeld ?ru0
          case yu0 => (intro W hW; go_simp; first | done | with_reducible rfl)
          try simp only [List.getElem_toArray, List.getElem_cons_zero, Act.put, List.setIfInBounds_toArray, List.set_cons_zero, List.set_cons_succ]
          refine wpAnyH_take (i := 1) (v := ?vu1) rfl (by kernel_rfl) (by kernel_rfl) (by kernel_rfl) (fun _ _ _ h => h) (Or.inl ⟨by rfl, ?yu1⟩) hHeld ?ru1
          case yu1 => (intro W hW; go_simp; first | done | with_reducible rfl)
          try simp only [List.getElem_toArray, List.getElem_cons_succ, List.getElem_cons_zero, Act.put, List.setIfInBounds_toArray, List.set_cons_zero, List.set_cons_succ]
          refine wpAnyH_take (i := 2) (v := ?vu2) rfl (by kernel_rfl) (by kernel_rfl) (by kernel_rfl) (fun _ _ _ h => h) (Or.inl ⟨by rfl, ?yu2⟩) hHeld ?ru2
          case yu2 => (intro W hW; go_simp; first | done | with_reducible rfl)
          try simp only [List.getElem_toArray, List.getElem_cons_succ, List.getElem_cons_zero, Act.put, List.setIfInBounds_toArray, List.set_cons_zero, List.set_cons_succ]
          refine wpAnyH_take (i := 3) (v := ?vu3) rfl (by kernel_rfl) (by kernel_rfl) (by kernel_rfl) (fun _ _ _ h => h) (Or.inl ⟨by rfl, ?yu3⟩) hHeld ?ru3
          case yu3 => (intro W hW; go_simp; first | done | with_reducible rfl)
          try simp only [List.getElem_toArray, List.getElem_cons_succ, List.getElem_cons_zero, Act.put, List.setIfInBounds_toArray, List.set_cons_zero, List.set_cons_succ]
          refine wpAnyH_take (i := 4) (v := ?vu4) rfl (by kernel_rfl) (by kernel_rfl) (by kernel_rfl) (fun _ _ _ h => h) (Or.inl ⟨by rfl, ?yu4⟩) hHeld ?ru4
          case yu4 => (intro W hW; go_simp; first | done | with_reducible rfl)
          try simp only [List.getElem_toArray, List.getElem_cons_succ, List.getElem_cons_zero, Act.put, List.setIfInBounds_toArray, List.set_cons_zero, List.set_cons_succ]
          refine wpAnyH_ready (rs := [5]) (by kernel_rfl) (by simp) ?_
          refine AllReadyH.cons rfl (fun K hK => ?_) (AllReadyH.nil)
          go_simp
          refine HL.out.mono ?_
          rintro e w5 ⟨rfl, hb5, -⟩
          have HH5 := Lib.hid ((Keeps.of_below hb5) _ _ HC.out)
          have HB5 := Lib.hid hb5
          clear hb5
          go_wp2_with fail
          refine hK.out _ _ (HH5.out) (fun hHeld => ?_)
          clear hK K
          try simp only [List.getElem_toArray, List.getElem_cons_succ, List.getElem_cons_zero, Act.put, List.setIfInBounds_toArray, List.set_cons_zero, List.set_cons_succ]
          refine wpAnyH_take (i := 6) (v := ?vu6) rfl (by kernel_rfl) (by kernel_rfl) (by kernel_rfl) (fun _ _ _ h => h) (Or.inl ⟨by rfl, ?yu6⟩) hHeld ?ru6
          case yu6 => (intro W hW; go_simp; first | done | with_reducible rfl)
          try simp only [List.getElem_toArray, List.getElem_cons_succ, List.getElem_cons_zero, Act.put, List.setIfInBounds_toArray, List.set_cons_zero, List.set_cons_succ]
          refine wpAnyH_done (by kernel_rfl) ?_ _
          go_wp2
          go_roundw
          case rel => exact ⟨j + 1, by go_num, by omega, HBr.out.trans (((Below.refl _ wq).drew.trans HB5.out).mono HBr.out.size)⟩
          case measure => simp [intOf]; omega
        · obtain rfl : j = k := by omega
          go_wp2
          go_ret
          exact ⟨rfl, HBq.out⟩
end Go.Proofs.YtaopanclnaimpaaDoor
