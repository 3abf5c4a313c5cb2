/- The walk of the law RecOrder: the Go text returns true, and writes nothing that was there. -/
import Derived.Test.YtbjlbambheogbaaSwap
import Derived.Test.YtbjlbambheogbaaOneRow
import Derived.Test.YtbjlbambheogbaaWithin
import Derived.Test.YtbjlbambheogbaaRefSound
import Derived.Test.YtbjlbambheogbaaRegion
import Derived.Deep.CutRange
import Derived.Deep.DeepCutAuto
import Derived.Deep.CutBlock
namespace Go.Proofs.Ytbjlbambheogbaa
open Go.RowKit
theorem oRows_small {xs : List Int} (h : ∀ x ∈ xs, inK .i64 x) : ∀ r ∈ xs.map endRow, (∀ x ∈ r.key, inK .i64 x) ∧ ∀ x ∈ r.m, inK .i64 x := by
  intro r hr
  obtain ⟨x, hx, rfl⟩ := List.mem_map.1 hr
  refine ⟨by simp [endRow, inK], fun y hy => ?_⟩
  simp [endRow] at hy
  subst hy
  exact h _ hx
theorem oRows_right (xs : List Int) : allRightB [1] 1 (xs.map endRow) = true := allRightB_yes (by decide) (by
  intro r hr
  obtain ⟨x, _, rfl⟩ := List.mem_map.1 hr
  simp [rightB, keysB, endRow])
theorem oSound (xs : List Int) : soundB [1] 1 (xs.map endRow) = soundsB 1 (xs.map endRow) := by
  unfold soundB
  rw [oRows_right]; rfl
set_option maxRecDepth 100000 in
set_option maxHeartbeats 8000000 in
theorem order_walk (a0 : Option Addr) (len0 cap0 : Nat) (z0 : List Int) (a1 : Option Addr) (len1 cap1 : Nat) (z1 : List Int) (w : World) (w0 : IsRow .i64 w a0 len0 cap0 z0) (w1 : IsRow .i64 w a1 len1 cap1 z1) :
    Calls Try.prog 13 #[.slice a0 len0 cap0, .slice a1 len1 cap1] w fun e w' => e = .returned (.bool true) ∧ Below w.heap.size w w' := by
  obtain ⟨hx, hlc, hcap⟩ := w0.nums
  obtain ⟨hy, hlc1, hcap1⟩ := w1.nums
  obtain ⟨xs, hxs⟩ : ∃ xs, xs = z0.take len0 := ⟨_, rfl⟩
  obtain ⟨ys, hys⟩ : ∃ ys, ys = z1.take len1 := ⟨_, rfl⟩
  rw [← hxs] at hx
  rw [← hys] at hy
  clear hxs hys w0 w1
  go_enter Try.func13, Try.ntmps13
  by_cases h60 : 60 < len0
  · go_wp2_with fail
    refine (known_any w).mono ?_
    rintro e w1 ⟨rfl, hb1⟩
    go_wp2
    go_ret
    exact ⟨rfl, hb1⟩
  · go_wp2_with fail
    refine (known_any w).mono ?_
    rintro e w1 ⟨rfl, hb1⟩
    have Hb1 := Lib.hid hb1
    clear hb1
    go_wp2_with fail
    obtain ⟨B, hB⟩ : ∃ B, B = w1.heap.size := ⟨_, rfl⟩
    rw [← hB]
    have a1 : Arr .i64 3 ((w1.alloc (.cells #[.int .i64 1] 3)).alloc (.cells #[.slice (some ⟨B, 0, none⟩) 1 1, .int .i64 1] 24)) B [1] := (Arr.new _ .i64 3 [1] B (by simp [hB])).alloc _
    have a2 : Box2 24 ((w1.alloc (.cells #[.int .i64 1] 3)).alloc (.cells #[.slice (some ⟨B, 0, none⟩) 1 1, .int .i64 1] 24)) (B + 1) (.slice (some ⟨B, 0, none⟩) 1 1) (.int .i64 1) := heap_new _ _ (B + 1) (by simp [hB])
    have a3 : Below w.heap.size w ((w1.alloc (.cells #[.int .i64 1] 3)).alloc (.cells #[.slice (some ⟨B, 0, none⟩) 1 1, .int .i64 1] 24)) := by
      have := Hb1.out.size
      exact (Hb1.out.alloc (by omega) _).alloc (by simp; omega) _
    have a4 : ((w1.alloc (.cells #[.int .i64 1] 3)).alloc (.cells #[.slice (some ⟨B, 0, none⟩) 1 1, .int .i64 1] 24)).heap.size = B + 2 := by simp [hB]
    have hwB : w.heap.size ≤ B := by rw [hB]; exact Hb1.out.size
    generalize (w1.alloc _).alloc _ = w2 at a1 a2 a3 a4 ⊢
    have A1 := Lib.hid a1
    have A2 := Lib.hid a2
    have A3 := Lib.hid a3
    have A4 := Lib.hid a4
    have Hx := Lib.hid hx
    have Hy := Lib.hid hy
    clear a1 a2 a3 a4 hB Hb1 hx hy
    go_loopw [6, 8] (fun v i wr => ∃ k : Nat, k ≤ len0 ∧ i = .int .i64 k ∧ RowsV wr (B + 2) v ((xs.take k).map endRow) ∧ Below (B + 2) w2 wr ∧ (k = 0 → v = .slice none 0 0)) (fun _ i _ => len0 - (intOf i).toNat)
    case atStart => exact ⟨0, by omega, rfl, by simpa using RowsV.nil _ _, Below.refl _ _, fun _ => rfl⟩
    case round =>
      obtain ⟨k, hk, rfl, hR, hb, hk0⟩ := hrel
      have Hb := Lib.hid hb
      have hBw : Below w.heap.size w wr := A3.out.trans (hb.mono (by omega))
      have HBw := Lib.hid hBw
      have hlk : ((xs.take k).map endRow).length = k := by rw [List.length_map, List.length_take, Hx.out.len]; exact Nat.min_eq_left hk
      have Hlk := Lib.hid hlk
      have Hk0 := Lib.hid hk0
      have hz : B + 2 ≤ wr.heap.size := by have := hb.size; rw [A4.out] at this; exact this
      clear hb hBw hlk hk0
      by_cases hlt : k < len0
      · obtain ⟨ad, x, rfl, hxk, ⟨hx1, hx2⟩, hxc⟩ := (Hx.out.keep (Keeps.of_below HBw.out)).at_ hlt
        have hxc2 : ∀ o, (wr.alloc o).cell? (ad.add k) = some (.int .i64 x) := fun o => ((Keeps.refl _).alloc o) _ _ hxc
        obtain ⟨v', w', hrun, hR', hb'⟩ := one_rowW wr (B + 2) (B + 2) _ _ x hz hz hR (by rw [Hlk.out]; omega)
        have e1 : (xs.take (k + 1)).map endRow = (xs.take k).map endRow ++ [endRow x] := by rw [take_snoc hxk, List.map_append]; rfl
        rw [← e1] at hR'
        have HR' := Lib.hid hR'
        have Hb' := Lib.hid (Hb.out.trans hb')
        have Hrun := Lib.hid hrun
        clear hxk hrun hR' hb' e1 hR hxc
        go_wp2_with (at_builtin; refine wpList_append_eq rfl (.tmp 25) (.tmp 33) 25 rfl _ _ _ _ rfl rfl Hrun.out ?_; clear Hrun)
        exact ⟨⟨k + 1, by omega, by go_num, HR'.out, Hb'.out, fun h => by omega⟩, by simp [intOf]; omega⟩
      · obtain rfl : k = len0 := by omega
        obtain ⟨l, hl⟩ : ∃ l, l = xs.map endRow := ⟨_, rfl⟩
        have hall : (xs.take k).map endRow = l := by rw [hl, List.take_of_length_le (Nat.le_of_eq Hx.out.len)]
        rw [hall] at hR Hlk
        have Hl := Lib.hid hl
        clear hl hall
        have hform : ∃ A c, u6 = .slice A k c := by
          obtain ⟨vs, _, h2, _⟩ := hR
          obtain ⟨A, c, hv, -⟩ := own_form h2
          rw [Hlk.out] at hv
          exact ⟨A, c, hv⟩
        obtain ⟨Al, cl, hv⟩ := hform
        subst hv
        have HR := Lib.hid hR
        clear hR
        go_upto_region 11 with (fail)
        go_cut [7] from 35 to 37 (fun s wx => ∃ Am cm, s = .slice Am k cm ∧ RowsW wx wr.heap.size (B + 2) (.slice Am k cm) l ∧ RowsW wx (B + 2) (B + 2) (.slice Al k cl) l ∧ Below wr.heap.size wr wx)
        case first =>
          by_cases h0 : k = 0
          · have hv0 := Hk0.out h0
            have hl0 : l = [] := List.eq_nil_of_length_eq_zero (by rw [Hlk.out]; exact h0)
            subst h0
            injection hv0 with hv1 hv2 hv3
            subst hv1 hv3
            have fin : ∃ Am cm, (Value.slice none 0 0) = .slice Am 0 cm ∧ RowsW wr wr.heap.size (B + 2) (.slice Am 0 cm) l ∧ RowsW wr (B + 2) (B + 2) (.slice none 0 0) l ∧ Below wr.heap.size wr wr := ⟨none, 0, rfl, by rw [hl0]; exact RowsW.nil _ _ _, HR.out, Below.refl _ _⟩
            have Fin := Lib.hid fin
            clear fin hl0 hv2
            go_wp2
            go_meet
            exact Fin.out
          · obtain ⟨g, c, hv, hgB⟩ := RowsW.form HR.out (by rw [Hlk.out]; omega)
            rw [Hlk.out] at hv
            injection hv with hv1 hv2 hv3
            subst hv1 hv3
            obtain ⟨v2, w3, hrun, hR2, hb2⟩ := append_rows wr (B + 2) wr.heap.size (B + 2) g k cl l HR.out Hlk.out (by omega) (by omega) (Nat.le_refl _) _ (World.ownsRow_nil _ _ _ _)
            obtain ⟨gm, cm, hv2, hgm⟩ := RowsW.form hR2 (by rw [Hlk.out]; omega)
            rw [Hlk.out] at hv2
            subst hv2
            have fin : ∃ Am cm', (Value.slice (some ⟨gm, 0, none⟩) k cm) = .slice Am k cm' ∧ RowsW w3 wr.heap.size (B + 2) (.slice Am k cm') l ∧ RowsW w3 (B + 2) (B + 2) (.slice (some ⟨g, 0, none⟩) k cl) l ∧ Below wr.heap.size wr w3 := ⟨_, _, rfl, hR2, RowsW.below HR.out hb2 (Nat.le_refl _), hb2⟩
            have Fin := Lib.hid fin
            have Hrun := Lib.hid hrun
            clear hrun hR2 hb2 fin
            go_wp2_with (at_builtin; have _t := Hrun; refine wpList_append_eq rfl (.tmp 35) (.tmp 36) 25 rfl _ _ _ _ rfl rfl Hrun.out ?_; clear _t Hrun)
            go_meet
            exact Fin.out
        case rest =>
          obtain ⟨Am, cm, rfl, hR2, hR1, hb2⟩ := hcut
          rename World => wx
          have HR2 := Lib.hid hR2
          have Hb2 := Lib.hid hb2
          clear hR2 hR1 hb2 Hk0
          go_upto_block 2 with (fail)
          go_cut [] (fun wy => ∃ lk, lk.Perm l ∧ RowsW wy wr.heap.size (B + 2) (.slice Am k cm) lk ∧ Below wr.heap.size wr wy)
          case first =>
            go_wp2_with fail
            go_loopw [9] (fun i wk => ∃ j : Nat, j ≤ 60 ∧ j ≤ len1 ∧ i = .int .i64 j ∧ ∃ lk, lk.Perm l ∧ RowsW wk wr.heap.size (B + 2) (.slice Am k cm) lk ∧ Below wr.heap.size wr wk) (fun i _ => 60 - (intOf i).toNat)
            case atStart => exact ⟨0, by omega, by omega, rfl, l, List.Perm.refl _, HR2.out, Hb2.out⟩
            case round =>
              rename World => wk
              obtain ⟨j, hj6, hj1, rfl, lk, hp, hRk, hbk⟩ := hrel
              have Hp := Lib.hid hp
              have HRk := Lib.hid hRk
              have Hbk := Lib.hid hbk
              clear hp hRk hbk HR2 Hb2
              by_cases hlt : j < len1 ∧ j < 60 ∧ 0 < k
              · obtain ⟨hl1, hl6, hkp⟩ := hlt
                obtain ⟨gm, cm', hv, hgm⟩ := RowsW.form HRk.out (by rw [Hp.out.length_eq, Hlk.out]; exact hkp)
                rw [Hp.out.length_eq, Hlk.out] at hv
                injection hv with hv1 hv2 hv3
                subst hv1 hv3
                clear hv2
                obtain ⟨yd, y, rfl, hy, ⟨hy1, hy2⟩, hyc⟩ := (Hy.out.keep (Keeps.of_below (HBw.out.trans (Hbk.out.mono HBw.out.size)))).at_ hl1
                obtain ⟨na, hna⟩ : ∃ na, na = j % k := ⟨_, rfl⟩
                have hna2 : (j : Int).tmod (k : Int) = (na : Int) := by rw [hna]; rfl
                have hnk : na < k := by rw [hna]; exact Nat.mod_lt _ hkp
                obtain ⟨nb, hnb⟩ : ∃ nb : Nat, y % (k : Int) = nb := Int.eq_ofNat_of_zero_le (Int.emod_nonneg y (by omega))
                have hnbk : nb < k := by have := Int.emod_lt_of_pos y (show (0 : Int) < k by omega); omega
                have wb := fun W => lwithin y k W ⟨hy1, hy2⟩ (by omega) (by omega)
                rw [hnb] at wb
                have Wb := Lib.hid wb
                have hlkl : lk.length = k := by rw [Hp.out.length_eq, Hlk.out]
                obtain ⟨x, hx⟩ : ∃ x, lk[na]? = some x := ⟨_, List.getElem?_eq_getElem (by omega)⟩
                obtain ⟨z, hz2⟩ : ∃ z, lk[nb]? = some z := ⟨_, List.getElem?_eq_getElem (by omega)⟩
                obtain ⟨ka, ma, kb, mb, ⟨q1, q2⟩, ⟨q3, q4⟩, hf, hgB2, ⟨⟨A5, d5, e5⟩, ⟨A6, d6, e6⟩, ⟨A7, d7, e7⟩, ⟨A8, d8, e8⟩⟩, ⟨⟨u1, hu1⟩, ⟨u2, hu2⟩⟩, hsw⟩ := RowsW.swap HRk.out hlkl hx hz2
                have hp2 := (swapL_perm hx hz2).trans Hp.out
                have Hp2 := Lib.hid hp2
                have Hsw := Lib.hid hsw
                have hf1 := hf (na * 2)
                have hf2 := hf (na * 2 + 1)
                have hf3 := hf (nb * 2)
                have hf4 := hf (nb * 2 + 1)
                obtain ⟨n5, hn5⟩ : ∃ n, n = x.key.length := ⟨_, rfl⟩
                obtain ⟨n6, hn6⟩ : ∃ n, n = x.m.length := ⟨_, rfl⟩
                obtain ⟨n7, hn7⟩ : ∃ n, n = z.key.length := ⟨_, rfl⟩
                obtain ⟨n8, hn8⟩ : ∃ n, n = z.m.length := ⟨_, rfl⟩
                rw [← hn5] at e5
                rw [← hn6] at e6
                rw [← hn7] at e7
                rw [← hn8] at e8
                subst e5 e6 e7 e8
                have i1 : (0 : Int) ≤ (na : Int) := by omega
                have i2 : (na : Int) < (k : Int) := by omega
                have i3 : (0 : Int) ≤ (nb : Int) := by omega
                have i4 : (nb : Int) < (k : Int) := by omega
                have i5 : (0 : Int) ≤ (j : Int) := by omega
                have i6 : (j : Int) < (len1 : Int) := by omega
                have hb4 : Below wr.heap.size wr ((((wk.setCell ⟨gm, na * 2, none⟩ (.slice A7 n7 d7)).setCell ⟨gm, na * 2 + 1, none⟩ (.slice A8 n8 d8)).setCell ⟨gm, nb * 2, none⟩ (.slice A5 n5 d5)).setCell ⟨gm, nb * 2 + 1, none⟩ (.slice A6 n6 d6)) := (((Hbk.out.setCell (by exact hgB2) _).setCell (by exact hgB2) _).setCell (by exact hgB2) _).setCell (by exact hgB2) _
                have Hb4 := Lib.hid (below_drewN (below_drewN hb4 1) 1)
                have Hna := Lib.hid hna2
                have hk00 : ¬ k = 0 := by omega
                clear hb4
                clear hna hnb wb hlkl hx hz2 hsw hp2 hf hn5 hn6 hn7 hn8 hy Hx Hl hna2
                go_upto_region 15 with (fail)
                refine wp_region_held_drew (S := fun W => Keeps wk W) (by kernel_rfl) ((Keeps.refl wk).drewN 1) (fun hHeld => ?_)
                refine wpAnyH_take (i := 0) (v := ?va0) rfl (by kernel_rfl) (by kernel_rfl) (by kernel_rfl) (fun _ _ _ h => h) (Or.inl ⟨by rfl, ?ya0⟩) hHeld ?ra0
                case ya0 => (intro W hW; go_simp; first | done | with_reducible rfl)
                try simp only [List.getElem_toArray, List.getElem_cons_zero, Act.put, List.setIfInBounds_toArray, List.set_cons_zero, List.set_cons_succ]
                refine wpAnyH_take (i := 1) (v := ?va1) rfl (by kernel_rfl) (by kernel_rfl) (by kernel_rfl) (fun _ _ _ h => h) (Or.inl ⟨by rfl, ?ya1⟩) hHeld ?ra1
                case ya1 => (intro W hW; go_simp; first | done | with_reducible rfl)
                try simp only [List.getElem_toArray, List.getElem_cons_succ, List.getElem_cons_zero, Act.put, List.setIfInBounds_toArray, List.set_cons_zero, List.set_cons_succ]
                refine wpAnyH_take (i := 2) (v := ?va2) rfl (by kernel_rfl) (by kernel_rfl) (by kernel_rfl) (fun _ _ _ h => h) (Or.inl ⟨by rfl, ?ya2⟩) hHeld ?ra2
                case ya2 => (intro W hW; go_simp; first | done | with_reducible rfl)
                try simp only [List.getElem_toArray, List.getElem_cons_succ, List.getElem_cons_zero, Act.put, List.setIfInBounds_toArray, List.set_cons_zero, List.set_cons_succ]
                refine wpAnyH_take (i := 3) (v := ?va3) rfl (by kernel_rfl) (by kernel_rfl) (by kernel_rfl) (fun _ _ _ h => h) (Or.inl ⟨by rfl, ?ya3⟩) hHeld ?ra3
                case ya3 => (intro W hW; go_simp; first | done | with_reducible rfl)
                try simp only [List.getElem_toArray, List.getElem_cons_succ, List.getElem_cons_zero, Act.put, List.setIfInBounds_toArray, List.set_cons_zero, List.set_cons_succ]
                refine wpAnyH_take (i := 4) (v := ?va4) rfl (by kernel_rfl) (by kernel_rfl) (by kernel_rfl) (fun _ _ _ h => h) (Or.inl ⟨by rfl, ?ya4⟩) hHeld ?ra4
                case ya4 => (intro W hW; go_simp; first | done | with_reducible rfl)
                try simp only [List.getElem_toArray, List.getElem_cons_succ, List.getElem_cons_zero, Act.put, List.setIfInBounds_toArray, List.set_cons_zero, List.set_cons_succ]
                refine wpAnyH_take (i := 5) (v := ?va5) rfl (by kernel_rfl) (by kernel_rfl) (by kernel_rfl) (fun _ _ _ h => h) (Or.inl ⟨by rfl, ?ya5⟩) hHeld ?ra5
                case ya5 => (intro W hW; go_simp; first | done | with_reducible rfl)
                try simp only [List.getElem_toArray, List.getElem_cons_succ, List.getElem_cons_zero, Act.put, List.setIfInBounds_toArray, List.set_cons_zero, List.set_cons_succ]
                refine wpAnyH_take (i := 6) (v := ?va6) rfl (by kernel_rfl) (by kernel_rfl) (by kernel_rfl) (fun _ _ _ h => h) (Or.inl ⟨by rfl, ?ya6⟩) hHeld ?ra6
                case ya6 => (intro W hW; go_simp; first | done | with_reducible rfl)
                try simp only [List.getElem_toArray, List.getElem_cons_succ, List.getElem_cons_zero, Act.put, List.setIfInBounds_toArray, List.set_cons_zero, List.set_cons_succ]
                refine wpAnyH_take (i := 7) (v := ?va7) rfl (by kernel_rfl) (by kernel_rfl) (by kernel_rfl) (fun _ _ _ h => h) (Or.inl ⟨by rfl, ?ya7⟩) hHeld ?ra7
                case ya7 => (intro W hW; have h0 := hW _ _ hyc; go_simp; first | done | with_reducible rfl)
                try simp only [List.getElem_toArray, List.getElem_cons_succ, List.getElem_cons_zero, Act.put, List.setIfInBounds_toArray, List.set_cons_zero, List.set_cons_succ]
                refine wpAnyH_take (i := 8) (v := ?va8) rfl (by kernel_rfl) (by kernel_rfl) (by kernel_rfl) (fun _ _ _ h => h) (Or.inl ⟨by rfl, ?ya8⟩) hHeld ?ra8
                case ya8 => (intro W hW; go_simp; first | done | with_reducible rfl)
                try simp only [List.getElem_toArray, List.getElem_cons_succ, List.getElem_cons_zero, Act.put, List.setIfInBounds_toArray, List.set_cons_zero, List.set_cons_succ]
                refine wpAnyH_take (i := 9) (v := ?va9) rfl (by kernel_rfl) (by kernel_rfl) (by kernel_rfl) (fun _ _ _ h => h) (Or.inl ⟨by rfl, ?ya9⟩) hHeld ?ra9
                case ya9 => (intro W hW; go_simp; first | done | with_reducible rfl)
                try simp only [List.getElem_toArray, List.getElem_cons_succ, List.getElem_cons_zero, Act.put, List.setIfInBounds_toArray, List.set_cons_zero, List.set_cons_succ]
                refine wpAnyH_ready (rs := [10]) (by kernel_rfl) (by simp) ?_
                refine AllReadyH.cons rfl (fun K hK => ?_) AllReadyH.nil
                go_simp
                refine (Wb.out _).mono ?_
                rintro e w2 ⟨rfl, rfl⟩
                go_wp2_with fail
                refine hK.out _ _ ?_ (fun hHeld => ?_)
                · exact ((Keeps.refl wk).drewN 1)
                clear hK K
                try simp only [List.getElem_toArray, List.getElem_cons_succ, List.getElem_cons_zero, Act.put, List.setIfInBounds_toArray, List.set_cons_zero, List.set_cons_succ]
                refine wpAnyH_take (i := 11) (v := ?va11) rfl (by kernel_rfl) (by kernel_rfl) (by kernel_rfl) (fun _ _ _ h => h) (Or.inl ⟨by rfl, ?ya11⟩) hHeld ?ra11
                case ya11 => (intro W hW; go_simp; first | done | with_reducible rfl)
                try simp only [List.getElem_toArray, List.getElem_cons_succ, List.getElem_cons_zero, Act.put, List.setIfInBounds_toArray, List.set_cons_zero, List.set_cons_succ]
                refine wpAnyH_take (i := 12) (v := ?va12) rfl (by kernel_rfl) (by kernel_rfl) (by kernel_rfl) (fun _ _ _ h => h) (Or.inl ⟨by rfl, ?ya12⟩) hHeld ?ra12
                case ya12 => (intro W hW; go_simp; first | done | with_reducible rfl)
                try simp only [List.getElem_toArray, List.getElem_cons_succ, List.getElem_cons_zero, Act.put, List.setIfInBounds_toArray, List.set_cons_zero, List.set_cons_succ]
                refine wpAnyH_done (by kernel_rfl) ?_ _
                rw [Hna.out]
                go_upto_region 16 with (fail)
                refine wp_region_held_drew (S := fun _ => True) (by kernel_rfl) trivial (fun hHeld => ?_)
                refine wpAnyH_take (i := 0) (v := ?vb0) rfl (by kernel_rfl) (by kernel_rfl) (by kernel_rfl) (fun _ _ _ h => h) (Or.inl ⟨by rfl, ?yb0⟩) hHeld ?rb0
                case yb0 => (intro W hW; go_simp; first | done | with_reducible rfl)
                try simp only [List.getElem_toArray, List.getElem_cons_zero, Act.put, List.setIfInBounds_toArray, List.set_cons_zero, List.set_cons_succ]
                refine wpAnyH_take (i := 1) (v := ?vb1) rfl (by kernel_rfl) (by kernel_rfl) (by kernel_rfl) (fun _ _ _ h => h) (Or.inl ⟨by rfl, ?yb1⟩) hHeld ?rb1
                case yb1 => (intro W hW; go_simp; first | done | with_reducible rfl)
                try simp only [List.getElem_toArray, List.getElem_cons_succ, List.getElem_cons_zero, Act.put, List.setIfInBounds_toArray, List.set_cons_zero, List.set_cons_succ]
                refine wpAnyH_take (i := 2) (v := ?vb2) rfl (by kernel_rfl) (by kernel_rfl) (by kernel_rfl) (fun _ _ _ h => h) (Or.inl ⟨by rfl, ?yb2⟩) hHeld ?rb2
                case yb2 => (intro W hW; go_simp; first | done | with_reducible rfl)
                try simp only [List.getElem_toArray, List.getElem_cons_succ, List.getElem_cons_zero, Act.put, List.setIfInBounds_toArray, List.set_cons_zero, List.set_cons_succ]
                refine wpAnyH_take (i := 3) (v := ?vb3) rfl (by kernel_rfl) (by kernel_rfl) (by kernel_rfl) (fun _ _ _ h => h) (Or.inl ⟨by rfl, ?yb3⟩) hHeld ?rb3
                case yb3 => (intro W hW; go_simp; first | done | with_reducible rfl)
                try simp only [List.getElem_toArray, List.getElem_cons_succ, List.getElem_cons_zero, Act.put, List.setIfInBounds_toArray, List.set_cons_zero, List.set_cons_succ]
                refine wpAnyH_take (i := 4) (v := ?vb4) rfl (by kernel_rfl) (by kernel_rfl) (by kernel_rfl) (fun _ _ _ h => h) (Or.inl ⟨by rfl, ?yb4⟩) hHeld ?rb4
                case yb4 => (intro W hW; go_simp; first | done | with_reducible rfl)
                try simp only [List.getElem_toArray, List.getElem_cons_succ, List.getElem_cons_zero, Act.put, List.setIfInBounds_toArray, List.set_cons_zero, List.set_cons_succ]
                refine wpAnyH_take (i := 5) (v := ?vb5) rfl (by kernel_rfl) (by kernel_rfl) (by kernel_rfl) (fun _ _ _ h => h) (Or.inl ⟨by rfl, ?yb5⟩) hHeld ?rb5
                case yb5 => (intro W hW; go_simp; first | done | with_reducible rfl)
                try simp only [List.getElem_toArray, List.getElem_cons_succ, List.getElem_cons_zero, Act.put, List.setIfInBounds_toArray, List.set_cons_zero, List.set_cons_succ]
                refine wpAnyH_take (i := 6) (v := ?vb6) rfl (by kernel_rfl) (by kernel_rfl) (by kernel_rfl) (fun _ _ _ h => h) (Or.inl ⟨by rfl, ?yb6⟩) hHeld ?rb6
                case yb6 => (intro W hW; go_simp; first | done | with_reducible rfl)
                try simp only [List.getElem_toArray, List.getElem_cons_succ, List.getElem_cons_zero, Act.put, List.setIfInBounds_toArray, List.set_cons_zero, List.set_cons_succ]
                refine wpAnyH_take (i := 8) (v := ?vb8) rfl (by kernel_rfl) (by kernel_rfl) (by kernel_rfl) (fun _ _ _ h => h) (Or.inl ⟨by rfl, ?yb8⟩) hHeld ?rb8
                case yb8 => (intro W hW; go_simp; first | done | with_reducible rfl)
                try simp only [List.getElem_toArray, List.getElem_cons_succ, List.getElem_cons_zero, Act.put, List.setIfInBounds_toArray, List.set_cons_zero, List.set_cons_succ]
                refine wpAnyH_take (i := 9) (v := ?vb9) rfl (by kernel_rfl) (by kernel_rfl) (by kernel_rfl) (fun _ _ _ h => h) (Or.inl ⟨by rfl, ?yb9⟩) hHeld ?rb9
                case yb9 => (intro W hW; go_simp; first | done | with_reducible rfl)
                try simp only [List.getElem_toArray, List.getElem_cons_succ, List.getElem_cons_zero, Act.put, List.setIfInBounds_toArray, List.set_cons_zero, List.set_cons_succ]
                refine wpAnyH_take (i := 10) (v := ?vb10) rfl (by kernel_rfl) (by kernel_rfl) (by kernel_rfl) (fun _ _ _ h => h) (Or.inl ⟨by rfl, ?yb10⟩) hHeld ?rb10
                case yb10 => (intro W hW; go_simp; first | done | with_reducible rfl)
                try simp only [List.getElem_toArray, List.getElem_cons_succ, List.getElem_cons_zero, Act.put, List.setIfInBounds_toArray, List.set_cons_zero, List.set_cons_succ]
                refine wpAnyH_ready (rs := [7, 11]) (by kernel_rfl) (by simp) ?_
                refine AllReadyH.cons rfl (fun K hK => ?_) (AllReadyH.cons rfl (fun K hK => ?_) AllReadyH.nil)
                · go_simp
                  refine hK.out _ _ trivial (fun hHeld => ?_)
                  clear hK K
                  try simp only [List.getElem_toArray, List.getElem_cons_succ, List.getElem_cons_zero, Act.put, List.setIfInBounds_toArray, List.set_cons_zero, List.set_cons_succ]
                  refine wpAnyH_ready (rs := [11]) (by kernel_rfl) (by simp) ?_
                  refine AllReadyH.cons rfl (fun K hK => ?_) AllReadyH.nil
                  go_simp
                  refine hK.out _ _ ?_ (fun hHeld => ?_)
                  · exact trivial
                  clear hK K
                  try simp only [List.getElem_toArray, List.getElem_cons_succ, List.getElem_cons_zero, Act.put, List.setIfInBounds_toArray, List.set_cons_zero, List.set_cons_succ]
                  refine wpAnyH_take (i := 12) (v := ?vc12) rfl (by kernel_rfl) (by kernel_rfl) (by kernel_rfl) (fun _ _ _ h => h) (Or.inl ⟨by rfl, ?yc12⟩) hHeld ?rc12
                  case yc12 => (intro W hW; go_simp; first | done | with_reducible rfl)
                  try simp only [List.getElem_toArray, List.getElem_cons_succ, List.getElem_cons_zero, Act.put, List.setIfInBounds_toArray, List.set_cons_zero, List.set_cons_succ]
                  refine wpAnyH_ready (rs := [13]) (by kernel_rfl) (by simp) ?_
                  refine AllReadyH.cons rfl (fun K hK => ?_) AllReadyH.nil
                  go_simp
                  refine hK.out _ _ ?_ (fun hHeld => ?_)
                  · exact trivial
                  clear hK K
                  try simp only [List.getElem_toArray, List.getElem_cons_succ, List.getElem_cons_zero, Act.put, List.setIfInBounds_toArray, List.set_cons_zero, List.set_cons_succ]
                  refine wpAnyH_take (i := 14) (v := ?vc14) rfl (by kernel_rfl) (by kernel_rfl) (by kernel_rfl) (fun _ _ _ h => h) (Or.inl ⟨by rfl, ?yc14⟩) hHeld ?rc14
                  case yc14 => (intro W hW; go_simp; first | done | with_reducible rfl)
                  try simp only [List.getElem_toArray, List.getElem_cons_succ, List.getElem_cons_zero, Act.put, List.setIfInBounds_toArray, List.set_cons_zero, List.set_cons_succ]
                  refine wpAnyH_ready (rs := [15]) (by kernel_rfl) (by simp) ?_
                  refine AllReadyH.cons rfl (fun K hK => ?_) AllReadyH.nil
                  go_simp
                  refine hK.out _ _ ?_ (fun hHeld => ?_)
                  · exact trivial
                  clear hK K
                  try simp only [List.getElem_toArray, List.getElem_cons_succ, List.getElem_cons_zero, Act.put, List.setIfInBounds_toArray, List.set_cons_zero, List.set_cons_succ]
                  refine wpAnyH_done (by kernel_rfl) ?_ _
                  go_wp2
                  exact ⟨⟨j + 1, by omega, by omega, by go_num, _, Hp2.out, Hsw.out, Hb4.out⟩, by simp [intOf]; omega⟩
                · go_simp
                  refine hK.out _ _ trivial (fun hHeld => ?_)
                  clear hK K
                  try simp only [List.getElem_toArray, List.getElem_cons_succ, List.getElem_cons_zero, Act.put, List.setIfInBounds_toArray, List.set_cons_zero, List.set_cons_succ]
                  refine wpAnyH_ready (rs := [7]) (by kernel_rfl) (by simp) ?_
                  refine AllReadyH.cons rfl (fun K hK => ?_) AllReadyH.nil
                  go_simp
                  refine hK.out _ _ ?_ (fun hHeld => ?_)
                  · exact trivial
                  clear hK K
                  try simp only [List.getElem_toArray, List.getElem_cons_succ, List.getElem_cons_zero, Act.put, List.setIfInBounds_toArray, List.set_cons_zero, List.set_cons_succ]
                  refine wpAnyH_take (i := 12) (v := ?vd12) rfl (by kernel_rfl) (by kernel_rfl) (by kernel_rfl) (fun _ _ _ h => h) (Or.inl ⟨by rfl, ?yd12⟩) hHeld ?rd12
                  case yd12 => (intro W hW; go_simp; first | done | with_reducible rfl)
                  try simp only [List.getElem_toArray, List.getElem_cons_succ, List.getElem_cons_zero, Act.put, List.setIfInBounds_toArray, List.set_cons_zero, List.set_cons_succ]
                  refine wpAnyH_ready (rs := [13]) (by kernel_rfl) (by simp) ?_
                  refine AllReadyH.cons rfl (fun K hK => ?_) AllReadyH.nil
                  go_simp
                  refine hK.out _ _ ?_ (fun hHeld => ?_)
                  · exact trivial
                  clear hK K
                  try simp only [List.getElem_toArray, List.getElem_cons_succ, List.getElem_cons_zero, Act.put, List.setIfInBounds_toArray, List.set_cons_zero, List.set_cons_succ]
                  refine wpAnyH_take (i := 14) (v := ?vd14) rfl (by kernel_rfl) (by kernel_rfl) (by kernel_rfl) (fun _ _ _ h => h) (Or.inl ⟨by rfl, ?yd14⟩) hHeld ?rd14
                  case yd14 => (intro W hW; go_simp; first | done | with_reducible rfl)
                  try simp only [List.getElem_toArray, List.getElem_cons_succ, List.getElem_cons_zero, Act.put, List.setIfInBounds_toArray, List.set_cons_zero, List.set_cons_succ]
                  refine wpAnyH_ready (rs := [15]) (by kernel_rfl) (by simp) ?_
                  refine AllReadyH.cons rfl (fun K hK => ?_) AllReadyH.nil
                  go_simp
                  refine hK.out _ _ ?_ (fun hHeld => ?_)
                  · exact trivial
                  clear hK K
                  try simp only [List.getElem_toArray, List.getElem_cons_succ, List.getElem_cons_zero, Act.put, List.setIfInBounds_toArray, List.set_cons_zero, List.set_cons_succ]
                  refine wpAnyH_done (by kernel_rfl) ?_ _
                  go_wp2
                  exact ⟨⟨j + 1, by omega, by omega, by go_num, _, Hp2.out, Hsw.out, Hb4.out⟩, by simp [intOf]; omega⟩
              · have fin : ∃ lk, lk.Perm l ∧ RowsW wk wr.heap.size (B + 2) (.slice Am k cm) lk ∧ Below wr.heap.size wr wk := ⟨lk, Hp.out, HRk.out, Hbk.out⟩
                have Fin := Lib.hid fin
                have hout : ¬ j < len1 ∨ (j < len1 ∧ ¬ j < 60) ∨ (j < len1 ∧ j < 60 ∧ ¬ 0 < k) := by omega
                clear fin hlt
                rcases hout with h | ⟨h, h'⟩ | ⟨h, h', h''⟩
                all_goals
                  go_wp2
                  go_meet
                  exact Fin.out
          case rest =>
            obtain ⟨lk, hp, hRk, hbk⟩ := hcut
            rename World => wk
            have Hp := Lib.hid hp
            have HRk := Lib.hid hRk
            have Hbk := Lib.hid hbk
            clear hp hRk hbk HR2 Hb2
            have hRk2 := HRk.out
            have hp1 := Hp.out
            have hsx : ∀ x ∈ xs, inK .i64 x := Hx.out.ok
            obtain ⟨D1, c1, hv1, _, _, hF1⟩ := RowsW.facts (RowsW.below HR.out Hbk.out (Nat.le_refl _)) (by rw [Hl.out]; exact oRows_small hsx)
            obtain ⟨D2, c2, hv2, _, _, hF2⟩ := RowsW.facts hRk2 (fun r hr => by rw [hp1.mem_iff, Hl.out] at hr; exact oRows_small hsx r hr)
            rw [Hlk.out] at hv1 hF1
            rw [hp1.length_eq, Hlk.out] at hv2 hF2
            injection hv1 with hv1 hn1 hv3
            injection hv2 with hv2 hn2 hv4
            subst hv1 hv3 hv2 hv4
            have b5 := A2.out.below (Hb.out.trans (Hbk.out.mono (by omega))) (by omega)
            have a5 := A1.out.below (Hb.out.trans (Hbk.out.mono (by omega))) (by omega)
            have hlens : ∀ r ∈ l, r.key.length = 1 ∧ r.m.length = 1 := fun r hr => by
              rw [Hl.out] at hr
              obtain ⟨x, _, rfl⟩ := List.mem_map.1 hr
              exact ⟨rfl, rfl⟩
            obtain ⟨bb, hbb⟩ : ∃ bb, bb = soundB [1] 1 l := ⟨_, rfl⟩
            have hb2 : soundB [1] 1 lk = bb := by rw [hbb]; exact soundB_perm Hp.out
            have hb3 : soundsB 1 l = bb := by rw [hbb, Hl.out]; exact (oSound xs).symm
            have hn1 : Nums .i64 wk (some ⟨B, 0, none⟩) 1 [1] := a5.nums (by simp [inK])
            have Ws := Lib.hid (fun (W : World) (hW : Keeps wk W) => Sound_any (some ⟨B, 0, none⟩) Al 1 1 k cl [1] 1 l W (hn1.keep hW) (hF1.keep hW) (by omega) (by omega) (fun r hr => by have := hlens r hr; omega) (by simp [inK]))
            have Wm := Lib.hid (fun (W : World) (hW : Keeps wk W) => Sound_any (some ⟨B, 0, none⟩) Am 1 1 k cm [1] 1 lk W (hn1.keep hW) (hF2.keep hW) (by omega) (by omega) (fun r hr => by have := hlens r (Hp.out.mem_iff.1 hr); omega) (by simp [inK]))
            have Wr := Lib.hid (fun (W : World) (hW : Keeps wk W) => rSound_any (some ⟨B, 0, none⟩) Al 1 1 k cl 1 l W (hF1.keep hW) (by omega) (by omega) (fun r hr => by have := hlens r hr; omega))
            rw [hb2] at Wm
            rw [← hbb] at Ws
            rw [hb3] at Wr
            have c0 := b5.cell0
            have c1 := b5.cell1
            have Hwk := Lib.hid (HBw.out.trans (Hbk.out.mono HBw.out.size))
            clear hF1 hF2 hbb hb2 hb3 hn1 hlens a5 b5 hp1 hRk2 hsx hn2
            go_upto_region 17 with (fail)
            refine wp_region_held_drew (S := fun W => Keeps wk W) (by kernel_rfl) ((Keeps.refl wk).drewN 1) (fun hHeld => ?_)
            refine wpAnyH_take (i := 0) (v := ?ve0) rfl (by kernel_rfl) (by kernel_rfl) (by kernel_rfl) (fun _ _ _ h => h) (Or.inl ⟨by rfl, ?ye0⟩) hHeld ?re0
            case ye0 => (intro W hW; have h0 := hW _ _ c0; have h1 := hW _ _ c1; go_simp; first | done | with_reducible rfl)
            try simp only [List.getElem_toArray, List.getElem_cons_zero, Act.put, List.setIfInBounds_toArray, List.set_cons_zero, List.set_cons_succ]
            refine wpAnyH_take (i := 1) (v := ?ve1) rfl (by kernel_rfl) (by kernel_rfl) (by kernel_rfl) (fun _ _ _ h => h) (Or.inl ⟨by rfl, ?ye1⟩) hHeld ?re1
            case ye1 => (intro W hW; go_simp; first | done | with_reducible rfl)
            try simp only [List.getElem_toArray, List.getElem_cons_succ, List.getElem_cons_zero, Act.put, List.setIfInBounds_toArray, List.set_cons_zero, List.set_cons_succ]
            refine wpAnyH_take (i := 3) (v := ?ve3) rfl (by kernel_rfl) (by kernel_rfl) (by kernel_rfl) (fun _ _ _ h => h) (Or.inl ⟨by rfl, ?ye3⟩) hHeld ?re3
            case ye3 => (intro W hW; have h0 := hW _ _ c0; have h1 := hW _ _ c1; go_simp; first | done | with_reducible rfl)
            try simp only [List.getElem_toArray, List.getElem_cons_succ, List.getElem_cons_zero, Act.put, List.setIfInBounds_toArray, List.set_cons_zero, List.set_cons_succ]
            refine wpAnyH_take (i := 4) (v := ?ve4) rfl (by kernel_rfl) (by kernel_rfl) (by kernel_rfl) (fun _ _ _ h => h) (Or.inl ⟨by rfl, ?ye4⟩) hHeld ?re4
            case ye4 => (intro W hW; go_simp; first | done | with_reducible rfl)
            try simp only [List.getElem_toArray, List.getElem_cons_succ, List.getElem_cons_zero, Act.put, List.setIfInBounds_toArray, List.set_cons_zero, List.set_cons_succ]
            refine wpAnyH_ready (rs := [2]) (by kernel_rfl) (by simp) ?_
            refine AllReadyH.cons rfl (fun K hK => ?_) AllReadyH.nil
            go_simp
            refine (Ws.out _ ((Keeps.refl wk).drewN 1)).mono ?_
            rintro e w6 ⟨rfl, hw6⟩
            go_wp2_with fail
            refine hK.out _ _ ?_ (fun hHeld => ?_)
            · exact (Keeps.of_below (show Below wk.heap.size wk w6 from ⟨hw6.os, hw6.tape, hw6.output, hw6.size, hw6.block⟩))
            clear hK K
            try simp only [List.getElem_toArray, List.getElem_cons_succ, List.getElem_cons_zero, Act.put, List.setIfInBounds_toArray, List.set_cons_zero, List.set_cons_succ]
            have K6 : Keeps wk w6 := Keeps.of_below (show Below wk.heap.size wk w6 from ⟨hw6.os, hw6.tape, hw6.output, hw6.size, hw6.block⟩)
            have HK6 := Lib.hid K6
            clear K6
            refine wpAnyH_ready (rs := [5]) (by kernel_rfl) (by simp) ?_
            refine AllReadyH.cons rfl (fun K hK => ?_) AllReadyH.nil
            go_simp
            refine (Wm.out _ HK6.out).mono ?_
            rintro e w7 ⟨rfl, hw7⟩
            go_wp2_with fail
            refine hK.out _ _ ?_ (fun hHeld => ?_)
            · exact (HK6.out.trans (Keeps.of_below hw7))
            clear hK K
            try simp only [List.getElem_toArray, List.getElem_cons_succ, List.getElem_cons_zero, Act.put, List.setIfInBounds_toArray, List.set_cons_zero, List.set_cons_succ]
            have HK7 := Lib.hid (HK6.out.trans (Keeps.of_below hw7))
            refine wpAnyH_take (i := 6) (v := ?ve6) rfl (by kernel_rfl) (by kernel_rfl) (by kernel_rfl) (fun _ _ _ h => h) (Or.inl ⟨by rfl, ?ye6⟩) hHeld ?re6
            case ye6 => (intro W hW; go_simp; first | done | with_reducible rfl)
            try simp only [List.getElem_toArray, List.getElem_cons_succ, List.getElem_cons_zero, Act.put, List.setIfInBounds_toArray, List.set_cons_zero, List.set_cons_succ]
            refine wpAnyH_take (i := 7) (v := ?ve7) rfl (by kernel_rfl) (by kernel_rfl) (by kernel_rfl) (fun _ _ _ h => h) (Or.inl ⟨by rfl, ?ye7⟩) hHeld ?re7
            case ye7 => (intro W hW; go_simp; first | done | with_reducible rfl)
            try simp only [List.getElem_toArray, List.getElem_cons_succ, List.getElem_cons_zero, Act.put, List.setIfInBounds_toArray, List.set_cons_zero, List.set_cons_succ]
            refine wpAnyH_take (i := 8) (v := ?ve8) rfl (by kernel_rfl) (by kernel_rfl) (by kernel_rfl) (fun _ _ _ h => h) (Or.inl ⟨by rfl, ?ye8⟩) hHeld ?re8
            case ye8 => (intro W hW; have h0 := hW _ _ c0; have h1 := hW _ _ c1; go_simp; first | done | with_reducible rfl)
            try simp only [List.getElem_toArray, List.getElem_cons_succ, List.getElem_cons_zero, Act.put, List.setIfInBounds_toArray, List.set_cons_zero, List.set_cons_succ]
            refine wpAnyH_take (i := 9) (v := ?ve9) rfl (by kernel_rfl) (by kernel_rfl) (by kernel_rfl) (fun _ _ _ h => h) (Or.inl ⟨by rfl, ?ye9⟩) hHeld ?re9
            case ye9 => (intro W hW; go_simp; first | done | with_reducible rfl)
            try simp only [List.getElem_toArray, List.getElem_cons_succ, List.getElem_cons_zero, Act.put, List.setIfInBounds_toArray, List.set_cons_zero, List.set_cons_succ]
            refine wpAnyH_take (i := 11) (v := ?ve11) rfl (by kernel_rfl) (by kernel_rfl) (by kernel_rfl) (fun _ _ _ h => h) (Or.inl ⟨by rfl, ?ye11⟩) hHeld ?re11
            case ye11 => (intro W hW; have h0 := hW _ _ c0; have h1 := hW _ _ c1; go_simp; first | done | with_reducible rfl)
            try simp only [List.getElem_toArray, List.getElem_cons_succ, List.getElem_cons_zero, Act.put, List.setIfInBounds_toArray, List.set_cons_zero, List.set_cons_succ]
            refine wpAnyH_take (i := 12) (v := ?ve12) rfl (by kernel_rfl) (by kernel_rfl) (by kernel_rfl) (fun _ _ _ h => h) (Or.inl ⟨by rfl, ?ye12⟩) hHeld ?re12
            case ye12 => (intro W hW; go_simp; first | done | with_reducible rfl)
            try simp only [List.getElem_toArray, List.getElem_cons_succ, List.getElem_cons_zero, Act.put, List.setIfInBounds_toArray, List.set_cons_zero, List.set_cons_succ]
            refine wpAnyH_ready (rs := [10]) (by kernel_rfl) (by simp) ?_
            refine AllReadyH.cons rfl (fun K hK => ?_) AllReadyH.nil
            go_simp
            refine (Ws.out _ HK7.out).mono ?_
            rintro e w8 ⟨rfl, hw8⟩
            go_wp2_with fail
            refine hK.out _ _ ?_ (fun hHeld => ?_)
            · exact (HK7.out.trans (Keeps.of_below hw8))
            clear hK K
            try simp only [List.getElem_toArray, List.getElem_cons_succ, List.getElem_cons_zero, Act.put, List.setIfInBounds_toArray, List.set_cons_zero, List.set_cons_succ]
            have HK8 := Lib.hid (HK7.out.trans (Keeps.of_below hw8))
            refine wpAnyH_ready (rs := [13]) (by kernel_rfl) (by simp) ?_
            refine AllReadyH.cons rfl (fun K hK => ?_) AllReadyH.nil
            go_simp
            refine (Wr.out _ HK8.out).mono ?_
            rintro e w9 ⟨rfl, hw9⟩
            go_wp2_with fail
            refine hK.out _ _ ?_ (fun hHeld => ?_)
            · exact (HK8.out.trans (Keeps.of_below hw9))
            clear hK K
            try simp only [List.getElem_toArray, List.getElem_cons_succ, List.getElem_cons_zero, Act.put, List.setIfInBounds_toArray, List.set_cons_zero, List.set_cons_succ]
            refine wpAnyH_take (i := 14) (v := ?ve14) rfl (by kernel_rfl) (by kernel_rfl) (by kernel_rfl) (fun _ _ _ h => h) (Or.inl ⟨by rfl, ?ye14⟩) hHeld ?re14
            case ye14 => (intro W hW; go_simp; first | done | with_reducible rfl)
            try simp only [List.getElem_toArray, List.getElem_cons_succ, List.getElem_cons_zero, Act.put, List.setIfInBounds_toArray, List.set_cons_zero, List.set_cons_succ]
            refine wpAnyH_take (i := 15) (v := ?ve15) rfl (by kernel_rfl) (by kernel_rfl) (by kernel_rfl) (fun _ _ _ h => h) (Or.inl ⟨by rfl, ?ye15⟩) hHeld ?re15
            case ye15 => (intro W hW; go_simp; first | done | with_reducible rfl)
            try simp only [List.getElem_toArray, List.getElem_cons_succ, List.getElem_cons_zero, Act.put, List.setIfInBounds_toArray, List.set_cons_zero, List.set_cons_succ]
            refine wpAnyH_take (i := 16) (v := ?ve16) rfl (by kernel_rfl) (by kernel_rfl) (by kernel_rfl) (fun _ _ _ h => h) (Or.inl ⟨by rfl, ?ye16⟩) hHeld ?re16
            case ye16 => (intro W hW; go_simp; first | done | with_reducible rfl)
            try simp only [List.getElem_toArray, List.getElem_cons_succ, List.getElem_cons_zero, Act.put, List.setIfInBounds_toArray, List.set_cons_zero, List.set_cons_succ]
            refine wpAnyH_done (by kernel_rfl) ?_ _
            have hB6 : Below w.heap.size w w6 := Hwk.out.trans ((show Below wk.heap.size wk w6 from ⟨hw6.os, hw6.tape, hw6.output, hw6.size, hw6.block⟩).mono Hwk.out.size)
            have hB7 := hB6.trans (hw7.mono hB6.size)
            have hB8 := hB7.trans (hw8.mono hB7.size)
            have HB9 := Lib.hid (hB8.trans (hw9.mono hB8.size))
            clear hHeld hw6 hw7 hw8 hw9 hB6 hB7 hB8
            go_wp2
            go_ret
            exact ⟨rfl, HB9.out⟩
end Go.Proofs.Ytbjlbambheogbaa
