/- slices.Repeat of one number, twelve times at most. -/
import Derived.Deep.CutRange
import Derived.Deep.DeepCutAuto
import Derived.Test.YtjllmladhjbnaaaGreatDoorMatUA
import Derived.Test.YtjllmladhjbnaaaGreatDoorRegion
namespace Go.Proofs.YtjllmladhjbnaaaGreatDoor
open Go.RowKit
set_option maxRecDepth 100000 in
set_option maxHeartbeats 4000000 in
theorem mul64_any (d : Nat) (w : World) (hd : d ≤ 12) :
    Calls Tryz.prog 112 #[.int .u64 1, .int .u64 d] w fun e w' => e = .returned (.tuple #[.int .u64 0, .int .u64 d]) ∧ w = w' := by
  rcases (by omega : d = 0 ∨ d = 1 ∨ d = 2 ∨ d = 3 ∨ d = 4 ∨ d = 5 ∨ d = 6 ∨ d = 7 ∨ d = 8 ∨ d = 9 ∨ d = 10 ∨ d = 11 ∨ d = 12) with rfl | rfl | rfl | rfl | rfl | rfl | rfl | rfl | rfl | rfl | rfl | rfl | rfl
  all_goals
    go_enter Tryz.func112, Tryz.ntmps112
    go_wp2
    exact bodyPost_ret (v := .tuple #[.int .u64 0, .int .u64 _]) (by simp [results, Tryz.results112, go_sem]; rfl) rfl ⟨rfl, rfl⟩
set_option maxRecDepth 100000 in
set_option maxHeartbeats 4000000 in
theorem mul_any (d : Nat) (w : World) (hd : d ≤ 12) :
    Calls Tryz.prog 93 #[.int .u64 1, .int .u64 d] w fun e w' => e = .returned (.tuple #[.int .u64 0, .int .u64 d]) ∧ w = w' := by
  have hM := Lib.hid (mul64_any d w hd)
  go_enter Tryz.func93, Tryz.ntmps93
  go_wp2_with fail
  refine hM.out.mono ?_
  rintro e w2 ⟨rfl, rfl⟩
  go_wp2
  exact bodyPost_ret (v := .tuple #[.int .u64 0, .int .u64 d]) (by simp [results, Tryz.results93, go_sem]) rfl ⟨rfl, rfl⟩
/-- A row of d: n of them x, the rest 0. -/
def rowR (x : Int) (d n : Nat) : List Int := List.replicate n x ++ List.replicate (d - n) 0
theorem rep_copy (x : Int) (W : World) (g d n : Nat) (hA : Arr .i64 3 W g (rowR x d n)) (h1 : 1 ≤ n) (h2 : n < d) :
    ∃ W1, (Builtin.copy_ #[22, 22] 3 #[.slice (some ⟨g, n, none⟩) (d - n : Nat) (d - n : Nat), .slice (some ⟨g, 0, none⟩) n d]).run Tryz.prog W = .ok (goInt ((min n (d - n) : Nat) : Int)) W1 ∧ Arr .i64 3 W1 g (rowR x d (n + min n (d - n))) ∧ Only g W W1 ∧ W1.heap.size = W.heap.size := by
  have hlen : (rowR x d n).length = d := by simp [rowR]; omega
  obtain ⟨h3, h4, h5⟩ := Arr.sets (List.replicate (min n (d - n)) x) n W _ hA (by rw [hlen, List.length_replicate]; omega)
  have e : spl (rowR x d n) n (List.replicate (min n (d - n)) x) = rowR x d (n + min n (d - n)) := by
    have e1 : (rowR x d n).take n = List.replicate n x := by unfold rowR; rw [List.take_append_of_le_length (by simp), List.take_of_length_le (by simp)]
    have e2 : (rowR x d n).drop (n + min n (d - n)) = List.replicate (d - (n + min n (d - n))) 0 := by
      unfold rowR
      rw [List.drop_append, List.drop_of_length_le (by simp), List.nil_append, List.drop_replicate, List.length_replicate]
      congr 1
      omega
    unfold spl
    rw [List.length_replicate, e1, e2, List.replicate_append_replicate]
    rfl
  rw [e] at h3
  have hr := run_copy_cells (P := Tryz.prog) W 22 22 3 3 g n (d - n) (d - n) ⟨g, 0, none⟩ n d ((List.replicate (min n (d - n)) x).map (Value.int .i64)) Tryz.underlying22 (by kernel_rfl) (by simp [Nat.min_def])
    (fun j v hv => by
      rw [List.getElem?_map, Option.map_eq_some_iff] at hv
      obtain ⟨x', hx1, rfl⟩ := hv
      rw [List.getElem?_replicate] at hx1
      have hjn : j < n := by
        by_cases hj : j < min n (d - n)
        · exact Nat.lt_of_lt_of_le hj (Nat.min_le_left _ _)
        · rw [if_neg hj] at hx1; cases hx1
      split at hx1
      case isFalse => cases hx1
      injection hx1 with hx1
      subst hx1
      rw [add0]
      exact hA.cell (by unfold rowR; rw [List.getElem?_append_left (by rw [List.length_replicate]; exact hjn), List.getElem?_replicate, if_pos hjn]))
    (fun j hj => by
      rw [List.length_map, List.length_replicate] at hj
      rw [hA.cell (List.getElem?_eq_getElem (by rw [hlen]; omega))]; rfl)
    (fun j _ => hA.frozen _)
    (fun v hv => by
      obtain ⟨x', _, rfl⟩ := List.mem_map.1 hv
      rfl)
  rw [List.length_map, List.length_replicate] at hr
  exact ⟨_, hr, h3, h4, h5⟩
set_option maxRecDepth 100000 in
set_option maxHeartbeats 4000000 in
theorem repeat_any (x : Int) (a : Addr) (d : Nat) (w : World) (hx : Nums .i64 w (some a) 1 [x]) (hd : d ≤ 12) :
    Calls Tryz.prog 71 #[.slice (some a) 1 1, .int .i64 d] w fun e w' => (∃ g, e = .returned (.slice (some ⟨g, 0, none⟩) d d) ∧ Arr .i64 3 w' g (List.replicate d x) ∧ w.heap.size ≤ g) ∧ Below w.heap.size w w' := by
  obtain ⟨i0, hi, hz0, hz1, hz2⟩ := info_parts infoI
  have hmk := make_ints (P := Tryz.prog) 22 3 i0 Tryz.underlying22 hi hz0 hz1 hz2 d (by omega) w
  obtain ⟨w1, hw1⟩ : ∃ w1, w1 = w.alloc (.cells (madeCells #[.int .i64 0] d) 3) := ⟨_, rfl⟩
  have harr := Arr.made w 3 d
  have hb1 := (Below.refl w.heap.size w).alloc (Nat.le_refl _) (.cells (madeCells #[.int .i64 0] d) 3)
  rw [← hw1] at hmk harr hb1
  obtain ⟨g, hg⟩ : ∃ g, g = w.heap.size := ⟨_, rfl⟩
  rw [← hg] at hmk harr
  obtain ⟨w2, hcp, ha2, ho2, hz⟩ := copy_nums (P := Tryz.prog) 22 22 3 3 Tryz.underlying22 (by kernel_rfl) w1 g 1 1 (List.replicate d 0) [x] (some a) harr (hx.keep (Keeps.of_below hb1))
  rw [List.length_replicate] at hcp ha2
  have er : spl (List.replicate d 0) 0 ([x].take d) = rowR x d (Nat.min 1 d) := by
    cases d with
    | zero => rfl
    | succ k =>
      have : Nat.min 1 (k + 1) = 1 := by show min 1 (k + 1) = 1; omega
      rw [this]
      simp [spl, rowR, List.replicate_succ]
  rw [er] at ha2
  have hb2 := hb1.trans (ho2.below (B := w.heap.size) (by omega) hb1.size)
  obtain ⟨q, hq⟩ : ∃ q, q = Nat.min 1 d := ⟨_, rfl⟩
  rw [← hq] at hcp ha2
  have hq1 : (1 ≤ q ∨ d = 0) ∧ q ≤ d := by
    rw [hq, show Nat.min 1 d = min 1 d from rfl]
    omega
  have HA2 := Lib.hid ha2
  have HB2 := Lib.hid hb2
  have HQ := Lib.hid hq1
  have HG := Lib.hid hg
  have hM := Lib.hid (mul_any d w hd)
  have u1 : IntKind.u64.wrap (d : Int) = (d : Int) := u64_small d (by omega)
  have u2 : IntKind.i64.wrap (d : Int) = (d : Int) := IntWalk.i64_in _ (by omega)
  have d1 : decide ((d : Int) < 0) = false := by simp
  have d2 : decide ((9223372036854775807 : Int) < (d : Int)) = false := by simp; omega
  clear ha2 hb2 hq1 hg hq er hw1 harr hb1 ho2 hz hx hi hz0 hz1 hz2
  go_enter Tryz.func71, Tryz.ntmps71
  go_wp2_with fail
  refine hM.out.mono ?_
  rintro e w3 ⟨rfl, rfl⟩
  go_wp2_with fail
  go_loopw [8] (fun i wr => ∃ n : Nat, (1 ≤ n ∨ d = 0) ∧ n ≤ d ∧ i = .int .i64 n ∧ Arr .i64 3 wr g (rowR x d n) ∧ Below w.heap.size w wr) (fun i _ => d - (intOf i).toNat)
  case atStart => exact ⟨q, HQ.out.1, HQ.out.2, by go_num, HA2.out, HB2.out⟩
  case round =>
    obtain ⟨n, hn1, hn2, rfl, hA, hB⟩ := hrel
    rename World => wr
    have HAr := Lib.hid hA
    have HBr := Lib.hid hB
    have HN1 := Lib.hid hn1
    clear hA hB hn1
    by_cases hlt : n < d
    · have hn3 : 1 ≤ n := by have := HN1.out; omega
      obtain ⟨W1, hcp, hA1, ho1, hz1⟩ := rep_copy x wr.drew g d n HAr.out hn3 hlt
      obtain ⟨m, hm⟩ : ∃ m, m = min n (d - n) := ⟨_, rfl⟩
      rw [← hm] at hcp hA1
      have hm2 : 1 ≤ m ∧ n + m ≤ d := by omega
      have HM2 := Lib.hid hm2
      have HA1 := Lib.hid hA1
      have hb1 := (below_drewN HBr.out 1).trans (ho1.below (B := w.heap.size) (by have := HG.out; omega) (by have := HBr.out.size; exact this))
      have HB1 := Lib.hid hb1
      have i1 : (n : Int) < (d : Int) := by omega
      have i2 : (n : Int) ≤ (d : Int) := by omega
      have i3 : (0 : Int) ≤ (n : Int) := by omega
      have hne : ¬ d = n := by omega
      clear hA1 ho1 hz1 hm hm2 hb1 hn3
      go_upto_region 9 with (fail)
      refine wp_region_held_drew (S := fun _ => True) (by kernel_rfl) trivial (fun hHeld => ?_)
      refine wpAnyH_take (i := 0) (v := ?va0) rfl (by kernel_rfl) (by kernel_rfl) (by kernel_rfl) (fun _ _ _ h => h) (Or.inl ⟨by rfl, ?ya0⟩) hHeld ?ra0
      case ya0 => (intro W hW; go_simp; first | done | with_reducible rfl)
      try simp only [List.getElem_toArray, List.getElem_cons_zero, Act.put, List.setIfInBounds_toArray, List.set_cons_zero, List.set_cons_succ]
      refine wpAnyH_take (i := 1) (v := ?va1) rfl (by kernel_rfl) (by kernel_rfl) (by kernel_rfl) (fun _ _ _ h => h) (Or.inl ⟨by rfl, ?ya1⟩) hHeld ?ra1
      case ya1 => (intro W hW; go_simp; first | done | with_reducible rfl)
      try simp only [List.getElem_toArray, List.getElem_cons_succ, List.getElem_cons_zero, Act.put, List.setIfInBounds_toArray, List.set_cons_zero, List.set_cons_succ]
      refine wpAnyH_take (i := 2) (v := ?va2) rfl (by kernel_rfl) (by kernel_rfl) (by kernel_rfl) (fun _ _ _ h => h) (Or.inl ⟨by rfl, ?ya2⟩) hHeld ?ra2
      case ya2 => (intro W hW; go_simp; first | done | with_reducible rfl)
      try simp only [List.getElem_toArray, List.getElem_cons_succ, List.getElem_cons_zero, Act.put, List.setIfInBounds_toArray, List.set_cons_zero, List.set_cons_succ]
      refine wpAnyH_take (i := 3) (v := ?va3) rfl (by kernel_rfl) (by kernel_rfl) (by kernel_rfl) (fun _ _ _ h => h) (Or.inl ⟨by rfl, ?ya3⟩) hHeld ?ra3
      case ya3 => (intro W hW; go_simp; first | done | with_reducible rfl)
      try simp only [List.getElem_toArray, List.getElem_cons_succ, List.getElem_cons_zero, Act.put, List.setIfInBounds_toArray, List.set_cons_zero, List.set_cons_succ]
      refine wpAnyH_take (i := 4) (v := ?va4) rfl (by kernel_rfl) (by kernel_rfl) (by kernel_rfl) (fun _ _ _ h => h) (Or.inl ⟨by rfl, ?ya4⟩) hHeld ?ra4
      case ya4 => (intro W hW; go_simp; first | done | with_reducible rfl)
      try simp only [List.getElem_toArray, List.getElem_cons_succ, List.getElem_cons_zero, Act.put, List.setIfInBounds_toArray, List.set_cons_zero, List.set_cons_succ]
      refine wpAnyH_take (i := 5) (v := ?va5) rfl (by kernel_rfl) (by kernel_rfl) (by kernel_rfl) (fun _ _ _ h => h) (Or.inl ⟨by rfl, ?ya5⟩) hHeld ?ra5
      case ya5 => (intro W hW; go_simp; first | done | with_reducible rfl)
      try simp only [List.getElem_toArray, List.getElem_cons_succ, List.getElem_cons_zero, Act.put, List.setIfInBounds_toArray, List.set_cons_zero, List.set_cons_succ]
      refine wpAnyH_take (i := 6) (v := ?va6) rfl (by kernel_rfl) (by kernel_rfl) (by kernel_rfl) (fun _ _ _ h => h) (Or.inl ⟨by rfl, ?ya6⟩) hHeld ?ra6
      case ya6 => (intro W hW; go_simp; first | done | with_reducible rfl)
      try simp only [List.getElem_toArray, List.getElem_cons_succ, List.getElem_cons_zero, Act.put, List.setIfInBounds_toArray, List.set_cons_zero, List.set_cons_succ]
      refine wpAnyH_ready (rs := [7]) (by kernel_rfl) (by simp) ?_
      refine AllReadyH.cons rfl (fun K hK => ?_) AllReadyH.nil
      go_simp
      refine hK.out _ _ trivial (fun hHeld => ?_)
      clear hK K
      try simp only [List.getElem_toArray, List.getElem_cons_succ, List.getElem_cons_zero, Act.put, List.setIfInBounds_toArray, List.set_cons_zero, List.set_cons_succ]
      refine wpAnyH_take (i := 8) (v := ?va8) rfl (by kernel_rfl) (by kernel_rfl) (by kernel_rfl) (fun _ _ _ h => h) (Or.inl ⟨by rfl, ?ya8⟩) hHeld ?ra8
      case ya8 => (intro W hW; go_simp; first | done | with_reducible rfl)
      try simp only [List.getElem_toArray, List.getElem_cons_succ, List.getElem_cons_zero, Act.put, List.setIfInBounds_toArray, List.set_cons_zero, List.set_cons_succ]
      refine wpAnyH_take (i := 9) (v := ?va9) rfl (by kernel_rfl) (by kernel_rfl) (by kernel_rfl) (fun _ _ _ h => h) (Or.inl ⟨by rfl, ?ya9⟩) hHeld ?ra9
      case ya9 => (intro W hW; go_simp; first | done | with_reducible rfl)
      try simp only [List.getElem_toArray, List.getElem_cons_succ, List.getElem_cons_zero, Act.put, List.setIfInBounds_toArray, List.set_cons_zero, List.set_cons_succ]
      refine wpAnyH_done (by kernel_rfl) ?_ _
      go_wp2
      have hm2 := HM2.out
      rw [show IntKind.i64.wrap ((n : Int) + (m : Int)) = ((n + m : Nat) : Int) from IntWalk.i64_in _ (by omega)]
      refine ⟨⟨n + m, .inl (by omega), hm2.2, rfl, HA1.out, HB1.out⟩, ?_⟩
      simp only [intOf, Int.toNat_natCast]
      omega
    · obtain rfl : n = d := by omega
      have d3 : decide ((n : Int) < (n : Int)) = false := by simp
      have hf : Arr .i64 3 wr g (List.replicate n x) := by
        have h := HAr.out
        rwa [show rowR x n n = List.replicate n x by simp [rowR]] at h
      have HF := Lib.hid hf
      clear hf
      go_wp2
      go_ret
      exact ⟨⟨g, rfl, HF.out, by have := HG.out; omega⟩, HBr.out⟩
end Go.Proofs.YtjllmladhjbnaaaGreatDoor
