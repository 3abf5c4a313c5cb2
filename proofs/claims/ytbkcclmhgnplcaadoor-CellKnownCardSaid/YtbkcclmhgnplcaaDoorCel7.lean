/- Package cell: cells held against one another; a row that is sorted stays as it is. -/
import Derived.Test.YtbkcclmhgnplcaaDoorCel6
import Derived.IntWalk
namespace Go.Proofs.YtbkcclmhgnplcaaDoor
open Go.RowKit
set_option maxRecDepth 100000 in
set_option maxHeartbeats 1000000 in
theorem gcmp_any (k s n m k' s' n' m' : Value) (x y : Cel) (w : World) (hx : CR w k s n m x) (hy : CR w k' s' n' m' y) (h1 : x.key.length ≤ 1000000) (h2 : y.key.length ≤ 1000000) :
    Calls Tryd.prog 51 #[.agg #[k, .int .i64 x.cnt, s, n, m], .agg #[k', .int .i64 y.cnt, s', n', m']] w fun e w' => e = .returned (.int .i64 (cmpL x.key y.key)) ∧ Below w.heap.size w w' := by
  obtain ⟨⟨Pk, ck, rfl, hk⟩, ⟨Ps, cs, rfl, hs⟩, ⟨Pn, cn, rfl, hn⟩, ⟨Pm, cm, rfl, hm⟩⟩ := hx
  obtain ⟨⟨Qk, dk, rfl, gk⟩, ⟨Qs, ds, rfl, gs⟩, ⟨Qn, dn, rfl, gn⟩, ⟨Qm, dm, rfl, gm⟩⟩ := hy
  have R1 : Hid (RI w (.slice Pk x.key.length ck) x.key) := Lib.hid ⟨_, _, rfl, hk⟩
  have R2 : Hid (RI w (.slice Qk y.key.length dk) y.key) := Lib.hid ⟨_, _, rfl, gk⟩
  have L1 := Lib.hid h1
  have L2 := Lib.hid h2
  clear hk hs hn hm gk gs gn gm h1 h2
  generalize hlk : x.key.length = lk at R1 L1 ⊢
  generalize hlq : y.key.length = lq at R2 L2 ⊢
  have hb : Below w.heap.size w ((w.alloc (.cells #[.slice Pk lk ck, .int .i64 x.cnt, .slice Ps x.sum.length cs, .slice Pn x.mn.length cn, .slice Pm x.mx.length cm] 33)).alloc (.cells #[.slice Qk lq dk, .int .i64 y.cnt, .slice Qs y.sum.length ds, .slice Qn y.mn.length dn, .slice Qm y.mx.length dm] 33)) := ((Below.refl _ w).alloc (Nat.le_refl _) _).alloc (by simp) _
  have HB := Lib.hid hb
  have E1 := Lib.hid hlk
  have E2 := Lib.hid hlq
  clear hb hlk hlq
  go_enter Tryd.func51, Tryd.ntmps51
  go_wp2_with fail
  refine (less_any _ _ x.key y.key _ (R1.out.keep (Keeps.of_below HB.out)) (R2.out.keep (Keeps.of_below HB.out)) (by rw [E1.out]; exact L1.out) (by rw [E2.out]; exact L2.out)).mono ?_
  rintro e w' ⟨rfl, rfl⟩
  go_wp2
  go_ret
  exact ⟨rfl, HB.out⟩
theorem wrap_small (j : Nat) (h : j ≤ 1000000) : IntKind.i64.wrap (j : Int) = (j : Int) := by
  have e : IntKind.i64.wrap (j : Int) = wrap64 (j : Int) := Go.IntWalk.i64_left _
  rw [e]
  unfold wrap64
  omega
/-- No cell is less than the one ahead of it. -/
def SortedC (l : List Cel) : Prop := ∀ (i : Nat) (x y : Cel), l[i]? = some x → l[i + 1]? = some y → 0 ≤ cmpL y.key x.key
set_option maxRecDepth 100000 in
set_option maxHeartbeats 4000000 in
theorem isort_any (ad : Addr) (c N : Nat) (l : List Cel) (w : World) (hl : CellsR w ad l) (hs : SortedC l) (hk : ∀ x ∈ l, x.key.length ≤ 1000000) (hN : N = l.length) (hn : N ≤ 1000000) :
    Calls Tryd.prog 101 #[.slice (some ad) N c, .int .i64 0, .int .i64 N, .func (.func 51) #[] #[]] w fun e w' => (∃ v, e = .returned v) ∧ Below w.heap.size w w' := by
  have Hl := Lib.hid hl
  have Hs := Lib.hid hs
  have Hk := Lib.hid hk
  have HN := Lib.hid hN
  clear hl hs hk hN
  go_enter Tryd.func101, Tryd.ntmps101
  go_wp2_with fail
  go_loopw [8] (fun v wr => ∃ j : Nat, v = .int .i64 ((j : Int) + 1) ∧ j ≤ N ∧ Below w.heap.size w wr) (fun v _ => N + 1 - (intOf v).toNat)
  case atStart => exact ⟨0, by simp, by omega, Below.refl _ _⟩
  case round =>
    obtain ⟨j, rfl, hj, hb⟩ := hrel
    rename World => wr
    by_cases hlt : j + 1 < N
    · obtain ⟨x, hx⟩ : ∃ x, l[j]? = some x := ⟨_, List.getElem?_eq_getElem (by have := HN.out; omega)⟩
      obtain ⟨y, hy⟩ : ∃ y, l[j + 1]? = some y := ⟨_, List.getElem?_eq_getElem (by have := HN.out; omega)⟩
      have hsxy := Hs.out j x y hx hy
      have hkx := Hk.out x (List.mem_of_getElem? hx)
      have hky := Hk.out y (List.mem_of_getElem? hy)
      obtain ⟨vk, vs, vn, vm, a0, a1, a2, a3, a4, hcx, _⟩ := (Hl.out j x hx).keep (Keeps.of_below hb)
      obtain ⟨uk, us, un, um, b0, b1, b2, b3, b4, hcy, _⟩ := (Hl.out (j + 1) y hy).keep (Keeps.of_below hb)
      have Hb := Lib.hid hb
      have Hcx := Lib.hid hcx
      have Hcy := Lib.hid hcy
      have Hkx := Lib.hid hkx
      have Hky := Lib.hid hky
      have d0 : decide (((j : Int) + 1) < (N : Int)) = true := decide_eq_true (by omega)
      have d1 : decide ((0 : Int) < ((j : Int) + 1)) = true := decide_eq_true (by omega)
      have d2 : decide (cmpL y.key x.key < 0) = false := by simp; omega
      have w1 : wrap64 (((j : Int) + 1) - 1) = (j : Int) := by rw [show (((j : Int) + 1) - 1) = (j : Int) by omega]; unfold wrap64; omega
      have w2 : IntKind.i64.wrap (j : Int) = (j : Int) := wrap_small j (by omega)
      have i0 : (0 : Int) ≤ ((j : Int) + 1) := by omega
      have i1 : ((j : Int) + 1) < (N : Int) := by omega
      have i2 : (0 : Int) ≤ (j : Int) := by omega
      have i3 : (j : Int) < (N : Int) := by omega
      clear hb hcx hcy hkx hky hx hy hsxy
      go_wp2_with fail
      go_loopw [9] (fun v W => v = .int .i64 ((j : Int) + 1) ∧ Below wr.heap.size wr W) (fun _ _ => 0)
      case atStart => exact ⟨rfl, Below.refl _ _⟩
      case round =>
        obtain ⟨rfl, hb⟩ := hrel
        rename World => W0
        have kw := Keeps.of_below hb
        have Hb2 := Lib.hid hb
        clear hb
        go_wp2_with fail
        refine wp_region_held_drew (S := fun W => Keeps wr W) (by kernel_rfl) (show Keeps wr W0.drew from kw.drewN 1) (fun hHeld => ?_)
        refine wpAnyH_take (i := 0) (v := ?va0) rfl (by kernel_rfl) (by kernel_rfl) (by kernel_rfl) (fun _ _ _ h => h) (Or.inl ⟨by rfl, ?ya0⟩) hHeld ?ra0
        case ya0 => (intro W hW; go_simp; first | done | with_reducible rfl)
        try simp only [List.getElem_toArray, List.getElem_cons_zero, Act.put, List.setIfInBounds_toArray, List.set_cons_zero, List.set_cons_succ]
        refine wpAnyH_take (i := 1) (v := ?va1) rfl (by kernel_rfl) (by kernel_rfl) (by kernel_rfl) (fun _ _ _ h => h) (Or.inl ⟨by rfl, ?ya1⟩) hHeld ?ra1
        case ya1 => (intro W hW; go_simp; first | done | with_reducible rfl)
        try simp only [List.getElem_toArray, List.getElem_cons_succ, List.getElem_cons_zero, Act.put, List.setIfInBounds_toArray, List.set_cons_zero, List.set_cons_succ]
        refine wpAnyH_take (i := 2) (v := ?va2) rfl (by kernel_rfl) (by kernel_rfl) (by kernel_rfl) (fun _ _ _ h => h) (Or.inl ⟨by rfl, ?ya2⟩) hHeld ?ra2
        case ya2 => (intro W hW; go_simp; first | done | with_reducible rfl)
        try simp only [List.getElem_toArray, List.getElem_cons_succ, List.getElem_cons_zero, Act.put, List.setIfInBounds_toArray, List.set_cons_zero, List.set_cons_succ]
        refine wpAnyH_take (i := 3) (v := ?va3) rfl (by kernel_rfl) (by kernel_rfl) (by kernel_rfl) (fun _ _ _ h => h) (Or.inl ⟨by rfl, ?ya3⟩) hHeld ?ra3
        case ya3 => (intro W hW; go_simp; first | done | with_reducible rfl)
        try simp only [List.getElem_toArray, List.getElem_cons_succ, List.getElem_cons_zero, Act.put, List.setIfInBounds_toArray, List.set_cons_zero, List.set_cons_succ]
        refine wpAnyH_take (i := 4) (v := ?va4) rfl (by kernel_rfl) (by kernel_rfl) (by kernel_rfl) (fun _ _ _ h => h) (Or.inl ⟨by rfl, ?ya4⟩) hHeld ?ra4
        case ya4 => (intro W hW; go_simp; first | done | with_reducible rfl)
        try simp only [List.getElem_toArray, List.getElem_cons_succ, List.getElem_cons_zero, Act.put, List.setIfInBounds_toArray, List.set_cons_zero, List.set_cons_succ]
        refine wpAnyH_take (i := 5) (v := ?va5) rfl (by kernel_rfl) (by kernel_rfl) (by kernel_rfl) (fun _ _ _ h => h) (Or.inl ⟨by rfl, ?ya5⟩) hHeld ?ra5
        case ya5 => (intro W hW; go_simp; first | done | with_reducible rfl)
        try simp only [List.getElem_toArray, List.getElem_cons_succ, List.getElem_cons_zero, Act.put, List.setIfInBounds_toArray, List.set_cons_zero, List.set_cons_succ]
        refine wpAnyH_take (i := 6) (v := ?va6) rfl (by kernel_rfl) (by kernel_rfl) (by kernel_rfl) (fun _ _ _ h => h) (Or.inl ⟨by rfl, ?ya6⟩) hHeld ?ra6
        case ya6 => (intro W hW; go_simp; first | done | with_reducible rfl)
        try simp only [List.getElem_toArray, List.getElem_cons_succ, List.getElem_cons_zero, Act.put, List.setIfInBounds_toArray, List.set_cons_zero, List.set_cons_succ]
        refine wpAnyH_take (i := 7) (v := ?va7) rfl (by kernel_rfl) (by kernel_rfl) (by kernel_rfl) (fun _ _ _ h => h) (Or.inl ⟨by rfl, ?ya7⟩) hHeld ?ra7
        case ya7 => (intro W hW; go_simp; first | done | with_reducible rfl)
        try simp only [List.getElem_toArray, List.getElem_cons_succ, List.getElem_cons_zero, Act.put, List.setIfInBounds_toArray, List.set_cons_zero, List.set_cons_succ]
        refine wpAnyH_take (i := 8) (v := ?va8) rfl (by kernel_rfl) (by kernel_rfl) (by kernel_rfl) (fun _ _ _ h => h) (Or.inl ⟨by rfl, ?ya8⟩) hHeld ?ra8
        case ya8 => (intro W hW; have g0 := hW _ _ a0; have g1 := hW _ _ a1; have g2 := hW _ _ a2; have g3 := hW _ _ a3; have g4 := hW _ _ a4; have p0 := hW _ _ b0; have p1 := hW _ _ b1; have p2 := hW _ _ b2; have p3 := hW _ _ b3; have p4 := hW _ _ b4; clear hW; go_simp; first | done | with_reducible rfl)
        try simp only [List.getElem_toArray, List.getElem_cons_succ, List.getElem_cons_zero, Act.put, List.setIfInBounds_toArray, List.set_cons_zero, List.set_cons_succ]
        refine wpAnyH_take (i := 9) (v := ?va9) rfl (by kernel_rfl) (by kernel_rfl) (by kernel_rfl) (fun _ _ _ h => h) (Or.inl ⟨by rfl, ?ya9⟩) hHeld ?ra9
        case ya9 => (intro W hW; go_simp; first | done | with_reducible rfl)
        try simp only [List.getElem_toArray, List.getElem_cons_succ, List.getElem_cons_zero, Act.put, List.setIfInBounds_toArray, List.set_cons_zero, List.set_cons_succ]
        refine wpAnyH_take (i := 10) (v := ?va10) rfl (by kernel_rfl) (by kernel_rfl) (by kernel_rfl) (fun _ _ _ h => h) (Or.inl ⟨by rfl, ?ya10⟩) hHeld ?ra10
        case ya10 => (intro W hW; go_simp; first | done | with_reducible rfl)
        try simp only [List.getElem_toArray, List.getElem_cons_succ, List.getElem_cons_zero, Act.put, List.setIfInBounds_toArray, List.set_cons_zero, List.set_cons_succ]
        refine wpAnyH_take (i := 11) (v := ?va11) rfl (by kernel_rfl) (by kernel_rfl) (by kernel_rfl) (fun _ _ _ h => h) (Or.inl ⟨by rfl, ?ya11⟩) hHeld ?ra11
        case ya11 => (intro W hW; go_simp; first | done | with_reducible rfl)
        try simp only [List.getElem_toArray, List.getElem_cons_succ, List.getElem_cons_zero, Act.put, List.setIfInBounds_toArray, List.set_cons_zero, List.set_cons_succ]
        refine wpAnyH_take (i := 12) (v := ?va12) rfl (by kernel_rfl) (by kernel_rfl) (by kernel_rfl) (fun _ _ _ h => h) (Or.inl ⟨by rfl, ?ya12⟩) hHeld ?ra12
        case ya12 => (intro W hW; go_simp; first | done | with_reducible rfl)
        try simp only [List.getElem_toArray, List.getElem_cons_succ, List.getElem_cons_zero, Act.put, List.setIfInBounds_toArray, List.set_cons_zero, List.set_cons_succ]
        refine wpAnyH_take (i := 13) (v := ?va13) rfl (by kernel_rfl) (by kernel_rfl) (by kernel_rfl) (fun _ _ _ h => h) (Or.inl ⟨by rfl, ?ya13⟩) hHeld ?ra13
        case ya13 => (intro W hW; have g0 := hW _ _ a0; have g1 := hW _ _ a1; have g2 := hW _ _ a2; have g3 := hW _ _ a3; have g4 := hW _ _ a4; have p0 := hW _ _ b0; have p1 := hW _ _ b1; have p2 := hW _ _ b2; have p3 := hW _ _ b3; have p4 := hW _ _ b4; clear hW; go_simp; first | done | with_reducible rfl)
        try simp only [List.getElem_toArray, List.getElem_cons_succ, List.getElem_cons_zero, Act.put, List.setIfInBounds_toArray, List.set_cons_zero, List.set_cons_succ]
        refine wpAnyH_ready (rs := [14]) (by kernel_rfl) (by simp) ?_
        refine AllReadyH.cons rfl (fun K hK => ?_) (AllReadyH.nil)
        go_simp
        refine (gcmp_any _ _ _ _ _ _ _ _ y x W0.drew (Hcy.out.keep (kw.drewN 1)) (Hcx.out.keep (kw.drewN 1)) Hky.out Hkx.out).mono ?_
        rintro e V ⟨rfl, hbv⟩
        have hW0 : Below w.heap.size w W0 := Hb.out.trans (Hb2.out.mono Hb.out.size)
        have HV := Lib.hid ((below_drewN hW0 1).trans (hbv.mono hW0.size))
        have HK := Lib.hid (show Keeps wr V from (show Keeps wr W0.drew from kw.drewN 1).trans (Keeps.of_below hbv))
        clear hbv hW0
        go_wp2_with fail
        refine hK.out _ _ (HK.out) (fun hHeld => ?_)
        clear hK K
        try simp only [List.getElem_toArray, List.getElem_cons_succ, List.getElem_cons_zero, Act.put, List.setIfInBounds_toArray, List.set_cons_zero, List.set_cons_succ]
        refine wpAnyH_take (i := 15) (v := ?va15) rfl (by kernel_rfl) (by kernel_rfl) (by kernel_rfl) (fun _ _ _ h => h) (Or.inl ⟨by rfl, ?ya15⟩) hHeld ?ra15
        case ya15 => (intro W hW; go_simp; first | done | with_reducible rfl)
        try simp only [List.getElem_toArray, List.getElem_cons_succ, List.getElem_cons_zero, Act.put, List.setIfInBounds_toArray, List.set_cons_zero, List.set_cons_succ]
        refine wpAnyH_take (i := 16) (v := ?va16) rfl (by kernel_rfl) (by kernel_rfl) (by kernel_rfl) (fun _ _ _ h => h) (Or.inl ⟨by rfl, ?ya16⟩) hHeld ?ra16
        case ya16 => (intro W hW; go_simp; first | done | with_reducible rfl)
        try simp only [List.getElem_toArray, List.getElem_cons_succ, List.getElem_cons_zero, Act.put, List.setIfInBounds_toArray, List.set_cons_zero, List.set_cons_succ]
        refine wpAnyH_done (by kernel_rfl) ?_ _
        go_wp2
        go_roundw
        case rel => exact ⟨j + 1, by simp, by omega, HV.out⟩
        case measure => simp [intOf]; omega
    · have d0 : decide (((j : Int) + 1) < (N : Int)) = false := by simp; omega
      have Hb := Lib.hid hb
      clear hb
      go_wp2
      go_end0
      exact ⟨⟨_, rfl⟩, Hb.out⟩
set_option maxRecDepth 100000 in
set_option maxHeartbeats 2000000 in
theorem stable_any (ad : Addr) (c N : Nat) (l : List Cel) (w : World) (hl : CellsR w ad l) (hs : SortedC l) (hk : ∀ x ∈ l, x.key.length ≤ 1000000) (hN : N = l.length) (hn : N ≤ 19) :
    Calls Tryd.prog 78 #[.slice (some ad) N c, .int .i64 N, .func (.func 51) #[] #[]] w fun e w' => (∃ v, e = .returned v) ∧ Below w.heap.size w w' := by
  have HI := Lib.hid (fun W hW => isort_any ad c N l W (hl.keep hW) hs hk hN (by omega) : ∀ W : World, Keeps w W → _)
  clear hl hs hk hN
  have d0 : decide ((20 : Int) ≤ (N : Int)) = false := by simp; omega
  have d1 : decide ((20 : Int) < (N : Int)) = false := by simp; omega
  go_enter Tryd.func78, Tryd.ntmps78
  go_wp2_with fail
  go_loopw [7, 8] (fun v u W => v = .int .i64 0 ∧ u = .int .i64 20 ∧ W = w) (fun _ _ _ => 0)
  case atStart => exact ⟨rfl, rfl, rfl⟩
  case round =>
    obtain ⟨rfl, rfl, rfl⟩ := hrel
    go_wp2_with fail
    refine (HI.out _ (Keeps.refl _)).mono ?_
    rintro e w1 ⟨⟨v, rfl⟩, hb⟩
    have Hb := Lib.hid hb
    clear hb HI
    go_wp2_with fail
    go_loopw [6] (fun v W => v = .int .i64 20 ∧ W = w1) (fun _ _ => 0)
    case atStart => exact ⟨rfl, rfl⟩
    case round =>
      obtain ⟨rfl, rfl⟩ := hrel
      go_wp2
      go_end0
      exact ⟨⟨_, rfl⟩, Hb.out⟩
set_option maxRecDepth 100000 in
theorem sort_any (ad : Addr) (c N : Nat) (l : List Cel) (w : World) (hl : CellsR w ad l) (hs : SortedC l) (hk : ∀ x ∈ l, x.key.length ≤ 1000000) (hN : N = l.length) (hn : N ≤ 19) :
    Calls Tryd.prog 50 #[.slice (some ad) N c, .func (.func 51) #[] #[]] w fun e w' => (∃ v, e = .returned v) ∧ Below w.heap.size w w' := by
  have HI := Lib.hid (stable_any ad c N l w hl hs hk hN hn)
  clear hl hs hk hN
  go_enter Tryd.func50, Tryd.ntmps50
  go_wp2_with fail
  refine HI.out.mono ?_
  rintro e w1 ⟨⟨v, rfl⟩, hb⟩
  have Hb := Lib.hid hb
  clear hb HI
  go_wp2
  go_end0
  exact ⟨⟨_, rfl⟩, Hb.out⟩
end Go.Proofs.YtbkcclmhgnplcaaDoor
