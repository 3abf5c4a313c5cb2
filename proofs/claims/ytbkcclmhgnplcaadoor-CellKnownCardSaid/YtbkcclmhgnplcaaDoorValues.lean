/- Package cell's values: those of a set's dimensions. -/
import Derived.Test.YtbkcclmhgnplcaaDoorDims
import Derived.Test.YtbkcclmhgnplcaaDoorRegI
import Derived.Test.YtbkcclmhgnplcaaDoorInts
namespace Go.Proofs.YtbkcclmhgnplcaaDoor
open Go.RowKit Go.Shelf
attribute [local go_sem] Oper.semAt_some
def pick (xs : List Int) (frm : Int) (d : Int) : Int := xs[(plc frm d).toNat]?.getD 0
theorem ownFrom_pure {β : Type} {B : Nat} (p : Prop) : OwnFrom B (fun (_ : β) (_ : World) => p) := fun _ _ _ _ h _ _ => h
set_option maxRecDepth 100000 in
set_option maxHeartbeats 4000000 in
theorem values_in (P : Option Addr) (m c : Nat) (xs : List Int) (frm to : Int) (w : World) (hx : Nums .i64 w P m xs) (hm : m ≤ 9223372036854775807) (hT : Tab w) (hw1 : 1 < w.heap.size) (f1 : 0 ≤ frm) (f2 : frm ≤ 15) (t1 : 0 ≤ to) (t2 : to ≤ 15)
    (hin : ∀ d ∈ dimsL to, 0 ≤ plc frm d ∧ plc frm d < m) :
    Calls Tryd.prog 42 #[.slice P m c, .int .i64 frm, .int .i64 to] w fun e w' => ∃ v, e = .returned v ∧ w'.ownsRow w.heap.size 3 1 v (dimsL to).length (ints ((dimsL to).map (pick xs frm))) ∧ Below w.heap.size w w' := by
  refine callsIn_wide (n := 9).1 ?_
  have Hx := Lib.hid hx
  have HT := Lib.hid hT
  have Hin := Lib.hid hin
  clear hx hT hin
  refine callsIn_of_wp_marks Tryd.func42 rfl trivial ?_ rfl
  simp only [Tryd.ntmps42, List.size_toArray, List.length_cons, List.length_nil, Nat.reduceAdd, Nat.reduceSub, Array.replicate_succ, Array.replicate_zero, List.push_toArray, List.append_toArray, List.nil_append, List.cons_append]
  gi_wp2_with (refine ⟨trivial, ?_⟩; gi_at_call 74; refine (callsIn_wide.2 (dims_in to _)).mono ?_; rintro e w' ⟨rfl, rfl⟩)
  have b0 := ((((Boxed.new w 22 (.slice P m c)).alloc (.cells #[.int .i64 frm] 3)).alloc (.cells #[.slice none 0 0] 22)).alloc (.cells #[.int .i64 to] 3))
  have b1 := (((Boxed.new (w.alloc (.cells #[.slice P m c] 22)) 3 (.int .i64 frm)).alloc (.cells #[.slice none 0 0] 22)).alloc (.cells #[.int .i64 to] 3))
  have b2 := ((Boxed.new ((w.alloc (.cells #[.slice P m c] 22)).alloc (.cells #[.int .i64 frm] 3)) 22 (.slice none 0 0)).alloc (.cells #[.int .i64 to] 3))
  have b3 := (Boxed.new (((w.alloc (.cells #[.slice P m c] 22)).alloc (.cells #[.int .i64 frm] 3)).alloc (.cells #[.slice none 0 0] 22)) 3 (.int .i64 to))
  simp only [World.size_alloc] at b1 b2 b3
  have hB : Below w.heap.size w ((((w.alloc (.cells #[.slice P m c] 22)).alloc (.cells #[.int .i64 frm] 3)).alloc (.cells #[.slice none 0 0] 22)).alloc (.cells #[.int .i64 to] 3)) := ((((Below.refl _ w).alloc (Nat.le_refl _) _).alloc (by simp) _).alloc (by simp; omega) _).alloc (by simp; omega) _
  have hz : ((((w.alloc (.cells #[.slice P m c] 22)).alloc (.cells #[.int .i64 frm] 3)).alloc (.cells #[.slice none 0 0] 22)).alloc (.cells #[.int .i64 to] 3)).heap.size = w.heap.size + 4 := by simp
  generalize (((w.alloc (.cells #[.slice P m c] 22)).alloc (.cells #[.int .i64 frm] 3)).alloc (.cells #[.slice none 0 0] 22)).alloc (.cells #[.int .i64 to] 3) = w4 at b0 b1 b2 b3 hB hz ⊢
  refine wpIn_rangeFunc_ownG rfl (by omega) (gf := 99) (lb := #[.pointer (some ⟨w.heap.size + 1 + 1 + 1, 0, none⟩)]) rfl trivial (enters_of Tryd.func99 (by kernel_rfl) rfl)
    (dims_stops 8 (by omega) (w.heap.size + 1 + 1 + 1) w.heap.size to t1 t2 hw1 w4 (by omega) b3.cell (HT.out.keep (Keeps.of_below hB))) belowK_t (belowK_b (by omega)) (Below.refl _ _) (fun _ => rfl)
    (fun pre W => (∃ v, Boxed W (w.heap.size + 1 + 1) 22 v ∧ W.ownsRow (w.heap.size + 4) 3 1 v pre.length (ints ((pre.map (·.1)).map (pick xs frm))) ∧ True) ∧ ((Boxed W w.heap.size 22 (.slice P m c) ∧ Boxed W (w.heap.size + 1) 3 (.int .i64 frm)) ∧ Below w.heap.size w4 W))
    (fun _ _ _ => False)
    (OwnFrom.and (Own.from (holdsRow_own (w.heap.size + 4) (w.heap.size + 1 + 1) 22 3 1 (fun pre : List (InSet to) => pre.length) (fun pre => ints ((pre.map (·.1)).map (pick xs frm))) (fun _ _ => True)) _)
      (OwnFrom.and (OwnFrom.and (Own.from (boxed_own _ _ _) _) (Own.from (boxed_own _ _ _) _)) (ownFrom_below (by omega) (by omega))))
    (fun _ _ _ _ _ hs _ _ => hs)
    ⟨⟨_, b2, World.ownsRow_nil _ _ _ _, trivial⟩, ⟨b0, b1⟩, Below.refl _ _⟩
    (fun x => { tmps := #[.slice P m c, .int .i64 frm, .int .i64 to, .pointer (some ⟨w.heap.size, 0, none⟩), .pointer (some ⟨w.heap.size + 1, 0, none⟩), undef, .slice none 0 0, .pointer (some ⟨w.heap.size + 1 + 1, 0, none⟩), .int .i64 x.1, .int .i64 to, .func (.func 99) #[] #[.pointer (some ⟨w.heap.size + 1 + 1 + 1, 0, none⟩)], .int .i64 x.1, undef, undef, undef, undef, undef, undef, undef, undef, undef, undef], defers := [] }) ?assign ?body ?done ?stop
  case assign =>
    intro l x W K hK
    gi_wp2
    exact hK
  case done =>
    rintro D ys W hD hys ⟨⟨v, hv, hrow, -⟩, -, hBW⟩ hK
    have hc := hv.cell
    have hlen : ys.length = (dimsL to).length := by rw [← hys, List.length_map]
    rw [hys, hlen] at hrow
    replace hrow := own_mono hrow (show w.heap.size ≤ w.heap.size + 4 by omega)
    replace hBW := hB.trans hBW
    have Hrow := Lib.hid hrow
    have HBW := Lib.hid hBW
    have HK := Lib.hid hK
    clear hys hlen hrow hBW
    gi_wp2
    refine ⟨by simp, .inl ⟨_, _, rfl, run_takeDeferred HK.out, ?_⟩⟩
    exact ⟨_, results_tmp rfl _ _ _, v, rfl, ownsRow_putObj Hrow.out _ HK.out rfl, HBW.out.trans (belowK_b (w := w) (Nat.le_refl _) W D _ _ (by omega) HK.out rfl rfl)⟩
  case stop =>
    rintro D c pre W _ _ h _
    exact h.elim
  case body =>
    rintro l pre x W ⟨⟨v, hv, hrow, -⟩, ⟨g0, g1⟩, hBW⟩ hlt
    obtain ⟨d, hd⟩ := x
    have hsz4 := hBW.size
    have hB4 := hBW
    replace hBW := hB.trans hBW
    obtain ⟨k1, k2⟩ := Hin.out d hd
    obtain ⟨k, hk⟩ : ∃ k : Nat, plc frm d = k := Int.eq_ofNat_of_zero_le k1
    rw [hk] at k2
    have km : k < m := by omega
    obtain ⟨ad, x0, rfl, hx0, hxi, hxc⟩ := (Hx.out.keep (Keeps.of_below hBW)).at_ km
    obtain ⟨dn, hdn, hd3⟩ : ∃ dn : Nat, d = dn ∧ dn ≤ 3 := by
      rcases dimsL_in to d hd with rfl | rfl | rfl | rfl
      · exact ⟨0, rfl, by omega⟩
      · exact ⟨1, rfl, by omega⟩
      · exact ⟨2, rfl, by omega⟩
      · exact ⟨3, rfl, by omega⟩
    subst hdn
    have hpk : pick xs frm (dn : Int) = x0 := by unfold pick; rw [hk]; simp [hx0]
    have hpl := fun W' => place_any frm dn W' f1 f2 hd3
    rw [hk] at hpl
    have hpre4 := dimsL_le to
    obtain ⟨i0, hi, hz0, hz1, hz2⟩ := info_parts infoI
    have hsz := hBW.size
    have hB5 : w.heap.size + 4 ≤ (W.drew.alloc (.cells #[.int .i64 x0] 3)).heap.size := by
      have h5 : (W.drew.alloc (.cells #[.int .i64 x0] 3)).heap.size = W.heap.size + 1 := by simp
      omega
    obtain ⟨v', w1, hrun, hown', hgrow, _, _⟩ := run_append_own_at (P := Tryd.prog) (W.drew.alloc (.cells #[.int .i64 x0] 3)) (w.heap.size + 4) 22 22 3 i0 _ 1 8 Tryd.underlying22 hi hz0 hz1 hz2 rfl (by omega) v pre.length _ ((show W.drew.ownsRow _ _ _ _ _ _ from hrow).alloc _)
      ⟨W.heap.size, 0, none⟩ 1 1 [.int .i64 x0] rfl (fun j u hu => by
        rw [add0, show (W.drew.alloc (.cells #[.int .i64 x0] 3)).cell? ⟨W.heap.size, j, none⟩ = #[.int .i64 x0][j]? from cell_of_row _ _ _ _ 3 (0, 0) (heap_alloc_new W.drew _)]
        simpa using hu) (by intro u hu; simp at hu; subst hu; rfl) (by simp [maxLen]; omega) (by omega) hB5
    obtain ⟨g', cap', e'⟩ := ownsRow_succ hown'
    subst e'
    obtain ⟨hv1, hv2, _, hk2, hb2⟩ := Boxed.appended (show Boxed W.drew _ _ _ from hv) (by decide) (own_mono (show W.drew.ownsRow _ _ _ _ _ _ from hrow) (show w.heap.size ≤ w.heap.size + 4 by omega)) hBW.size (by omega) (own_mono hown' (show w.heap.size ≤ w.heap.size + 4 by omega)) hgrow
    have hr2 : (w1.setCell ⟨w.heap.size + 1 + 1, 0, none⟩ (.slice (some ⟨g', 0, none⟩) (pre.length + 1) cap')).ownsRow (w.heap.size + 4) 3 1 (.slice (some ⟨g', 0, none⟩) (pre.length + 1) cap') (pre.length + 1) _ := own_stay hown' fun j hj => Below.heap_setCell _ _ _ _ (by have := (hown'.lt j hj).1; show j ≠ w.heap.size + 1 + 1; omega)
    obtain ⟨w2, hw2⟩ : ∃ w2, w2 = w1.setCell ⟨w.heap.size + 1 + 1, 0, none⟩ (.slice (some ⟨g', 0, none⟩) (pre.length + 1) cap') := ⟨_, rfl⟩
    rw [← hw2] at hv2 hr2 hk2 hb2
    have hka : Keeps W (W.drew.alloc (.cells #[.int .i64 x0] 3)) := ((Keeps.refl W).drewN 1).alloc _
    have hcl := hv.cell
    have hcl2 : (W.alloc (.cells #[.int .i64 x0] 3)).cell? ⟨w.heap.size + 1 + 1, 0, none⟩ = some v := ((Keeps.refl W).alloc _) _ _ hcl
    have hP0 : W.cell? ⟨w.heap.size, 0, none⟩ = some (.slice (some ad) m c) ∧ W.cell? ⟨w.heap.size + 1, 0, none⟩ = some (.int .i64 frm) ∧ W.cell? (ad.add k) = some (.int .i64 x0) := ⟨g0.cell, g1.cell, hxc⟩
    have hPa : (W.drew.alloc (.cells #[.int .i64 x0] 3)).cell? ⟨w.heap.size, 0, none⟩ = some (.slice (some ad) m c) ∧ (W.drew.alloc (.cells #[.int .i64 x0] 3)).cell? ⟨w.heap.size + 1, 0, none⟩ = some (.int .i64 frm) ∧ (W.drew.alloc (.cells #[.int .i64 x0] 3)).cell? (ad.add k) = some (.int .i64 x0) := ⟨hka _ _ hP0.1, hka _ _ hP0.2.1, hka _ _ hP0.2.2⟩
    have hg0' : Boxed w1 w.heap.size 22 (.slice (some ad) m c) ∧ Boxed w1 (w.heap.size + 1) 3 (.int .i64 frm) := by
      have q0 : Boxed (W.drew.alloc (.cells #[.int .i64 x0] 3)) w.heap.size 22 (.slice (some ad) m c) := Boxed.alloc (W := W.drew) g0 _
      have q1 : Boxed (W.drew.alloc (.cells #[.int .i64 x0] 3)) (w.heap.size + 1) 3 (.int .i64 frm) := Boxed.alloc (W := W.drew) g1 _
      have far : ∀ j, j < w.heap.size + 4 → some j ≠ v.ownBlock := fun j hj e => by
        have := (hrow.lt j e.symm).1
        omega
      exact ⟨q0.kept hgrow (far _ (by omega)), q1.kept hgrow (far _ (by omega))⟩
    have hxb : ad.block < w.heap.size := by
      obtain ⟨ad2, e2, hc2⟩ := Hx.out.2.2 (show 0 < m by omega)
      injection e2 with e2
      subst e2
      have h9 := block_lt (hc2 k x0 hx0)
      rwa [block_of_add] at h9
    have hPw1 : w1.cell? ⟨w.heap.size, 0, none⟩ = some (.slice (some ad) m c) ∧ w1.cell? ⟨w.heap.size + 1, 0, none⟩ = some (.int .i64 frm) ∧ w1.cell? (ad.add k) = some (.int .i64 x0) := by
      refine ⟨hg0'.1.cell, hg0'.2.cell, ?_⟩
      rw [World.cell?_of_block (w := W.drew.alloc (.cells #[.int .i64 x0] 3)) (hgrow.block _ (by rw [block_of_add]; simp; omega) (fun e => by rw [block_of_add] at e; have := (hrow.lt _ e.symm).1; omega))]
      exact hPa.2.2
    have hPw2 : w2.cell? ⟨w.heap.size, 0, none⟩ = some (.slice (some ad) m c) ∧ w2.cell? ⟨w.heap.size + 1, 0, none⟩ = some (.int .i64 frm) ∧ w2.cell? (ad.add k) = some (.int .i64 x0) := by
      have oth : ∀ (p : Addr) (u : Value), p.block ≠ w.heap.size + 1 + 1 → w1.cell? p = some u → w2.cell? p = some u := fun p u hne h => by
        rw [hw2, World.cell?_of_block (w := w1) (Below.heap_setCell _ _ _ _ hne)]; exact h
      exact ⟨oth _ _ (by simp; omega) hPw1.1, oth _ _ (by simp) hPw1.2.1, oth _ _ (by rw [block_of_add]; omega) hPw1.2.2⟩
    have hmap : ints ((pre.map (·.1)).map (pick xs frm)) ++ [.int .i64 x0] = ints (((pre ++ [(⟨(dn : Int), hd⟩ : InSet to)]).map (·.1)).map (pick xs frm)) := by
      rw [List.map_append, List.map_append]
      simp [ints, hpk]
    have Hfin : Hid (KeepsFrom w4.heap.size W w2 ∧ Below w.heap.size W w2 ∧ ((∃ v, Boxed w2 (w.heap.size + 1 + 1) 22 v ∧ w2.ownsRow (w.heap.size + 4) 3 1 v (pre ++ [(⟨(dn : Int), hd⟩ : InSet to)]).length (ints (((pre ++ [(⟨(dn : Int), hd⟩ : InSet to)]).map (·.1)).map (pick xs frm))) ∧ True) ∧ ((Boxed w2 w.heap.size 22 (.slice (some ad) m c) ∧ Boxed w2 (w.heap.size + 1) 3 (.int .i64 frm)) ∧ Below w.heap.size w4 w2))) := by
      refine Lib.hid ⟨((KeepsOthers.drew W).trans hk2).from _, (Below.drew (Below.refl _ W)).trans hb2, ⟨_, hv2, ?_, trivial⟩, ⟨?_, ?_⟩, hB4.trans ((Below.drew (Below.refl _ W)).trans hb2)⟩
      · rw [List.length_append, ← hmap]; exact hr2
      · rw [hw2]; exact hg0'.1.other (by omega) _
      · rw [hw2]; exact hg0'.2.other (by omega) _
    have HP0 := Lib.hid hP0
    have HPa := Lib.hid hPa
    have HPw1 := Lib.hid hPw1
    have HPw2 := Lib.hid hPw2
    have Hrun := Lib.hid hrun
    have Hpl := Lib.hid hpl
    have Hw2 := Lib.hid hw2
    have hf1 := hv1.frozen
    have hc1 := hv1.cell
    have km2 : (k : Int) < (m : Int) := by omega
    have km3 : (0 : Int) ≤ (k : Int) := by omega
    clear hv hrow g0 g1 hBW hB4 k1 k2 hx0 hxi hxc hpk hpl hpre4 hi hz0 hz1 hz2 hrun hown' hgrow hv1 hv2 hr2 hk2 hb2 hw2 hka hP0 hPa hg0' hxb hPw1 hPw2 hmap hsz hsz4 hB5 hk hd3 hlt
    gi_wp2
    refine region_I (S := fun W' => W'.cell? ⟨w.heap.size, 0, none⟩ = some (.slice (some ad) m c) ∧ W'.cell? ⟨w.heap.size + 1, 0, none⟩ = some (.int .i64 frm) ∧ W'.cell? (ad.add k) = some (.int .i64 x0)) (by kernel_rfl) HP0.out (fun hHeld => ?_)
    refine anyI_take (i := 1) (v := ?va1) (by kernel_rfl) rfl (by kernel_rfl) (by kernel_rfl) (by kernel_rfl) (fun _ _ _ h => h) (fun _ => rfl) (Or.inl ⟨by rfl, ?ya1⟩) hHeld ?ra1
    case ya1 => (intro W hW; obtain ⟨h1, h2, h3⟩ := hW; go_simp; first | done | with_reducible rfl)
    try simp only [List.getElem_toArray, List.getElem_cons_succ, List.getElem_cons_zero, Act.put, List.setIfInBounds_toArray, List.set_cons_zero, List.set_cons_succ]
    refine anyI_take (i := 2) (v := ?va2) (by kernel_rfl) rfl (by kernel_rfl) (by kernel_rfl) (by kernel_rfl) (fun _ _ _ h => h) (fun _ => rfl) (Or.inl ⟨by rfl, ?ya2⟩) hHeld ?ra2
    case ya2 => (intro W hW; obtain ⟨h1, h2, h3⟩ := hW; go_simp; first | done | with_reducible rfl)
    try simp only [List.getElem_toArray, List.getElem_cons_succ, List.getElem_cons_zero, Act.put, List.setIfInBounds_toArray, List.set_cons_zero, List.set_cons_succ]
    refine anyI_take (i := 3) (v := ?va3) (by kernel_rfl) rfl (by kernel_rfl) (by kernel_rfl) (by kernel_rfl) (fun _ _ _ h => h) (fun _ => rfl) (Or.inl ⟨by rfl, ?ya3⟩) hHeld ?ra3
    case ya3 => (intro W hW; obtain ⟨h1, h2, h3⟩ := hW; go_simp; first | done | with_reducible rfl)
    try simp only [List.getElem_toArray, List.getElem_cons_succ, List.getElem_cons_zero, Act.put, List.setIfInBounds_toArray, List.set_cons_zero, List.set_cons_succ]
    refine anyI_ready (rs := [0, 4]) (by kernel_rfl) (by simp) ?_
    refine AllI.cons (by kernel_rfl) rfl (by rfl) (fun K hK => ?_) (AllI.cons (by kernel_rfl) rfl (by rfl) (fun K hK => ?_) (AllI.nil))
    · refine ⟨fun _ _ => trivial, ?_⟩
      go_simp
      refine hK.out _ _ (HP0.out) (fun hHeld => ?_)
      clear hK K
      try simp only [List.getElem_toArray, List.getElem_cons_succ, List.getElem_cons_zero, Act.put, List.setIfInBounds_toArray, List.set_cons_zero, List.set_cons_succ]
      refine anyI_ready (rs := [4]) (by kernel_rfl) (by simp) ?_
      refine AllI.cons (by kernel_rfl) rfl (by rfl) (fun K hK => ?_) (AllI.nil)
      refine ⟨fun _ _ => trivial, ?_⟩
      go_simp
      refine (CallsIn.inRound l (callsIn_wide.2 (Hpl.out _))).mono ?_
      rintro e w' ⟨rfl, rfl⟩
      dsimp only
      refine hK.out _ _ (HP0.out) (fun hHeld => ?_)
      clear hK K
      try simp only [List.getElem_toArray, List.getElem_cons_succ, List.getElem_cons_zero, Act.put, List.setIfInBounds_toArray, List.set_cons_zero, List.set_cons_succ]
      refine anyI_take (i := 5) (v := ?vb5) (by kernel_rfl) rfl (by kernel_rfl) (by kernel_rfl) (by kernel_rfl) (fun _ _ _ h => h) (fun _ => rfl) (Or.inl ⟨by rfl, ?yb5⟩) hHeld ?rb5
      case yb5 => (intro W hW; obtain ⟨h1, h2, h3⟩ := hW; go_simp; first | done | with_reducible rfl)
      try simp only [List.getElem_toArray, List.getElem_cons_succ, List.getElem_cons_zero, Act.put, List.setIfInBounds_toArray, List.set_cons_zero, List.set_cons_succ]
      refine anyI_take (i := 6) (v := ?vb6) (by kernel_rfl) rfl (by kernel_rfl) (by kernel_rfl) (by kernel_rfl) (fun _ _ _ h => h) (fun _ => rfl) (Or.inl ⟨by rfl, ?yb6⟩) hHeld ?rb6
      case yb6 => (intro W hW; obtain ⟨h1, h2, h3⟩ := hW; go_simp; first | done | with_reducible rfl)
      try simp only [List.getElem_toArray, List.getElem_cons_succ, List.getElem_cons_zero, Act.put, List.setIfInBounds_toArray, List.set_cons_zero, List.set_cons_succ]
      refine anyI_ready (rs := [7]) (by kernel_rfl) (by simp) ?_
      refine AllI.cons (by kernel_rfl) rfl (by rfl) (fun K hK => ?_) (AllI.nil)
      refine ⟨fun _ _ => trivial, ?_⟩
      go_simp
      refine hK.out _ _ (HPa.out) (fun hHeld => ?_)
      clear hK K
      try simp only [List.getElem_toArray, List.getElem_cons_succ, List.getElem_cons_zero, Act.put, List.setIfInBounds_toArray, List.set_cons_zero, List.set_cons_succ]
      refine anyI_ready (rs := [8]) (by kernel_rfl) (by simp) ?_
      refine AllI.cons (by kernel_rfl) rfl (by rfl) (fun K hK => ?_) (AllI.nil)
      refine ⟨fun _ _ => trivial, ?_⟩
      refine uponI_append (.tmp 12) (.tmp 19) 22 rfl _ _ _ rfl rfl Hrun.out ?_
      refine hK.out _ _ (HPw1.out) (fun hHeld => ?_)
      clear hK K
      try simp only [List.getElem_toArray, List.getElem_cons_succ, List.getElem_cons_zero, Act.put, List.setIfInBounds_toArray, List.set_cons_zero, List.set_cons_succ]
      refine anyI_ready (rs := [9]) (by kernel_rfl) (by simp) ?_
      refine AllI.cons (by kernel_rfl) rfl (by rfl) (fun K hK => ?_) (AllI.nil)
      refine ⟨fun _ _ => trivial, ?_⟩
      go_simp
      rw [← Hw2.out]
      refine hK.out _ _ (HPw2.out) (fun hHeld => ?_)
      clear hK K
      try simp only [List.getElem_toArray, List.getElem_cons_succ, List.getElem_cons_zero, Act.put, List.setIfInBounds_toArray, List.set_cons_zero, List.set_cons_succ]
      refine anyI_done (by kernel_rfl) ?_ _
      gi_wp2
      exact Hfin.out
    · refine ⟨fun _ _ => trivial, ?_⟩
      go_simp
      refine (CallsIn.inRound l (callsIn_wide.2 (Hpl.out _))).mono ?_
      rintro e w' ⟨rfl, rfl⟩
      dsimp only
      refine hK.out _ _ (HP0.out) (fun hHeld => ?_)
      clear hK K
      try simp only [List.getElem_toArray, List.getElem_cons_succ, List.getElem_cons_zero, Act.put, List.setIfInBounds_toArray, List.set_cons_zero, List.set_cons_succ]
      refine anyI_take (i := 5) (v := ?vc5) (by kernel_rfl) rfl (by kernel_rfl) (by kernel_rfl) (by kernel_rfl) (fun _ _ _ h => h) (fun _ => rfl) (Or.inl ⟨by rfl, ?yc5⟩) hHeld ?rc5
      case yc5 => (intro W hW; obtain ⟨h1, h2, h3⟩ := hW; go_simp; first | done | with_reducible rfl)
      try simp only [List.getElem_toArray, List.getElem_cons_succ, List.getElem_cons_zero, Act.put, List.setIfInBounds_toArray, List.set_cons_zero, List.set_cons_succ]
      refine anyI_take (i := 6) (v := ?vc6) (by kernel_rfl) rfl (by kernel_rfl) (by kernel_rfl) (by kernel_rfl) (fun _ _ _ h => h) (fun _ => rfl) (Or.inl ⟨by rfl, ?yc6⟩) hHeld ?rc6
      case yc6 => (intro W hW; obtain ⟨h1, h2, h3⟩ := hW; go_simp; first | done | with_reducible rfl)
      try simp only [List.getElem_toArray, List.getElem_cons_succ, List.getElem_cons_zero, Act.put, List.setIfInBounds_toArray, List.set_cons_zero, List.set_cons_succ]
      refine anyI_ready (rs := [0, 7]) (by kernel_rfl) (by simp) ?_
      refine AllI.cons (by kernel_rfl) rfl (by rfl) (fun K hK => ?_) (AllI.cons (by kernel_rfl) rfl (by rfl) (fun K hK => ?_) (AllI.nil))
      · refine ⟨fun _ _ => trivial, ?_⟩
        go_simp
        refine hK.out _ _ (HP0.out) (fun hHeld => ?_)
        clear hK K
        try simp only [List.getElem_toArray, List.getElem_cons_succ, List.getElem_cons_zero, Act.put, List.setIfInBounds_toArray, List.set_cons_zero, List.set_cons_succ]
        refine anyI_ready (rs := [7]) (by kernel_rfl) (by simp) ?_
        refine AllI.cons (by kernel_rfl) rfl (by rfl) (fun K hK => ?_) (AllI.nil)
        refine ⟨fun _ _ => trivial, ?_⟩
        go_simp
        refine hK.out _ _ (HPa.out) (fun hHeld => ?_)
        clear hK K
        try simp only [List.getElem_toArray, List.getElem_cons_succ, List.getElem_cons_zero, Act.put, List.setIfInBounds_toArray, List.set_cons_zero, List.set_cons_succ]
        refine anyI_ready (rs := [8]) (by kernel_rfl) (by simp) ?_
        refine AllI.cons (by kernel_rfl) rfl (by rfl) (fun K hK => ?_) (AllI.nil)
        refine ⟨fun _ _ => trivial, ?_⟩
        refine uponI_append (.tmp 12) (.tmp 19) 22 rfl _ _ _ rfl rfl Hrun.out ?_
        refine hK.out _ _ (HPw1.out) (fun hHeld => ?_)
        clear hK K
        try simp only [List.getElem_toArray, List.getElem_cons_succ, List.getElem_cons_zero, Act.put, List.setIfInBounds_toArray, List.set_cons_zero, List.set_cons_succ]
        refine anyI_ready (rs := [9]) (by kernel_rfl) (by simp) ?_
        refine AllI.cons (by kernel_rfl) rfl (by rfl) (fun K hK => ?_) (AllI.nil)
        refine ⟨fun _ _ => trivial, ?_⟩
        go_simp
        rw [← Hw2.out]
        refine hK.out _ _ (HPw2.out) (fun hHeld => ?_)
        clear hK K
        try simp only [List.getElem_toArray, List.getElem_cons_succ, List.getElem_cons_zero, Act.put, List.setIfInBounds_toArray, List.set_cons_zero, List.set_cons_succ]
        refine anyI_done (by kernel_rfl) ?_ _
        gi_wp2
        exact Hfin.out
      · refine ⟨fun _ _ => trivial, ?_⟩
        go_simp
        refine hK.out _ _ (HPa.out) (fun hHeld => ?_)
        clear hK K
        try simp only [List.getElem_toArray, List.getElem_cons_succ, List.getElem_cons_zero, Act.put, List.setIfInBounds_toArray, List.set_cons_zero, List.set_cons_succ]
        refine anyI_ready (rs := [0]) (by kernel_rfl) (by simp) ?_
        refine AllI.cons (by kernel_rfl) rfl (by rfl) (fun K hK => ?_) (AllI.nil)
        refine ⟨fun _ _ => trivial, ?_⟩
        go_simp
        refine hK.out _ _ (HPa.out) (fun hHeld => ?_)
        clear hK K
        try simp only [List.getElem_toArray, List.getElem_cons_succ, List.getElem_cons_zero, Act.put, List.setIfInBounds_toArray, List.set_cons_zero, List.set_cons_succ]
        refine anyI_ready (rs := [8]) (by kernel_rfl) (by simp) ?_
        refine AllI.cons (by kernel_rfl) rfl (by rfl) (fun K hK => ?_) (AllI.nil)
        refine ⟨fun _ _ => trivial, ?_⟩
        refine uponI_append (.tmp 12) (.tmp 19) 22 rfl _ _ _ rfl rfl Hrun.out ?_
        refine hK.out _ _ (HPw1.out) (fun hHeld => ?_)
        clear hK K
        try simp only [List.getElem_toArray, List.getElem_cons_succ, List.getElem_cons_zero, Act.put, List.setIfInBounds_toArray, List.set_cons_zero, List.set_cons_succ]
        refine anyI_ready (rs := [9]) (by kernel_rfl) (by simp) ?_
        refine AllI.cons (by kernel_rfl) rfl (by rfl) (fun K hK => ?_) (AllI.nil)
        refine ⟨fun _ _ => trivial, ?_⟩
        go_simp
        rw [← Hw2.out]
        refine hK.out _ _ (HPw2.out) (fun hHeld => ?_)
        clear hK K
        try simp only [List.getElem_toArray, List.getElem_cons_succ, List.getElem_cons_zero, Act.put, List.setIfInBounds_toArray, List.set_cons_zero, List.set_cons_succ]
        refine anyI_done (by kernel_rfl) ?_ _
        gi_wp2
        exact Hfin.out
end Go.Proofs.YtbkcclmhgnplcaaDoor
