/- Package lattice's folded, over a set's dimensions: of numbers. -/
import Derived.Test.YtjllmladhjbnaaaGreatDoorLat1
namespace Go.Proofs.YtjllmladhjbnaaaGreatDoor
open Go.RowKit Go.Shelf
attribute [local go_sem] Oper.semAt_some
set_option maxRecDepth 100000 in
set_option maxHeartbeats 4000000 in
theorem foldI_any (s : Int) (Bs g : Nat) (cb : Array Value) (F : List (InSet s) → Int) (w : World) (h1 : 0 ≤ s) (h2 : s ≤ 15) (hT : Tab w) (hw1 : 1 < w.heap.size) (hBs : w.cell? ⟨Bs, 0, none⟩ = some (.int .i64 s))
    (eg : ∀ args w, (callFunc g args).run Tryz.prog w = .ok (.enter g args) w)
    (hstep : ∀ (pre : List (InSet s)) (x : InSet s) (W : World), pre.length < (dimsL s).length → Keeps w W → Calls Tryz.prog g (#[.int .i64 (F pre), .int .i64 x.1] ++ cb) W fun e W' => e = .returned (.int .i64 (F (pre ++ [x]))) ∧ Below W.heap.size W W') :
    Calls Tryz.prog 66 #[.func (.func 79) #[] #[.pointer (some ⟨Bs, 0, none⟩)], .int .i64 (F []), .func (.func g) #[] cb] w fun e w' => (∃ ys : List (InSet s), ys.map (·.1) = dimsL s ∧ e = .returned (.int .i64 (F ys))) ∧ Below w.heap.size w w' := by
  refine callsIn_wide (n := 9).1 ?_
  have HT := Lib.hid hT
  have Hst := Lib.hid hstep
  have hBl := block_lt hBs
  have HBs := Lib.hid hBs
  clear hT hstep hBs
  refine callsIn_of_wp_marks Tryz.func66 rfl trivial ?_ rfl
  simp only [Tryz.ntmps66, List.size_toArray, List.length_cons, List.length_nil, Nat.reduceAdd, Nat.reduceSub, Array.replicate_succ, Array.replicate_zero, List.push_toArray, List.append_toArray, List.nil_append, List.cons_append]
  gi_wp2
  have b0 := (Boxed.new w 94 (.func (.func g) #[] cb)).alloc (.cells #[.int .i64 (F [])] 3)
  have b1 := Boxed.new (w.alloc (.cells #[.func (.func g) #[] cb] 94)) 3 (.int .i64 (F []))
  simp only [World.size_alloc] at b1
  have hB : Below w.heap.size w ((w.alloc (.cells #[.func (.func g) #[] cb] 94)).alloc (.cells #[.int .i64 (F [])] 3)) := ((Below.refl _ w).alloc (Nat.le_refl _) _).alloc (by simp) _
  have hz : ((w.alloc (.cells #[.func (.func g) #[] cb] 94)).alloc (.cells #[.int .i64 (F [])] 3)).heap.size = w.heap.size + 2 := by simp
  generalize (w.alloc (.cells #[.func (.func g) #[] cb] 94)).alloc (.cells #[.int .i64 (F [])] 3) = w4 at b0 b1 hB hz ⊢
  refine wpIn_rangeFunc_ownG rfl (by omega) (gf := 79) (lb := #[.pointer (some ⟨Bs, 0, none⟩)]) rfl trivial (enters_of Tryz.func79 (by kernel_rfl) rfl)
    (dims_stops 8 (by omega) Bs w.heap.size s h1 h2 hw1 w4 (by omega) ((Keeps.of_below hB) _ _ HBs.out) (HT.out.keep (Keeps.of_below hB))) belowK_t (belowK_b (by omega)) (Below.refl _ _) (fun _ => rfl)
    (fun pre W => (Boxed W w.heap.size 94 (.func (.func g) #[] cb) ∧ Boxed W (w.heap.size + 1) 3 (.int .i64 (F pre))) ∧ Below w.heap.size w4 W)
    (fun _ _ _ => False)
    (OwnFrom.and (OwnFrom.and (Own.from (boxed_own _ _ _) _) (Own.from (boxed_own _ _ (fun pre : List (InSet s) => .int .i64 (F pre))) _)) (ownFrom_below (by omega) (by omega)))
    (fun _ _ _ _ _ hs _ _ => hs)
    ⟨⟨b0, b1⟩, Below.refl _ _⟩
    (fun x => { tmps := #[.func (.func 79) #[] #[.pointer (some ⟨Bs, 0, none⟩)], .int .i64 (F []), .func (.func g) #[] cb, undef, undef, .pointer (some ⟨w.heap.size, 0, none⟩), .int .i64 0, .pointer (some ⟨w.heap.size + 1, 0, none⟩), .int .i64 x.1, .int .i64 (F []), .func (.func 79) #[] #[.pointer (some ⟨Bs, 0, none⟩)], .int .i64 x.1, undef, undef, undef, undef, undef], defers := [] }) ?assign ?body ?done ?stop
  case assign =>
    intro l x W K hK
    gi_wp2
    exact hK
  case done =>
    rintro D ys W hD hys ⟨⟨-, hv⟩, hBW⟩ hK
    have hc := hv.cell
    replace hBW := hB.trans hBW
    have HBW := Lib.hid hBW
    have HK := Lib.hid hK
    have Hys := Lib.hid hys
    clear hys hBW
    gi_wp2
    refine ⟨by simp, .inl ⟨_, _, rfl, run_takeDeferred HK.out, ?_⟩⟩
    exact ⟨_, results_tmp rfl _ _ _, ⟨ys, Hys.out, rfl⟩, HBW.out.trans (belowK_b (w := w) (Nat.le_refl _) W D _ _ (by omega) HK.out rfl rfl)⟩
  case stop =>
    rintro D c pre W _ _ h _
    exact h.elim
  case body =>
    rintro l pre x W ⟨⟨g0, g1⟩, hBW⟩ hlt
    have hc0 := g0.cell
    have hc1 := g1.cell
    have hB4 := hB.trans hBW
    have hst := Hst.out pre x W hlt (Keeps.of_below hB4)
    have HS := Lib.hid hst
    clear hst
    gi_wp2_with (refine ⟨trivial, ?_⟩; refine (CallsIn.inRound l (callsIn_wide.2 HS.out)).mono ?_; rintro e w' ⟨rfl, hb⟩; have k0 : Boxed w' w.heap.size 94 (.func (.func g) #[] cb) := (hb.block _ g0.lt).trans g0; have k1 : Boxed w' (w.heap.size + 1) 3 (.int .i64 (F pre)) := (hb.block _ g1.lt).trans g1; have k2 := k1.cell; have k3 := k1.frozen)
    clear k2 k3
    have hs : Below w.heap.size W (w'.setCell ⟨w.heap.size + 1, 0, none⟩ (.int .i64 (F (pre ++ [x])))) := (hb.mono hB4.size).setCell (p := ⟨w.heap.size + 1, 0, none⟩) (by show w.heap.size ≤ w.heap.size + 1; omega) _
    exact ⟨((KeepsOthers.mk hb.size fun k o hk _ => (hb.block k (Array.getElem?_eq_some_iff.1 hk).1).trans hk).trans (KeepsOthers.setCell _ _ _)).from _, hs, ⟨k0.other (by omega) _, k1.set _⟩, hBW.trans hs⟩
set_option maxRecDepth 100000 in
set_option maxHeartbeats 4000000 in
theorem foldS_any (s : Int) (Bs g : Nat) (cb : Array Value) (f : InSet s → Int) (w : World) (h1 : 0 ≤ s) (h2 : s ≤ 15) (hT : Tab w) (hw1 : 1 < w.heap.size) (hBs : w.cell? ⟨Bs, 0, none⟩ = some (.int .i64 s))
    (eg : ∀ args w, (callFunc g args).run Tryz.prog w = .ok (.enter g args) w)
    (hstep : ∀ (pre : List (InSet s)) (x : InSet s) (v : Value) (W : World), pre.length < (dimsL s).length → Below w.heap.size w W → w.heap.size + 2 ≤ W.heap.size → W.ownsRow (w.heap.size + 2) 3 1 v pre.length (ints (pre.map f)) →
      Calls Tryz.prog g (#[v, .int .i64 x.1] ++ cb) W fun e W' => ∃ v', e = .returned v' ∧ W'.ownsRow (w.heap.size + 2) 3 1 v' (pre.length + 1) (ints ((pre ++ [x]).map f)) ∧ W.grownBy W' v.ownBlock) :
    Calls Tryz.prog 55 #[.func (.func 79) #[] #[.pointer (some ⟨Bs, 0, none⟩)], .slice none 0 0, .func (.func g) #[] cb] w fun e w' => (∃ (ys : List (InSet s)) (v : Value), ys.map (·.1) = dimsL s ∧ e = .returned v ∧ w'.ownsRow w.heap.size 3 1 v ys.length (ints (ys.map f))) ∧ Below w.heap.size w w' := by
  refine callsIn_wide (n := 9).1 ?_
  have HT := Lib.hid hT
  have Hst := Lib.hid hstep
  have hBl := block_lt hBs
  have HBs := Lib.hid hBs
  clear hT hstep hBs
  refine callsIn_of_wp_marks Tryz.func55 rfl trivial ?_ rfl
  simp only [Tryz.ntmps55, List.size_toArray, List.length_cons, List.length_nil, Nat.reduceAdd, Nat.reduceSub, Array.replicate_succ, Array.replicate_zero, List.push_toArray, List.append_toArray, List.nil_append, List.cons_append]
  gi_wp2
  have b0 := (Boxed.new w 90 (.func (.func g) #[] cb)).alloc (.cells #[.slice none 0 0] 22)
  have b1 := Boxed.new (w.alloc (.cells #[.func (.func g) #[] cb] 90)) 22 (.slice none 0 0)
  simp only [World.size_alloc] at b1
  have hB : Below w.heap.size w ((w.alloc (.cells #[.func (.func g) #[] cb] 90)).alloc (.cells #[.slice none 0 0] 22)) := ((Below.refl _ w).alloc (Nat.le_refl _) _).alloc (by simp) _
  have hz : ((w.alloc (.cells #[.func (.func g) #[] cb] 90)).alloc (.cells #[.slice none 0 0] 22)).heap.size = w.heap.size + 2 := by simp
  generalize (w.alloc (.cells #[.func (.func g) #[] cb] 90)).alloc (.cells #[.slice none 0 0] 22) = w4 at b0 b1 hB hz ⊢
  refine wpIn_rangeFunc_ownG rfl (by omega) (gf := 79) (lb := #[.pointer (some ⟨Bs, 0, none⟩)]) rfl trivial (enters_of Tryz.func79 (by kernel_rfl) rfl)
    (dims_stops 8 (by omega) Bs w.heap.size s h1 h2 hw1 w4 (by omega) ((Keeps.of_below hB) _ _ HBs.out) (HT.out.keep (Keeps.of_below hB))) belowK_t (belowK_b (by omega)) (Below.refl _ _) (fun _ => rfl)
    (fun pre W => (Boxed W w.heap.size 90 (.func (.func g) #[] cb) ∧ (∃ v, Boxed W (w.heap.size + 1) 22 v ∧ W.ownsRow (w.heap.size + 2) 3 1 v pre.length (ints (pre.map f)) ∧ True)) ∧ Below w.heap.size w4 W)
    (fun _ _ _ => False)
    (OwnFrom.and (OwnFrom.and (Own.from (boxed_own _ _ _) _) (Own.from (holdsRow_own (w.heap.size + 2) (w.heap.size + 1) 22 3 1 (fun pre : List (InSet s) => pre.length) (fun pre => ints (pre.map f)) (fun _ _ => True)) _)) (ownFrom_below (by omega) (by omega)))
    (fun _ _ _ _ _ hs _ _ => hs)
    ⟨⟨b0, _, b1, World.ownsRow_nil _ _ _ _, trivial⟩, Below.refl _ _⟩
    (fun x => { tmps := #[.func (.func 79) #[] #[.pointer (some ⟨Bs, 0, none⟩)], .slice none 0 0, .func (.func g) #[] cb, undef, undef, .pointer (some ⟨w.heap.size, 0, none⟩), .slice none 0 0, .pointer (some ⟨w.heap.size + 1, 0, none⟩), .int .i64 x.1, .slice none 0 0, .func (.func 79) #[] #[.pointer (some ⟨Bs, 0, none⟩)], .int .i64 x.1, undef, undef, undef, undef, undef], defers := [] }) ?assign ?body ?done ?stop
  case assign =>
    intro l x W K hK
    gi_wp2
    exact hK
  case done =>
    rintro D ys W hD hys ⟨⟨-, v, hv, hrow, -⟩, hBW⟩ hK
    have hc := hv.cell
    replace hBW := hB.trans hBW
    have HBW := Lib.hid hBW
    have HK := Lib.hid hK
    have Hrow := Lib.hid (own_mono hrow (show w.heap.size ≤ w.heap.size + 2 by omega))
    clear hrow
    have Hys := Lib.hid hys
    clear hys hBW
    gi_wp2
    refine ⟨by simp, .inl ⟨_, _, rfl, run_takeDeferred HK.out, ?_⟩⟩
    exact ⟨_, results_tmp rfl _ _ _, ⟨ys, v, Hys.out, rfl, ownsRow_putObj Hrow.out _ HK.out rfl⟩, HBW.out.trans (belowK_b (w := w) (Nat.le_refl _) W D _ _ (by omega) HK.out rfl rfl)⟩
  case stop =>
    rintro D c pre W _ _ h _
    exact h.elim
  case body =>
    rintro l pre x W ⟨⟨g0, v, g1, hrow, -⟩, hBW⟩ hlt
    have hc0 := g0.cell
    have hc1 := g1.cell
    have hB4 := hB.trans hBW
    have hst := Hst.out pre x v W hlt hB4 (by have := hBW.size; omega) hrow
    have HS := Lib.hid hst
    have Hrow := Lib.hid hrow
    clear hst hrow
    gi_wp2_with (refine ⟨trivial, ?_⟩; refine (CallsIn.inRound l (callsIn_wide.2 HS.out)).mono ?_; rintro e w' ⟨v', rfl, hown, hgr⟩; obtain ⟨g', cap', e'⟩ := ownsRow_succ hown; subst e'; have k0 : Boxed w' w.heap.size 90 (.func (.func g) #[] cb) := g0.kept hgr (fun e => by have := (Hrow.out.lt _ e.symm).1; omega); have k1 : Boxed w' (w.heap.size + 1) 22 v := g1.kept hgr (fun e => by have := (Hrow.out.lt _ e.symm).1; omega); have k2 := k1.cell; have k3 := k1.frozen; have Hown := Lib.hid hown; have Hgr := Lib.hid hgr; clear hown hgr)
    clear k2 k3
    have hb : Below w.heap.size W w' := (Below.refl _ W).grown Hgr.out hB4.size fun j e => by have := (Hrow.out.lt j e).1; omega
    have hs : Below w.heap.size W (w'.setCell ⟨w.heap.size + 1, 0, none⟩ (.slice (some ⟨g', 0, none⟩) (pre.length + 1) cap')) := hb.setCell (p := ⟨w.heap.size + 1, 0, none⟩) (by show w.heap.size ≤ w.heap.size + 1; omega) _
    have hko : KeepsOthers W w' := KeepsOthers.of_grownBy Hgr.out fun j o ej hj => by
      rcases Hrow.out.2 with ⟨rfl, _⟩ | ⟨g2, cap2, cur2, rfl, _, hgb, _⟩
      · simp [Value.ownBlock] at ej
      · obtain rfl : g2 = j := by simpa [Value.ownBlock] using ej
        rw [hgb] at hj; cases hj; rfl
    refine ⟨(hko.trans (KeepsOthers.setCell _ _ _)).from _, hs, ⟨k0.other (by omega) _, _, k1.set _, ?_, trivial⟩, hBW.trans hs⟩
    rw [List.length_append]
    exact own_stay Hown.out fun j hj => Below.heap_setCell _ _ _ _ (by have := (Hown.out.lt j hj).1; show j ≠ w.heap.size + 1; omega)
end Go.Proofs.YtjllmladhjbnaaaGreatDoor
