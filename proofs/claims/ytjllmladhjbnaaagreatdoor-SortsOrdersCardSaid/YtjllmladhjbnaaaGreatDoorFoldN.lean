/- Package lattice's folded of numbers, over a set's dimensions, by a closure that only reads: the count of draws stays. -/
import Derived.Test.YtjllmladhjbnaaaGreatDoorRange
namespace Go.Proofs.YtjllmladhjbnaaaGreatDoor
open Go.RowKit Go.Shelf
attribute [local go_sem] Oper.semAt_some
set_option maxRecDepth 100000 in
set_option maxHeartbeats 4000000 in
theorem foldN_any (s : Int) (Bs g : Nat) (cb : Array Value) (F : List (InSet s) → Int) (w : World) (h1 : 0 ≤ s) (h2 : s ≤ 15) (hT : Tab w) (hw1 : 1 < w.heap.size) (hBs : w.cell? ⟨Bs, 0, none⟩ = some (.int .i64 s))
    (eg : ∀ args w, (callFunc g args).run Tryz.prog w = .ok (.enter g args) w)
    (hstep : ∀ (pre : List (InSet s)) (x : InSet s) (W : World), pre.length < (dimsL s).length → Keeps w W → Calls Tryz.prog g (#[.int .i64 (F pre), .int .i64 x.1] ++ cb) W fun e W' => e = .returned (.int .i64 (F (pre ++ [x]))) ∧ W = W') :
    Calls Tryz.prog 66 #[.func (.func 79) #[] #[.pointer (some ⟨Bs, 0, none⟩)], .int .i64 (F []), .func (.func g) #[] cb] w fun e w' => (∃ ys : List (InSet s), ys.map (·.1) = dimsL s ∧ e = .returned (.int .i64 (F ys))) ∧ Below w.heap.size w w' ∧ w'.drawn = w.drawn := by
  refine callsIn_wide (n := 9).1 ?_
  have HT := Lib.hid hT
  have Hst := Lib.hid hstep
  have hBl := block_lt hBs
  have HBs := Lib.hid hBs
  clear hT hstep hBs
  refine callsIn_of_wp_marks Tryz.func66 rfl trivial ?_ rfl
  simp only [Tryz.ntmps66, List.size_toArray, List.length_cons, List.length_nil, Nat.reduceAdd, Nat.reduceSub, Array.replicate_succ, Array.replicate_zero, List.push_toArray, List.append_toArray, List.nil_append, List.cons_append]
  gi_wp2
  have b0 := (Boxed.new w 94 (.func (.func g) #[] cb)).alloc (.cells #[.int .i64 (F [])] 3)
  have b1 := Boxed.new (w.alloc (.cells #[.func (.func g) #[] cb] 94)) 3 (.int .i64 (F []))
  simp only [World.size_alloc] at b1
  have hB : Below w.heap.size w ((w.alloc (.cells #[.func (.func g) #[] cb] 94)).alloc (.cells #[.int .i64 (F [])] 3)) := ((Below.refl _ w).alloc (Nat.le_refl _) _).alloc (by simp) _
  have hz : ((w.alloc (.cells #[.func (.func g) #[] cb] 94)).alloc (.cells #[.int .i64 (F [])] 3)).heap.size = w.heap.size + 2 := by simp
  have hdr : ((w.alloc (.cells #[.func (.func g) #[] cb] 94)).alloc (.cells #[.int .i64 (F [])] 3)).drawn = w.drawn := rfl
  generalize (w.alloc (.cells #[.func (.func g) #[] cb] 94)).alloc (.cells #[.int .i64 (F [])] 3) = w4 at b0 b1 hB hz hdr ⊢
  refine range_goes rfl (by omega) (gf := 79) (lb := #[.pointer (some ⟨Bs, 0, none⟩)]) rfl trivial (enters_of Tryz.func79 (by kernel_rfl) rfl)
    (encs := fun x : InSet s => #[Value.int .i64 x.1]) (n₀ := w.heap.size) (N := (dimsL s).length) (S := fun ys => ys.map (·.1) = dimsL s) (by omega) (fun _ => rfl)
    (fun l J W hW hY h0 => (dims1_in 8 (by omega) l Bs w.heap.size s h1 h2 hw1 J (fun _ _ => False) (fun pre x W1 hJ hl => by
        obtain ⟨fn, tmps, assign, body, hy, hR⟩ := hY pre x W1 hJ hl
        exact ⟨fn, tmps, assign, body, hy, hR.mono fun _ _ h => .inl h⟩) W ((Keeps.of_below (hB.trans (hW.mono (by omega)))) _ _ HBs.out) (HT.out.keep (Keeps.of_below (hB.trans (hW.mono (by omega))))) h0).mono fun _ _ ⟨hv, h⟩ => ⟨hv, h.elim id fun ⟨_, _, h⟩ => h.elim⟩)
    (fun pre W => (Boxed W w.heap.size 94 (.func (.func g) #[] cb) ∧ Boxed W (w.heap.size + 1) 3 (.int .i64 (F pre))) ∧ Below w.heap.size w4 W ∧ W.drawn = w.drawn)
    ⟨fun pre W o h => ⟨⟨h.1.1.alloc _, h.1.2.alloc _⟩, h.2.1.alloc (Nat.le_trans (by omega) h.2.1.size) _, h.2.2⟩,
     fun pre W l o o' h hl ho hc => ⟨⟨(World.putObj_heap_other (by omega)).trans h.1.1, (World.putObj_heap_other (by omega)).trans h.1.2⟩, h.2.1.trans (below_put _ (by omega) ho), h.2.2⟩⟩
    ⟨⟨b0, b1⟩, Below.refl _ _, hdr⟩
    (fun x => { tmps := #[.func (.func 79) #[] #[.pointer (some ⟨Bs, 0, none⟩)], .int .i64 (F []), .func (.func g) #[] cb, undef, undef, .pointer (some ⟨w.heap.size, 0, none⟩), .int .i64 0, .pointer (some ⟨w.heap.size + 1, 0, none⟩), .int .i64 x.1, .int .i64 (F []), .func (.func 79) #[] #[.pointer (some ⟨Bs, 0, none⟩)], .int .i64 x.1, undef, undef, undef, undef, undef], defers := [] }) ?assign ?body ?done
  case assign =>
    intro l x W K hK
    gi_wp2
    exact hK
  case done =>
    rintro D ys W hD hys ⟨⟨-, hv⟩, hBW, hdW⟩ hK
    have hc := hv.cell
    replace hBW := hB.trans hBW
    have HBW := Lib.hid hBW
    have HK := Lib.hid hK
    have Hys := Lib.hid hys
    have Hd := Lib.hid hdW
    clear hys hBW hdW hdr
    gi_wp2
    refine ⟨by simp, .inl ⟨_, _, rfl, run_takeDeferred HK.out, ?_⟩⟩
    exact ⟨_, results_tmp rfl _ _ _, ⟨ys, Hys.out, rfl⟩, HBW.out.trans (below_put _ (by omega) HK.out), Hd.out⟩
  case body =>
    rintro l pre x W ⟨⟨g0, g1⟩, hBW, hdW⟩ hlt
    have hc0 := g0.cell
    have hc1 := g1.cell
    have hf1 := g1.frozen
    have hB4 := hB.trans hBW
    have HS := Lib.hid (Hst.out pre x W hlt (Keeps.of_below hB4))
    have Hd := Lib.hid hdW
    clear hdW hdr
    gi_wp2_with (refine ⟨trivial, ?_⟩; refine (CallsIn.inRound l (callsIn_wide.2 HS.out)).mono ?_; rintro e w' ⟨rfl, rfl⟩)
    have hs : Below w.heap.size W (W.setCell ⟨w.heap.size + 1, 0, none⟩ (.int .i64 (F (pre ++ [x])))) := (Below.refl _ W).setCell (p := ⟨w.heap.size + 1, 0, none⟩) (by show w.heap.size ≤ w.heap.size + 1; omega) _
    exact ⟨KeepsOthers.setCell _ _ _, hs, ⟨g0.other (by omega) _, g1.set _⟩, hBW.trans hs, Hd.out⟩
end Go.Proofs.YtjllmladhjbnaaaGreatDoor
