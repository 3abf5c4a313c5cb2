/- A row of cells grows by one that was joined. -/
import Derived.Test.YtbkcclmhgnplcaaDoorCel8
namespace Go.Proofs.YtbkcclmhgnplcaaDoor
open Go.RowKit Go.Shelf
/-- A row of one cell of the call's own, and that cell's slices. -/
def GR (B : Nat) (X : World) (v k s n m : Value) (J : Cel) : Prop := X.ownsRow B 33 5 v 1 [k, .int .i64 J.cnt, s, n, m] ∧ CO B X k s n m J
theorem OI.kept {B : Nat} {X Y : World} {row : Option Nat} {v : Value} {xs : List Int} (h : OI B X v xs) (hg : X.grownBy Y row) (hr : ∀ r, row = some r → ∃ o : Obj, X.heap[r]? = some o ∧ o.isCells = false) : OI B Y v xs := by
  refine ⟨own_stay h.1 fun k hk => hg.block k (h.1.lt k hk).2 fun e => ?_, h.2⟩
  obtain ⟨o, ho, hc⟩ := hr k e.symm
  rcases h.1.2 with ⟨rfl, _⟩ | ⟨g, cap, cur, rfl, _, hh, _⟩
  · simp [Value.ownBlock] at hk
  · simp only [Value.ownBlock, Option.some.injEq] at hk
    subst hk
    rw [hh] at ho
    cases ho
    cases hc
theorem GR.kept {B : Nat} {X Y : World} {row : Option Nat} {v k s n m : Value} {J : Cel} (h : GR B X v k s n m J) (hg : X.grownBy Y row) (hr : ∀ r, row = some r → ∃ o : Obj, X.heap[r]? = some o ∧ o.isCells = false) : GR B Y v k s n m J := by
  refine ⟨own_stay h.1 fun q hq => hg.block q (h.1.lt q hq).2 fun e => ?_, h.2.key.kept hg hr, h.2.sum.kept hg hr, h.2.mn.kept hg hr, h.2.mx.kept hg hr⟩
  obtain ⟨o, ho, hc⟩ := hr q e.symm
  rcases h.1.2 with ⟨rfl, _⟩ | ⟨g, cap, cur, rfl, _, hh, _⟩
  · simp [Value.ownBlock] at hq
  · simp only [Value.ownBlock, Option.some.injEq] at hq
    subst hq
    rw [hh] at ho
    cases ho
    cases hc
/-- Ahead of the one round nothing has turned; behind it the row holds the one cell. -/
def GI (B : Nat) (w4 : World) (Bx : Nat) (J : Cel) (pre : List Unit) (W : World) : Prop :=
  (pre = [] → Below w4.heap.size w4 W) ∧ (pre ≠ [] → Below B w4 W ∧ ∃ v k s n m, Boxed W Bx 31 v ∧ GR w4.heap.size W v k s n m J)
theorem GI.own {B : Nat} {w4 : World} {Bx : Nat} {J : Cel} (hB : B ≤ w4.heap.size) : OwnFrom w4.heap.size (GI B w4 Bx J) := by
  intro pre X Y row hs hg hr
  refine ⟨fun h => (hs.1 h).grown hg (hs.1 h).size fun k e => (hr k e).1, fun h => ?_⟩
  obtain ⟨hb, v, k, s, n, m, hv, hgr⟩ := hs.2 h
  have hr2 : ∀ r, row = some r → ∃ o : Obj, X.heap[r]? = some o ∧ o.isCells = false := fun r e => (hr r e).2
  refine ⟨hb.grown hg (Nat.le_trans hB hb.size) fun k e => Nat.le_trans hB (hr k e).1, v, k, s, n, m, hv.kept hg fun e => ?_, hgr.kept hg hr2⟩
  obtain ⟨o, ho, hc⟩ := hr2 Bx e.symm
  rw [show X.heap[Bx]? = _ from hv] at ho
  cases ho
  cases hc
theorem group_step (B : Nat) (w4 W X1 : World) (Bx : Nat) (J : Cel) (k s n m : Value) (hB : B ≤ w4.heap.size) (hBx : B ≤ Bx) (hx : Boxed w4 Bx 31 (.slice none 0 0)) (h0 : Below w4.heap.size w4 W) (hc : CO W.drew.heap.size X1 k s n m J) (h1 : Below W.drew.heap.size W.drew X1) :
    ∃ g' cp X3, (Builtin.append_ #[31, 31] 31 #[.slice none 0 0, .slice (some ⟨X1.heap.size, 0, none⟩) 1 1]).run Tryd.prog (X1.alloc (.cells #[k, .int .i64 J.cnt, s, n, m] 33)) = .ok (.slice (some ⟨g', 0, none⟩) 1 cp) X3 ∧
      Boxed X3 Bx 31 (.slice none 0 0) ∧ KeepsFrom w4.heap.size W (X3.setCell ⟨Bx, 0, none⟩ (.slice (some ⟨g', 0, none⟩) 1 cp)) ∧ GI B w4 Bx J [()] (X3.setCell ⟨Bx, 0, none⟩ (.slice (some ⟨g', 0, none⟩) 1 cp)) := by
  obtain ⟨i0, hi, hz0, hz1, hz2⟩ := info_parts infoC
  have hW : w4.heap.size ≤ W.heap.size := h0.size
  have hX1 : W.heap.size ≤ X1.heap.size := h1.size
  have hone : ∀ u ∈ [k, .int .i64 J.cnt, s, n, m], u.oneCell' = true := by
    intro u hu
    simp only [List.mem_cons, List.mem_nil_iff, or_false] at hu
    rcases hu with rfl | rfl | rfl | rfl | rfl
    · exact oneCell_ri hc.key.ri
    · rfl
    · exact oneCell_ri hc.sum.ri
    · exact oneCell_ri hc.mn.ri
    · exact oneCell_ri hc.mx.ri
  obtain ⟨v', X3, hrun, ho, hg, _⟩ := run_append_own_at (P := Tryd.prog) (X1.alloc (.cells #[k, .int .i64 J.cnt, s, n, m] 33)) X1.heap.size 31 31 33 i0 _ 5 104 Tryd.underlying31 hi hz0 hz1 hz2 rfl (by omega) (.slice none 0 0) 0 [] (World.ownsRow_nil _ _ _ _) ⟨X1.heap.size, 0, none⟩ 1 1 [k, .int .i64 J.cnt, s, n, m] rfl
    (fun j u hu => by
      rw [add0, show (X1.alloc (.cells #[k, .int .i64 J.cnt, s, n, m] 33)).cell? ⟨X1.heap.size, j, none⟩ = #[k, .int .i64 J.cnt, s, n, m][j]? from cell_of_row _ _ _ _ 33 (0, 0) (heap_alloc_new X1 _)]
      simpa using hu) hone (by simp [maxLen]) (by omega) (by simp)
  obtain ⟨g', cp, e'⟩ := ownsRow_succ ho
  subst e'
  rw [Nat.zero_add, List.nil_append] at ho
  rw [Nat.zero_add] at hrun
  have g1 : Below X1.heap.size X1 (X1.alloc (.cells #[k, .int .i64 J.cnt, s, n, m] 33)) := (Below.refl _ _).alloc (Nat.le_refl _) _
  have g2 : Below X1.heap.size X1 X3 := g1.grown hg g1.size fun j e => by simp [Value.ownBlock] at e
  have g3 : Below W.heap.size W X3 := ((Below.drew (Below.refl _ W)).trans h1).trans (g2.mono hX1)
  have hxW : Boxed W Bx 31 (.slice none 0 0) := (h0.block Bx hx.lt).trans hx
  have hx3 : Boxed X3 Bx 31 (.slice none 0 0) := (g3.block Bx hxW.lt).trans hxW
  have hco : CO W.heap.size X3 k s n m J := hc.below g2
  have hlt : Bx < W.heap.size := hxW.lt
  have far : ∀ {B' : Nat} {v : Value} {xs : List Int}, B' = W.heap.size → OI B' X3 v xs → v.ownBlock ≠ some Bx := fun e h hh => by
    have := (h.1.lt Bx hh).1
    omega
  refine ⟨g', cp, X3, hrun, hx3, ⟨?_, fun q o hq ho2 _ => ?_⟩, ⟨fun h => (by cases h), fun _ => ⟨?_, _, k, s, n, m, hx3.set _, ?_, ?_⟩⟩⟩
  · have := g3.size
    simpa [World.setCell] using this
  · have hq1 : q < W.heap.size := by
      rcases Nat.lt_or_ge q W.heap.size with h | h
      · exact h
      · rw [Array.getElem?_eq_none h] at ho2; cases ho2
    exact (Below.heap_setCell _ _ _ _ (by have := hx.lt; show q ≠ Bx; omega)).trans ((g3.block q hq1).trans ho2)
  · exact (h0.mono hB).trans ((g3.mono (Nat.le_trans hB hW)).trans ((only_setCell Bx X3 0 _).below hBx (Nat.le_trans (Nat.le_trans hB hW) g3.size)))
  · exact own_mono (own_stay ho fun j hj => Below.heap_setCell _ _ _ _ (by have := (ho.lt j hj).1; show j ≠ Bx; omega)) (by omega)
  · exact (show CO W.heap.size _ k s n m J from ⟨hco.key.other _ (far rfl hco.key), hco.sum.other _ (far rfl hco.sum), hco.mn.other _ (far rfl hco.mn), hco.mx.other _ (far rfl hco.mx)⟩).mono hW
end Go.Proofs.YtbkcclmhgnplcaaDoor
