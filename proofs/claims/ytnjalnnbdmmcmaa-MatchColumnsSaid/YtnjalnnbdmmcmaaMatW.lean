/- A slice of the call's own is written. -/
import Derived.Test.YtnjalnnbdmmcmaaMatO
namespace Go.Proofs.Ytnjalnnbdmmcmaa
open Go.RowKit Go.Shelf
theorem OI.put {B g n c i : Nat} {w : World} {xs : List Int} (h : OI B w (.slice (some ⟨g, 0, none⟩) n c) xs) (y : Int) (hy : inK .i64 y) : OI B (w.setCell ⟨g, i, none⟩ (.int .i64 y)) (.slice (some ⟨g, 0, none⟩) n c) (xs.set i y) := by
  obtain ⟨h1, h2⟩ := h
  have hn : n = xs.length := by
    obtain ⟨P, c', e, _⟩ := own_form h1
    injection e
  subst hn
  refine ⟨?_, fun x hx => ?_⟩
  · have e : ints (xs.set i y) = (ints xs).set i (.int .i64 y) := by simp [ints, List.map_set]
    rw [e, List.length_set]
    refine ⟨by rw [List.length_set]; exact h1.1, ?_⟩
    rcases h1.2 with ⟨e0, _⟩ | ⟨g', cap', cur, e0, hg, hh, a1, a2, a3, a4⟩
    · cases e0
    · injection e0 with e1 e2 e3
      injection e1 with e1
      injection e1 with e1
      subst e1 e3
      refine .inr ⟨g, c, cur.setIfInBounds i (.int .i64 y), rfl, hg, ?_, a1, a2, by simpa using a3, ?_⟩
      · simp [World.setCell, Array.getElem?_modify, hh]
      · rw [Array.toList_setIfInBounds, List.take_set, a4]
  · rcases List.mem_or_eq_of_mem_set hx with h0 | h0
    · exact h2 x h0
    · subst h0; exact hy
/-- One of its numbers: where it lies, that it may be written. -/
theorem OI.cell {B : Nat} {w : World} {v : Value} {xs : List Int} (h : OI B w v xs) {i : Nat} {x : Int} (hx : xs[i]? = some x) :
    ∃ g c, v = .slice (some ⟨g, 0, none⟩) xs.length c ∧ B ≤ g ∧ g < w.heap.size ∧ w.cell? ⟨g, i, none⟩ = some (.int .i64 x) ∧ w.frozen? ⟨g, i, none⟩ = false := by
  have hl := (List.getElem?_eq_some_iff.1 hx).1
  rcases h.1.2 with ⟨_, e0⟩ | ⟨g, cap, cur, rfl, hg, hh, a1, a2, a3, a4⟩
  · omega
  · obtain ⟨P, c, e1, -, -, hn, -⟩ := h.form
    injection e1 with e1 _ e3
    subst e1 e3
    obtain ⟨ad, e2, hc⟩ := hn.2.2 (by omega)
    injection e2 with e2
    subst e2
    have hcc := hc i x hx
    rw [add0] at hcc
    exact ⟨g, cap, rfl, hg, h.1.lt g rfl |>.2, hcc, by simp [World.frozen?, hh]⟩
end Go.Proofs.Ytnjalnnbdmmcmaa
