/- One field of one edge of a row of the call's own is written. -/
import Derived.Test.YtbmdiiifhccebaaDoorSoA
namespace Go.Proofs.YtbmdiiifhccebaaDoor
open Go.RowKit Go.Shelf
theorem eCs_put : ∀ (es : List Ed) (j r : Nat) (e e' : Ed) (v : Value), r < 3 → es[j]? = some e → (eC e).set r v = eC e' → (eCs es).set (j * 3 + r) v = eCs (es.set j e')
  | [], _, _, _, _, _, _, h, _ => by simp at h
  | a :: t, 0, r, e, e', v, hr, h, hv => by
    simp at h
    subst h
    have hl : (eC a).length = 3 := rfl
    simp only [eCs, List.flatMap_cons, List.set_cons_zero, Nat.zero_mul, Nat.zero_add]
    rw [List.set_append_left _ _ (by omega), hv]
  | a :: t, j + 1, r, e, e', v, hr, h, hv => by
    have ih := eCs_put t j r e e' v hr (by simpa using h) hv
    have hl : (eC a).length = 3 := rfl
    simp only [eCs, List.flatMap_cons, List.set_cons_succ] at ih ⊢
    rw [List.set_append_right _ _ (by omega), hl, show (j + 1) * 3 + r - 3 = j * 3 + r by omega, ih]
theorem OE.put {B g n c j r : Nat} {w : World} {es : List Ed} {e e' : Ed} {v : Value} (h : OE B w (.slice (some ⟨g, 0, none⟩) n c) es) (hr : r < 3) (he : es[j]? = some e) (hv : (eC e).set r v = eC e') :
    OE B (w.setCell ⟨g, j * 3 + r, none⟩ v) (.slice (some ⟨g, 0, none⟩) n c) (es.set j e') := by
  have hn : n = es.length := by
    obtain ⟨P, c', e, _⟩ := own_form h
    injection e
  subst hn
  unfold OE at h ⊢
  rw [← eCs_put es j r e e' v hr he hv, List.length_set]
  refine ⟨by rw [List.length_set]; exact h.1, ?_⟩
  rcases h.2 with ⟨e0, _⟩ | ⟨g', cap', cur, e0, hg, hh, a1, a2, a3, a4⟩
  · cases e0
  · injection e0 with e1 e2 e3
    injection e1 with e1
    injection e1 with e1
    subst e1 e3
    refine .inr ⟨g, c, cur.setIfInBounds (j * 3 + r) v, rfl, hg, ?_, a1, a2, by simpa using a3, ?_⟩
    · simp [World.setCell, Array.getElem?_modify, hh]
    · rw [Array.toList_setIfInBounds, List.take_set, a4]
/-- Its block. -/
theorem OE.at_ {B : Nat} {w : World} {v : Value} {es : List Ed} (h : OE B w v es) (hn : 0 < es.length) :
    ∃ g c, v = .slice (some ⟨g, 0, none⟩) es.length c ∧ es.length ≤ c ∧ B ≤ g ∧ g < w.heap.size ∧ (∀ (j : Nat) e, es[j]? = some e → w.cell? ⟨g, j * 3, none⟩ = some (.int .i64 e.s) ∧ w.cell? ⟨g, j * 3 + 1, none⟩ = some (.int .i64 e.p) ∧ w.cell? ⟨g, j * 3 + 2, none⟩ = some (.bool e.sc)) ∧ ∀ i, w.frozen? ⟨g, i, none⟩ = false := by
  obtain ⟨P, c, hv, h1, h2, h3⟩ := own_form h
  obtain ⟨g, e1, hg, hc⟩ := h3 hn
  subst e1
  refine ⟨g, c, hv, h1, hg, (h.lt g (by rw [hv]; rfl)).2, fun j e he => ?_, fun i => ?_⟩
  · have a := eCs_at es j 0 e (by omega) he
    have b := eCs_at es j 1 e (by omega) he
    have d := eCs_at es j 2 e (by omega) he
    exact ⟨hc _ _ (by simpa [eC] using a), hc _ _ (by simpa [eC] using b), hc _ _ (by simpa [eC] using d)⟩
  · rcases h.2 with ⟨e0, _⟩ | ⟨g', cap', cur, e0, hg, hh, a1, a2, a3, a4⟩
    · rw [hv] at e0; cases e0
    · rw [hv] at e0
      injection e0 with e1 e2 e3
      injection e1 with e1
      injection e1 with e1
      subst e1
      simp [World.frozen?, hh]
end Go.Proofs.YtbmdiiifhccebaaDoor
