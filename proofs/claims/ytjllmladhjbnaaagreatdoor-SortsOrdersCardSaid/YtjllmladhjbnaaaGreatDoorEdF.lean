/- Edges of the call's own, to be read; the bounds of plans that are right. -/
import Derived.Test.YtjllmladhjbnaaaGreatDoorSoA
namespace Go.Proofs.YtjllmladhjbnaaaGreatDoor
open Go.RowKit Go.Shelf
theorem right_in {d : Nat} {es : List Ed} (h1 : 1 ≤ d) (h4 : d ≤ 4) (h : RightP d es) : ∀ e ∈ es, inK .i64 e.s ∧ inK .i64 e.p := by
  have hf := fullB_15 d h4
  intro e he
  have hs := sets_bd d h1 h4 _ (h.mem he)
  rw [h.cons] at he
  rcases List.mem_cons.1 he with rfl | he
  · exact ⟨⟨by omega, by omega⟩, by show inK .i64 (-1); constructor <;> omega⟩
  · have hp := sets_bd d h1 h4 _ (par_lvl d h1 h4 _ (h.mem (List.mem_of_mem_tail he)) _ (h.par e he)).2
    exact ⟨⟨by omega, by omega⟩, ⟨by omega, by omega⟩⟩
theorem OE.form2 {B : Nat} {w : World} {v : Value} {es : List Ed} (h : OE B w v es) (hk : ∀ e ∈ es, inK .i64 e.s ∧ inK .i64 e.p) : ∃ A c, v = .slice A es.length c ∧ Edgs w A es.length es ∧ es.length ≤ c := by
  obtain ⟨A, c, hv, hE⟩ := h.form hk
  obtain ⟨P, c', hv', h1, -, -⟩ := own_form h
  rw [hv] at hv'
  injection hv' with _ _ e3
  exact ⟨A, c, hv, hE, by rw [e3]; exact h1⟩
end Go.Proofs.YtjllmladhjbnaaaGreatDoor
