/- Parents as a list of the call's own. -/
import Derived.Test.YtjllmladhjbnaaaGreatDoorSetsN
namespace Go.Proofs.YtjllmladhjbnaaaGreatDoor
open Go.RowKit Go.Shelf
theorem parL_in (k : Int) (d : Nat) (h1 : 0 ≤ k) (h2 : k ≤ 15) : ∀ x ∈ parL k d, 0 ≤ x ∧ x ≤ 15 := by
  intro x hx
  unfold parL at hx
  simp only [List.mem_map] at hx
  obtain ⟨y, hy, rfl⟩ := hx
  exact withI_in k y h1 h2 (dimsL_in _ y hy)
/-- Parents: a row of numbers, to be read. -/
theorem par_nums (k : Int) (d : Nat) (w : World) (h1 : 0 ≤ k) (h2 : k ≤ fullB d) (hd1 : 1 ≤ d) (hd : d ≤ 4) (hT : Tab w) (hw1 : 1 < w.heap.size) :
    Calls Tryz.prog 27 #[.int .i64 k, .int .i64 d] w fun e w' => ∃ P c, e = .returned (.slice P (parL k d).length c) ∧ Nums .i64 w' P (parL k d).length (parL k d) ∧ (0 < (parL k d).length → ∃ g, P = some ⟨g, 0, none⟩) ∧ Below w.heap.size w w' :=
  (par_any k d w h1 h2 hd1 hd hT hw1).mono fun e w' ⟨v, he, ho, hb⟩ => by
    have hf := fullB_15 d hd
    have hO : OI w.heap.size w' v (parL k d) := ⟨ho, fun x hx => by have := parL_in k d h1 (by omega) x hx; exact ⟨by omega, by omega⟩⟩
    obtain ⟨P, c, hv, -, -, hn, -⟩ := hO.form
    obtain ⟨P', c', hv', -, -, h3⟩ := own_form ho
    rw [hv] at hv'
    injection hv' with e1 _ _
    exact ⟨P, c, by rw [he, hv], hn, fun h => by obtain ⟨g, e, _⟩ := h3 h; exact ⟨g, e1.trans e⟩, hb⟩
end Go.Proofs.YtjllmladhjbnaaaGreatDoor
