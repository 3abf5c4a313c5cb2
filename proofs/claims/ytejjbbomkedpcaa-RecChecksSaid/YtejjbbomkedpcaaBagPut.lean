/- A number is stored into one of the call's own slices of ints. -/
import Derived.Test.YtejjbbomkedpcaaBagI
namespace Go.Proofs.Ytejjbbomkedpcaa
open Go.RowKit
theorem bag_put {B N n c g i : Nat} {w0 w : World} {l : List Value} (h : BagI B N w0 w l) (hm : Value.slice (some ⟨g, 0, none⟩) n c ∈ l) (hi : i < n) (y : Int) (hy : inK .i64 y) :
    BagI B N w0 (w.setCell ⟨g, i, none⟩ (.int .i64 y)) l ∧ w.frozen? ⟨g, i, none⟩ = false ∧ ∃ u, w.cell? ⟨g, i, none⟩ = some u := by
  obtain ⟨g1, n1, cap, cur, fz, e0, h2, h3, h4, h5, h6, h7, h8, ys, h9, h10⟩ := h.all _ hm
  injection e0 with e1 e2 e3
  injection e1 with e1
  injection e1 with e1
  subst e1 e2 e3
  have hic : i < cur.size := by omega
  have hset : (w.setCell ⟨g, i, none⟩ (.int .i64 y)).heap[g]? = some (.cells (cur.setIfInBounds i (.int .i64 y)) 3 fz) := by
    simp [World.setCell, Array.getElem?_modify, h3]
  have hlen : ys.length = n := by
    have := congrArg List.length h10
    rw [List.length_take, ints_len, Array.length_toList, h6, Nat.min_eq_left h4] at this
    exact this.symm
  refine ⟨⟨below_setCell h.bel h2 i _, by simpa [World.setCell] using h.low, fun v hv => ?_, h.ap⟩, ?_, ?_⟩
  · obtain ⟨g', n', cap', cur', fz', rfl, k2, k3, k4, k5, k6, k7, k8, zs, k9, k10⟩ := h.all v hv
    by_cases e : g' = g
    · subst e
      rw [h3] at k3
      injection k3 with k3
      injection k3 with k3 _ k3'
      subst k3 k3'
      have hz : zs.length = n' := by
        have := congrArg List.length k10
        rw [List.length_take, ints_len, Array.length_toList, k6, Nat.min_eq_left k4] at this
        exact this.symm
      refine ⟨g', n', cap', _, fz, rfl, k2, hset, k4, k5, by simpa using k6, k7, k8, zs.set i y, fun x hx => ?_, ?_⟩
      · rcases List.mem_or_eq_of_mem_set hx with h0 | h0
        · exact k9 x h0
        · subst h0; exact hy
      · rw [Array.toList_setIfInBounds, List.take_set, k10]
        simp [ints, List.map_set]
    · exact ⟨g', n', cap', cur', fz', rfl, k2, (Below.heap_setCell _ _ _ _ e).trans k3, k4, k5, k6, k7, k8, zs, k9, k10⟩
  · have hfz : ¬ (fz.1 ≤ i ∧ i < fz.2) := by
      rcases h7 with h7 | ⟨h7, h7'⟩
      · subst h7; simp
      · omega
    simp only [World.frozen?, h3]
    simp only [Bool.and_eq_false_iff, decide_eq_false_iff_not]
    by_cases h0 : fz.1 ≤ i
    · exact .inr fun h1 => hfz ⟨h0, h1⟩
    · exact .inl h0
  · exact ⟨_, by rw [cell_of_row w g i cur 3 fz h3]; exact Array.getElem?_eq_getElem hic⟩
end Go.Proofs.Ytejjbbomkedpcaa
