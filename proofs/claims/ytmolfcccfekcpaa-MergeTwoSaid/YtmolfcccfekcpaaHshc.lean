/- Package hash: the position at which a part's keys differ. -/
import Derived.IntWalk
import Derived.Test.YtmolfcccfekcpaaHsh0
import Derived.Test.YtmolfcccfekcpaaHshR
namespace Go.Proofs.Ytmolfcccfekcpaa
open Go.RowKit
attribute [local go_sem] Oper.semAt_some
def alikeB (L : List Cel) (a : Nat) : Bool := L.all fun c => valK c a == valK (L[0]?.getD ⟨[], 0, [], [], []⟩) a
theorem alikeB_iff {L : List Cel} {a : Nat} : alikeB L a = true ↔ ∀ c ∈ L, ∀ c' ∈ L, valK c a = valK c' a := by
  unfold alikeB
  rw [List.all_eq_true]
  constructor
  · intro h c hc c' hc'
    have h1 := h c hc
    have h2 := h c' hc'
    rw [beq_iff_eq] at h1 h2
    rw [h1, h2]
  · intro h c hc
    match L, hc with
    | x :: t, hc =>
      rw [beq_iff_eq]
      exact h c hc x (by simp)
/-- Where cells do not fit into so many slots there is a first position at which they differ. -/
theorem parting_is {slots d : Nat} (hs : 1 ≤ slots) {l : List Cel} (hn : ¬ (grpR l).length ≤ slots) : ∀ (f a : Nat), a + f = d → Fit d a l → ∃ q f', q + (f' + 1) = d ∧ a ≤ q ∧ (∀ p, a ≤ p → p < q → alikeB l p = true) ∧ alikeB l q = false ∧ Fit d q l ∧ partsP slots f a l = partsP slots (f' + 1) q l
  | 0, a, hd, h => by
    have := fit_lt hs (by omega) h hn
    omega
  | f + 1, a, hd, h => by
    cases hb : alikeB l a with
    | false => exact ⟨a, f, hd, Nat.le_refl _, fun p h1 h2 => by omega, hb, h, rfl⟩
    | true =>
      have hal := alikeB_iff.1 hb
      obtain ⟨q, f', h1, h2, h3, h4, h5, h6⟩ := parting_is hs hn f (a + 1) (by omega) (h.next (by omega) hal)
      refine ⟨q, f', h1, by omega, fun p p1 p2 => ?_, h4, h5, ?_⟩
      · by_cases e : p = a
        · rw [e]; exact hb
        · exact h3 p (by omega) p2
      · rw [parts_skip hd h hal hn, h6]
theorem alike_not {L : List Cel} {a i : Nat} {x y : Cel} (hx : L[i]? = some x) (hy : L[0]? = some y) (hne : valK x a ≠ valK y a) : alikeB L a = false := by
  cases h : alikeB L a with
  | false => rfl
  | true => exact absurd (alikeB_iff.1 h x (List.mem_of_getElem? hx) y (List.mem_of_getElem? hy)) hne
end Go.Proofs.Ytmolfcccfekcpaa
