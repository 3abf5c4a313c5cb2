/- The orders in which one statement's operations may come. -/
import Derived.Test.YtnabmbnfmnpcoaaBag
import Derived.Deep.RegionHeld
namespace Go.Proofs.Ytnabmbnfmnpcoaa
open Go.RowKit
/-- Which operations are done: c of the chain, d of the constant's, e, f. -/
def lst (c d e f : Nat) : Array Bool :=
  #[true, true, true, true, decide (1 ≤ c), true, true, true, decide (2 ≤ c), true, decide (3 ≤ c), true, true, true, decide (4 ≤ c), true, decide (1 ≤ d), decide (2 ≤ d), true, decide (5 ≤ c), decide (1 ≤ e), true, decide (6 ≤ c), decide (1 ≤ f), decide (7 ≤ c), false, false]
def okSt (c d e f : Nat) : Bool := decide (c ≤ 7) && decide (d ≤ 2) && decide (e ≤ 1) && decide (f ≤ 1) && (decide (c < 5) || decide (d = 2)) && (decide (c < 6) || decide (e = 1)) && (decide (c < 7) || decide (f = 1))
/-- Which operation may come, and what is done behind it. -/
def nxt (c d e f i : Nat) : Option (Nat × Nat × Nat × Nat) :=
  if i = 4 ∧ c = 0 then some (1, d, e, f) else if i = 8 ∧ c = 1 then some (2, d, e, f) else if i = 10 ∧ c = 2 then some (3, d, e, f) else if i = 14 ∧ c = 3 then some (4, d, e, f)
  else if i = 16 ∧ d = 0 then some (c, 1, e, f) else if i = 17 ∧ d = 1 then some (c, 2, e, f) else if i = 19 ∧ c = 4 ∧ d = 2 then some (5, d, e, f) else if i = 20 ∧ e = 0 then some (c, d, 1, f)
  else if i = 22 ∧ c = 5 ∧ e = 1 then some (6, d, e, f) else if i = 23 ∧ f = 0 then some (c, d, e, 1) else if i = 24 ∧ c = 6 ∧ f = 1 then some (7, d, e, f) else none
/-- The statement's operations come in an order that this lets. -/
def rdyB (ops : Array Oper) : Bool :=
  (List.range 8).all fun c => (List.range 3).all fun d => (List.range 2).all fun e => (List.range 2).all fun f => !okSt c d e f || decide (c + d + e + f = 11) ||
    (!(Region.ready .any ops (lst c d e f)).isEmpty && (Region.ready .any ops (lst c d e f)).all fun i => (nxt c d e f i).isSome)
theorem lst_nxt : ∀ c, c < 8 → ∀ d, d < 3 → ∀ e, e < 2 → ∀ f, f < 2 → okSt c d e f = true → ∀ i, i < 27 → ∀ s, nxt c d e f i = some s → (lst c d e f).setIfInBounds i true = lst s.1 s.2.1 s.2.2.1 s.2.2.2 ∧ okSt s.1 s.2.1 s.2.2.1 s.2.2.2 = true ∧ s.1 + s.2.1 + s.2.2.1 + s.2.2.2 = c + d + e + f + 1 := by
  have h : ((List.range 8).all fun c => (List.range 3).all fun d => (List.range 2).all fun e => (List.range 2).all fun f => !okSt c d e f || (List.range 27).all fun i => match nxt c d e f i with
      | none => true
      | some s => decide ((lst c d e f).setIfInBounds i true = lst s.1 s.2.1 s.2.2.1 s.2.2.2) && okSt s.1 s.2.1 s.2.2.1 s.2.2.2 && decide (s.1 + s.2.1 + s.2.2.1 + s.2.2.2 = c + d + e + f + 1)) = true := by decide +kernel
  intro c hc d hd e he f hf hok i hi s hs
  simp only [List.all_eq_true, List.mem_range] at h
  have h1 := h c hc d hd e he f hf
  rw [hok] at h1
  simp only [Bool.not_true, Bool.false_or, List.all_eq_true, List.mem_range] at h1
  have h2 := h1 i hi
  rw [hs] at h2
  simp only [Bool.and_eq_true, decide_eq_true_eq] at h2
  exact ⟨h2.1.1, h2.1.2, h2.2⟩
end Go.Proofs.Ytnabmbnfmnpcoaa
