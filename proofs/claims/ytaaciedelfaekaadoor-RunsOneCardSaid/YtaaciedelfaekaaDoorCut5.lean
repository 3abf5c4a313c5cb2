/- Package runs, as mathematics: pieces of so many, but the last one, are a row cut. -/
import Derived.Test.YtaaciedelfaekaaDoorOk5
namespace Go.Proofs.YtaaciedelfaekaaDoor
open Go.RowKit
theorem chunk {α : Type} {K : Nat} (hK : 1 ≤ K) : ∀ (Js : List (List α)) (g : List α), Js.flatten = g → (∀ J ∈ Js, 1 ≤ J.length ∧ J.length ≤ K) → (∀ (i : Nat) J, Js[i]? = some J → i + 1 < Js.length → J.length = K) →
    Js.length = (g.length + K - 1) / K ∧ ∀ (i : Nat) J, Js[i]? = some J → J = (g.drop (i * K)).take K ∧ i * K < g.length
  | [], g, hf, _, _ => by
    have : g = [] := by rw [← hf]; rfl
    subst this
    refine ⟨?_, fun i J h => by simp at h⟩
    rw [Nat.div_eq_of_lt (by simp; omega)]
    rfl
  | [J], g, hf, he, _ => by
    have : g = J := by rw [← hf]; simp
    subst this
    obtain ⟨h1, h2⟩ := he g (by simp)
    refine ⟨?_, fun i J h => ?_⟩
    · rw [show g.length + K - 1 = (g.length - 1) + K from by omega, Nat.add_div_right _ (by omega), Nat.div_eq_of_lt (by omega)]
      rfl
    · match i, h with
      | 0, h =>
        simp only [List.getElem?_cons_zero, Option.some.injEq] at h
        subst h
        rw [Nat.zero_mul, List.drop_zero, List.take_of_length_le h2]
        exact ⟨rfl, h1⟩
      | i + 1, h => simp at h
  | J :: J' :: r, g, hf, he, hu => by
    have hJ : J.length = K := hu 0 J rfl (by simp)
    obtain ⟨h1, h2⟩ := chunk hK (J' :: r) (J' :: r).flatten rfl (fun X hX => he X (by simp [List.mem_cons.1 hX])) (fun i X hX hi => hu (i + 1) X (by simpa using hX) (by simp at hi ⊢; omega))
    have hg : g = J ++ (J' :: r).flatten := by rw [← hf, List.flatten_cons]
    refine ⟨?_, fun i X hX => ?_⟩
    · rw [List.length_cons, h1, hg, List.length_append, hJ, show K + (J' :: r).flatten.length + K - 1 = ((J' :: r).flatten.length + K - 1) + K from by omega, Nat.add_div_right _ (by omega)]
    · match i, hX with
      | 0, hX =>
        simp only [List.getElem?_cons_zero, Option.some.injEq] at hX
        subst hX
        rw [Nat.zero_mul, List.drop_zero, hg, List.length_append]
        refine ⟨?_, by omega⟩
        rw [← hJ, List.take_left]
      | i + 1, hX =>
        obtain ⟨h3, h4⟩ := h2 i X (by simpa using hX)
        rw [hg, List.length_append]
        refine ⟨?_, by rw [Nat.succ_mul]; omega⟩
        rw [Nat.succ_mul, ← hJ, List.drop_append, List.drop_eq_nil_iff.2 (by rw [hJ]; exact Nat.le_add_left _ _), List.nil_append, show i * J.length + J.length - J.length = i * J.length from by omega, hJ]
        exact h3
theorem runs_chunk {K : Nat} (hK : 1 ≤ K) {g : List Cel} (hg : RiseC g) : (runsP K [] g).length = (g.length + K - 1) / K ∧ ∀ (i : Nat) J, (runsP K [] g)[i]? = some J → J = (g.drop (i * K)).take K ∧ i * K < g.length :=
  chunk hK _ g (by rw [runs_cut hK g [] (by simpa using hg) (by simp)]; rfl) (fun J hJ => (runs_each hK g [] (by simp [RiseC]) (by simp) J hJ).2) (fun i J hJ hi => runs_full hK g [] i J hJ hi)
end Go.Proofs.YtaaciedelfaekaaDoor
