/- The laws' Costs. -/
import Derived.Test.YtnjalnnbdmmcmaaMatM
namespace Go.Proofs.Ytnjalnnbdmmcmaa
open Go.RowKit Go.Shelf
attribute [local go_sem] Oper.semAt_some
/-- Which number stands in row i, column k. -/
def entC (zs : List Int) (sp : Int) (m i k : Nat) : Int := ((zs[i * m + k]?).getD ((i * 3 + k : Nat) : Int)) % (1 + sp % 50)
def rowC (zs : List Int) (sp : Int) (m i k : Nat) : List Int := (List.range k).map (entC zs sp m i)
def matC (zs : List Int) (sp : Int) (m n : Nat) : List (List Int) := (List.range n).map fun i => rowC zs sp m i m
theorem rowC_len (zs : List Int) (sp : Int) (m i k : Nat) : (rowC zs sp m i k).length = k := by simp [rowC]
theorem matC_len (zs : List Int) (sp : Int) (m n : Nat) : (matC zs sp m n).length = n := by simp [matC]
theorem rowC_succ (zs : List Int) (sp : Int) (m i k : Nat) : rowC zs sp m i (k + 1) = rowC zs sp m i k ++ [entC zs sp m i k] := by simp [rowC, List.range_succ]
theorem matC_succ (zs : List Int) (sp : Int) (m n : Nat) : matC zs sp m (n + 1) = matC zs sp m n ++ [rowC zs sp m n m] := by simp [matC, List.range_succ]
theorem entC_in (zs : List Int) (sp : Int) (m i k : Nat) : 0 ≤ entC zs sp m i k ∧ entC zs sp m i k ≤ 49 := by
  unfold entC
  have h1 := Int.emod_nonneg sp (show (50 : Int) ≠ 0 by omega)
  have h2 := Int.emod_lt_of_pos sp (show (0 : Int) < 50 by omega)
  have h3 := Int.emod_nonneg ((zs[i * m + k]?).getD ((i * 3 + k : Nat) : Int)) (show 1 + sp % 50 ≠ 0 by omega)
  have h4 := Int.emod_lt_of_pos ((zs[i * m + k]?).getD ((i * 3 + k : Nat) : Int)) (show 0 < 1 + sp % 50 by omega)
  omega
theorem matC_row {zs : List Int} {sp : Int} {m n : Nat} : ∀ r ∈ matC zs sp m n, r.length = m ∧ ∀ x ∈ r, 0 ≤ x ∧ x ≤ 49 := by
  intro r hr
  unfold matC at hr
  obtain ⟨i, -, rfl⟩ := List.mem_map.1 hr
  refine ⟨rowC_len _ _ _ _ _, fun x hx => ?_⟩
  unfold rowC at hx
  obtain ⟨k, -, rfl⟩ := List.mem_map.1 hx
  exact entC_in _ _ _ _ _
theorem matC_ok {zs : List Int} {sp : Int} {m n : Nat} (hm : m ≤ 12) (hn : n ≤ m) : okM (matC zs sp m n) = true :=
  okM_of hm (by rw [matC_len]; exact hn) (fun r hr => ⟨(matC_row r hr).1, fun x hx => by have := (matC_row r hr).2 x hx; omega⟩)
end Go.Proofs.Ytnjalnnbdmmcmaa
