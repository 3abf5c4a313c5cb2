/- Plans by hashing, as mathematics: each set's parent of the least size; they are right. -/
import Derived.Test.YtjllmladhjbnaaaDoorSrtA
namespace Go.Proofs.YtjllmladhjbnaaaDoor
open Go.RowKit
/-- The first of the least, -1 of none. -/
def leastP (f : Int → Int) (l : List Int) : Int := if l = [] then -1 else cheapL f l
theorem leastP_snoc (f : Int → Int) (l : List Int) (x : Int) : leastP f (l ++ [x]) = if l = [] ∨ f x < f (leastP f l) then x else leastP f l := by
  unfold leastP
  rw [if_neg (by simp)]
  by_cases h : l = []
  · subst h; simp [cheapL]
  · rw [cheapL_snoc f l x h, if_neg h]
    simp [h]
/-- How a set is made by hashing. -/
def treeE (cs : List Int) (n s : Int) : Ed := ⟨s, leastP (sizeB cs n) (parL s cs.length), false⟩
def treeM (cs : List Int) (n : Int) : List Ed := (setsL cs.length).map (treeE cs n)
theorem tree_len (cs : List Int) (n : Int) : (treeM cs n).length = (setsL cs.length).length := by simp [treeM]
theorem tree_mem {cs : List Int} {n : Int} {e : Ed} (h : e ∈ treeM cs n) : e.s ∈ setsL cs.length ∧ e = treeE cs n e.s := by
  obtain ⟨s, hs, rfl⟩ := List.mem_map.1 h
  exact ⟨hs, rfl⟩
theorem tree_right {cs : List Int} (n : Int) (h1 : 1 ≤ cs.length) (h4 : cs.length ≤ 4) : RightP cs.length (treeM cs n) := by
  obtain ⟨hp, ht⟩ := sets_par cs.length h1 h4
  refine ⟨?_, ?_, fun e he => ?_, ?_⟩
  · unfold treeM
    rw [List.map_map]
    exact List.map_id _
  · unfold treeM
    rw [List.head?_map, show (setsL cs.length).head? = some (fullB cs.length) by rw [List.head?_eq_getElem?]; exact sets_head _ h1 h4]
    simp only [Option.map_some, treeE, hp, topE, leastP, if_true]
  · unfold treeM at he
    rw [← List.map_tail] at he
    obtain ⟨s, hs, rfl⟩ := List.mem_map.1 he
    have hne := ht s hs
    show leastP (sizeB cs n) (parL s cs.length) ∈ parL s cs.length
    unfold leastP
    rw [if_neg hne]
    exact (cheapL_spec _ _ hne).1
  · refine List.pairwise_iff_getElem.2 fun i j hi hj _ h => ?_
    have := (tree_mem (List.getElem_mem hi)).2
    rw [this] at h
    cases h
theorem tree_least {cs : List Int} {n : Int} {e : Ed} (h : e ∈ treeM cs n) (hp : parL e.s cs.length ≠ []) : e.p ∈ parL e.s cs.length ∧ ∀ x ∈ parL e.s cs.length, sizeB cs n e.p ≤ sizeB cs n x := by
  obtain ⟨-, he⟩ := tree_mem h
  have e1 : e.p = cheapL (sizeB cs n) (parL e.s cs.length) := by rw [he]; show leastP _ _ = _; unfold leastP; rw [if_neg hp]; rw [he]; rfl
  rw [e1]
  exact cheapL_spec _ _ hp
theorem tree_none {cs : List Int} {n : Int} {e : Ed} (h : e ∈ treeM cs n) (hp : parL e.s cs.length = []) : e.p = -1 := by
  obtain ⟨-, he⟩ := tree_mem h
  rw [he]; show leastP _ _ = _; unfold leastP; rw [if_pos hp]
theorem tree_sc {cs : List Int} {n : Int} {e : Ed} (h : e ∈ treeM cs n) : e.sc = false := by
  obtain ⟨-, he⟩ := tree_mem h
  rw [he]; rfl
end Go.Proofs.YtjllmladhjbnaaaDoor
