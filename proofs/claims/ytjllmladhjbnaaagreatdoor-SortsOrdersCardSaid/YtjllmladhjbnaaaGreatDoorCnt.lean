/- Words of rows of numbers that are counted, for the laws of sets. -/
import Derived.Test.YtjllmladhjbnaaaGreatDoorL8
namespace Go.Proofs.YtjllmladhjbnaaaGreatDoor
open Go.RowKit Go.Shelf
theorem par_oi (k : Int) (d : Nat) (w : World) (h1 : 0 ≤ k) (h2 : k ≤ fullB d) (hd1 : 1 ≤ d) (hd : d ≤ 4) (hT : Tab w) (hw1 : 1 < w.heap.size) :
    Calls Tryz.prog 27 #[.int .i64 k, .int .i64 d] w fun e w' => ∃ v, e = .returned v ∧ OI w.heap.size w' v (parL k d) ∧ Below w.heap.size w w' :=
  (par_any k d w h1 h2 hd1 hd hT hw1).mono fun e w' ⟨v, he, ho, hb⟩ => by
    have hf := fullB_15 d hd
    exact ⟨v, he, ⟨ho, fun x hx => by have := parL_in k d h1 (by omega) x hx; exact ⟨by omega, by omega⟩⟩, hb⟩
theorem OI.set {B g i : Nat} {w : World} {v u : Value} {xs : List Int} (h : OI B w v xs) (hg : g < B) : OI B (w.setCell ⟨g, i, none⟩ u) v xs := ⟨own_only h.1 (only_setCell _ _ _ _) hg, h.2⟩
/-- How often each number stands in a row. -/
def cntL (L : List Int) (N : Nat) : List Int := (List.range N).map fun (v : Nat) => (L.count (v : Int) : Int)
theorem cntL_len (L : List Int) (N : Nat) : (cntL L N).length = N := by simp [cntL]
theorem cntL_at (L : List Int) {N v : Nat} (h : v < N) : (cntL L N)[v]? = some (L.count (v : Int) : Int) := by
  unfold cntL
  rw [List.getElem?_map, List.getElem?_range h]
  rfl
theorem cntL_snoc (L : List Int) (N v : Nat) : (cntL L N).set v ((L.count (v : Int) : Int) + 1) = cntL (L ++ [(v : Int)]) N := by
  apply List.ext_getElem
  · simp [cntL]
  · intro i h1 h2
    simp only [cntL, List.getElem_set, List.getElem_map, List.getElem_range, List.count_append, List.count_singleton]
    by_cases h : v = i
    · subst h; simp
    · have : ¬ ((v : Int) = (i : Int)) := by omega
      simp [h, this]
theorem cntL_nil (N : Nat) : cntL [] N = List.replicate N 0 := by
  apply List.ext_getElem
  · simp [cntL]
  · intro i h1 h2
    simp [cntL]
/-- The parents of all sets below one. -/
def seenL (d k : Nat) : List Int := (List.range k).flatMap fun (s : Nat) => parL (s : Int) d
theorem seenL_snoc (d k : Nat) : seenL d (k + 1) = seenL d k ++ parL (k : Int) d := by simp [seenL, List.range_succ]
theorem parL_le (k : Int) (d : Nat) : (parL k d).length ≤ 4 := by unfold parL; rw [List.length_map]; exact dimsL_le _
theorem seenL_le (d : Nat) : ∀ k, (seenL d k).length ≤ 4 * k
  | 0 => by simp [seenL]
  | k + 1 => by
    rw [seenL_snoc, List.length_append]
    have := parL_le (k : Int) d
    have := seenL_le d k
    omega
theorem take_at {l : List Int} {j : Nat} {x : Int} (h : l[j]? = some x) : l.take (j + 1) = l.take j ++ [x] := by rw [List.take_add_one, h]; rfl
theorem lvl_bd (s : Int) : 0 ≤ lvl s ∧ lvl s ≤ 4 := by have := dimsL_le s; unfold lvl; omega
theorem two_pow (d : Nat) : ((2 ^ d : Nat) : Int) = (2 : Int) ^ d := by push_cast; rfl
end Go.Proofs.YtjllmladhjbnaaaGreatDoor
