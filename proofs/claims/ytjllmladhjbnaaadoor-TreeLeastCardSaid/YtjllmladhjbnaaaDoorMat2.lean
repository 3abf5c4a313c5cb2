/- Package match's proper: may costs be? -/
import Derived.Test.YtjllmladhjbnaaaDoorMat1
namespace Go.Proofs.YtjllmladhjbnaaaDoor
open Go.RowKit Go.Shelf
attribute [local go_sem] Oper.semAt_some
def okC (c : Int) : Bool := decide (0 ≤ c) && decide (c ≤ 1000000)
theorem all_take_snoc {α : Type} {p : α → Bool} {l : List α} {k : Nat} {x : α} (h : l[k]? = some x) : (l.take (k + 1)).all p = ((l.take k).all p && p x) := by
  rw [List.take_add_one, h, List.all_append]
  simp
theorem all_at_false {α : Type} {p : α → Bool} {l : List α} {k : Nat} {x : α} (h : l[k]? = some x) (hp : p x = false) : l.all p = false := by
  rw [List.all_eq_false]
  exact ⟨x, List.mem_of_getElem? h, by simp [hp]⟩
def okRow (m : Nat) (r : List Int) : Bool := decide (r.length = m) && r.all okC
/-- Costs that may be. -/
def okM (M : List (List Int)) : Bool := decide (wid M ≤ 12) && (decide (M.length ≤ wid M) && M.all (okRow (wid M)))
end Go.Proofs.YtjllmladhjbnaaaDoor
