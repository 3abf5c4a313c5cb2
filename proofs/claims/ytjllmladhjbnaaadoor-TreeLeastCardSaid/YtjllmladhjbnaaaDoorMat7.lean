/- Package match's Assign. -/
import Derived.Test.YtjllmladhjbnaaaDoorMat6
namespace Go.Proofs.YtjllmladhjbnaaaDoor
open Go.RowKit Go.Shelf
attribute [local go_sem] Oper.semAt_some
/-- Who goes with whom; at which total. -/
def toL (M : List (List Int)) : List Int := if okM M then (fst1 M 0).map fun (k : Nat) => (k : Int) else []
def totL (M : List (List Int)) : Int := if okM M then restR M 0 else 0
theorem restV_zero (M : List (List Int)) : restV M 0 = restR M 0 := by
  have h : pcN 0 = 0 := by decide +kernel
  unfold restV
  rw [h, List.drop_zero]
end Go.Proofs.YtjllmladhjbnaaaDoor
