/- Package hash: keys within bounds, their places, whether two are alike. -/
import Derived.IntWalk
import Derived.Test.YtaaciedelfaekaaDoorCel3
import Derived.Test.YtaaciedelfaekaaDoorHshH
namespace Go.Proofs.YtaaciedelfaekaaDoor
open Go.RowKit
attribute [local go_sem] Oper.semAt_some
def okK (key : List Int) : Bool := key.all fun v => decide (0 ≤ v ∧ v ≤ 15)
end Go.Proofs.YtaaciedelfaekaaDoor
