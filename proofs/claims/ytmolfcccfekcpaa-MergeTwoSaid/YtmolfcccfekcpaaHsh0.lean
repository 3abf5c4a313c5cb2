/- Package hash: keys within bounds, their places, whether two are alike. -/
import Derived.IntWalk
import Derived.Test.YtmolfcccfekcpaaCel3
import Derived.Test.YtmolfcccfekcpaaHshH
namespace Go.Proofs.Ytmolfcccfekcpaa
open Go.RowKit
attribute [local go_sem] Oper.semAt_some
def okK (key : List Int) : Bool := key.all fun v => decide (0 ≤ v ∧ v ≤ 15)
end Go.Proofs.Ytmolfcccfekcpaa
