/- Bytes appended to a row of the call's own; the reference's Eight: eight bytes of a number, the highest first. -/
import Derived.Test.YtmolfcccfekcpaaFactsLaw2
namespace Go.Proofs.Ytmolfcccfekcpaa
open Go.RowKit
def bytesV (xs : List Int) : List Value := xs.map (Value.int .u8)
theorem bytesV_len (xs : List Int) : (bytesV xs).length = xs.length := by simp [bytesV]
end Go.Proofs.Ytmolfcccfekcpaa
