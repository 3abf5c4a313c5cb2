/-
  NARROWER THAN 'FOR EVERY INPUT', by the rows' own cells (each row's printed sentence says how): LatticeAll: laid · LatticeSets: laid · LatticeSizes: laid · LatticeTrue: laid · LatticeKnown: laid · LatticeLevels: laid · LatticeUp: laid · LatticeCosts: laid · LatticeNone: laid.
  DERIVED. THE GIVEN ROWS OF THIS SEAT. 9 by the template 'for every input the law returns true; each argument reads behind the call as it read before'; 0 by the template 'total and deterministic' (their statements: YtaopanclnaimpaaDoorTotals.lean).
  GIVEN WITH THE SEED: the statements are not yours to turn. If you find one false, say at which input.
  Laid BY PROGRAM, IN A SANDBOX (cutbox-rows.mjs): the forced cells as the released guide's own fill.sh prints them over the translation 825f0c09aca87ffb… (all of the seat's roots in one cut). By AI agents, Wed Nov 11 2026. No macro, syntax, notation, axiom, sorry.
-/
import Derived.Test.YtaopanclnaimpaaDoorChecked
import GoSem.Claim
import GoSem.ClaimJoined
import GoSem.ClaimMapViews
import Derived.JoinedTies
import Derived.KernelRfl
namespace Go.Proofs.YtaopanclnaimpaaDoor
/- THE CELL 'sum', in the pinned program and in every row, IS THE sha256 OF THE DUMP (.gsa) THAT YtaopanclnaimpaaDoorProg.lean LOADS. Nothing in Lean hashes anything: it is a label: what it is worth is what the hold of that sum in a sandbox is worth. -/
noncomputable def Tryd.pinned : Pinned := { name := "ytaopanclnaimpaadoor", sum := "825f0c09aca87ffb58210570789237719f0403b4dd808401ef79708bc2799961", checked := Tryd.checked }
namespace Rows
def none {H : Type} : Left H := { results := [], args := [] }

/- WHAT THE LISTED PACKAGE-LEVEL VARIABLES READ AS WHEN THE CALL BEGINS. Each datum BY PROGRAM (the guide's laid-datum.mjs) off the statement by which the dump's own 'gosem.cut.vars' lays the variable. In a bare row this is a premise. The card (YtaopanclnaimpaaDoorCards.lean) ties it to the program's text. -/
def laid_math_bits_deBruijn32tab {H : Type} : DataW H := .agg [.lit (.int .u8 0), .lit (.int .u8 1), .lit (.int .u8 28), .lit (.int .u8 2), .lit (.int .u8 29), .lit (.int .u8 14), .lit (.int .u8 24), .lit (.int .u8 3), .lit (.int .u8 30), .lit (.int .u8 22), .lit (.int .u8 20), .lit (.int .u8 15), .lit (.int .u8 25), .lit (.int .u8 17), .lit (.int .u8 4), .lit (.int .u8 8), .lit (.int .u8 31), .lit (.int .u8 27), .lit (.int .u8 13), .lit (.int .u8 23), .lit (.int .u8 21), .lit (.int .u8 19), .lit (.int .u8 16), .lit (.int .u8 7), .lit (.int .u8 26), .lit (.int .u8 12), .lit (.int .u8 18), .lit (.int .u8 6), .lit (.int .u8 11), .lit (.int .u8 5), .lit (.int .u8 10), .lit (.int .u8 9)]
def laid_math_bits_deBruijn64tab {H : Type} : DataW H := .agg [.lit (.int .u8 0), .lit (.int .u8 1), .lit (.int .u8 56), .lit (.int .u8 2), .lit (.int .u8 57), .lit (.int .u8 49), .lit (.int .u8 28), .lit (.int .u8 3), .lit (.int .u8 61), .lit (.int .u8 58), .lit (.int .u8 42), .lit (.int .u8 50), .lit (.int .u8 38), .lit (.int .u8 29), .lit (.int .u8 17), .lit (.int .u8 4), .lit (.int .u8 62), .lit (.int .u8 47), .lit (.int .u8 59), .lit (.int .u8 36), .lit (.int .u8 45), .lit (.int .u8 43), .lit (.int .u8 51), .lit (.int .u8 22), .lit (.int .u8 53), .lit (.int .u8 39), .lit (.int .u8 33), .lit (.int .u8 30), .lit (.int .u8 24), .lit (.int .u8 18), .lit (.int .u8 12), .lit (.int .u8 5), .lit (.int .u8 63), .lit (.int .u8 55), .lit (.int .u8 48), .lit (.int .u8 27), .lit (.int .u8 60), .lit (.int .u8 41), .lit (.int .u8 37), .lit (.int .u8 16), .lit (.int .u8 46), .lit (.int .u8 35), .lit (.int .u8 44), .lit (.int .u8 21), .lit (.int .u8 52), .lit (.int .u8 32), .lit (.int .u8 23), .lit (.int .u8 11), .lit (.int .u8 54), .lit (.int .u8 26), .lit (.int .u8 40), .lit (.int .u8 15), .lit (.int .u8 34), .lit (.int .u8 20), .lit (.int .u8 31), .lit (.int .u8 10), .lit (.int .u8 25), .lit (.int .u8 14), .lit (.int .u8 19), .lit (.int .u8 9), .lit (.int .u8 13), .lit (.int .u8 8), .lit (.int .u8 7), .lit (.int .u8 6)]

/-- 'hypercubelaw8.LatticeAll': WHATEVER THE INPUT: true; the input reads as it did. -/
def latticeAllSpec : ChangeSpec := { name := "latticeAll", fn := fun _ => fun
  | [d1, d2, d3, d4] => { results := [.lit (.bool true)], args := [d1, d2, d3, d4] }
  | _ => none }
def latticeAllRow : OpenClaim := { program := "ytaopanclnaimpaadoor", sum := "825f0c09aca87ffb58210570789237719f0403b4dd808401ef79708bc2799961", func := "hypercube/hypercubelaw8.LatticeAll", spec := "latticeAll", unfollowed := true, recurses := true, named := ["math/bits.deBruijn32tab", "math/bits.deBruijn64tab"], apart := false, laid := [("math/bits.deBruijn32tab", laid_math_bits_deBruijn32tab), ("math/bits.deBruijn64tab", laid_math_bits_deBruijn64tab)] }
def LatticeAllSaid : Prop := latticeAllRow.holds Tryd.pinned (OpenSpec.ofChange latticeAllSpec)

/-- ITS FALSE NEIGHBOUR: 'it returns false'. Refute it at one input. -/
def latticeAllWrong : ChangeSpec := { name := "latticeAll", fn := fun _ => fun
  | [d1, d2, d3, d4] => { results := [.lit (.bool false)], args := [d1, d2, d3, d4] }
  | _ => none }
def LatticeAllWrongFalsely : Prop := latticeAllRow.holds Tryd.pinned (OpenSpec.ofChange latticeAllWrong)

/-- 'hypercubelaw8.LatticeSets': WHATEVER THE INPUT: true; the input reads as it did. -/
def latticeSetsSpec : ChangeSpec := { name := "latticeSets", fn := fun _ => fun
  | [d] => { results := [.lit (.bool true)], args := [d] }
  | _ => none }
def latticeSetsRow : OpenClaim := { program := "ytaopanclnaimpaadoor", sum := "825f0c09aca87ffb58210570789237719f0403b4dd808401ef79708bc2799961", func := "hypercube/hypercubelaw8.LatticeSets", spec := "latticeSets", unfollowed := true, recurses := true, named := ["math/bits.deBruijn32tab", "math/bits.deBruijn64tab"], apart := false, laid := [("math/bits.deBruijn32tab", laid_math_bits_deBruijn32tab), ("math/bits.deBruijn64tab", laid_math_bits_deBruijn64tab)] }
def LatticeSetsSaid : Prop := latticeSetsRow.holds Tryd.pinned (OpenSpec.ofChange latticeSetsSpec)

/-- ITS FALSE NEIGHBOUR: 'it returns false'. Refute it at one input. -/
def latticeSetsWrong : ChangeSpec := { name := "latticeSets", fn := fun _ => fun
  | [d] => { results := [.lit (.bool false)], args := [d] }
  | _ => none }
def LatticeSetsWrongFalsely : Prop := latticeSetsRow.holds Tryd.pinned (OpenSpec.ofChange latticeSetsWrong)

/-- 'hypercubelaw8.LatticeSizes': WHATEVER THE INPUT: true; the input reads as it did. -/
def latticeSizesSpec : ChangeSpec := { name := "latticeSizes", fn := fun _ => fun
  | [d1, d2, d3, d4, d5] => { results := [.lit (.bool true)], args := [d1, d2, d3, d4, d5] }
  | _ => none }
def latticeSizesRow : OpenClaim := { program := "ytaopanclnaimpaadoor", sum := "825f0c09aca87ffb58210570789237719f0403b4dd808401ef79708bc2799961", func := "hypercube/hypercubelaw8.LatticeSizes", spec := "latticeSizes", unfollowed := true, recurses := true, named := ["math/bits.deBruijn32tab", "math/bits.deBruijn64tab"], apart := false, laid := [("math/bits.deBruijn32tab", laid_math_bits_deBruijn32tab), ("math/bits.deBruijn64tab", laid_math_bits_deBruijn64tab)] }
def LatticeSizesSaid : Prop := latticeSizesRow.holds Tryd.pinned (OpenSpec.ofChange latticeSizesSpec)

/-- ITS FALSE NEIGHBOUR: 'it returns false'. Refute it at one input. -/
def latticeSizesWrong : ChangeSpec := { name := "latticeSizes", fn := fun _ => fun
  | [d1, d2, d3, d4, d5] => { results := [.lit (.bool false)], args := [d1, d2, d3, d4, d5] }
  | _ => none }
def LatticeSizesWrongFalsely : Prop := latticeSizesRow.holds Tryd.pinned (OpenSpec.ofChange latticeSizesWrong)

/-- 'hypercubelaw8.LatticeTrue': WHATEVER THE INPUT: true; the input reads as it did. -/
def latticeTrueSpec : ChangeSpec := { name := "latticeTrue", fn := fun _ => fun
  | [d1, d2, d3, d4] => { results := [.lit (.bool true)], args := [d1, d2, d3, d4] }
  | _ => none }
def latticeTrueRow : OpenClaim := { program := "ytaopanclnaimpaadoor", sum := "825f0c09aca87ffb58210570789237719f0403b4dd808401ef79708bc2799961", func := "hypercube/hypercubelaw8.LatticeTrue", spec := "latticeTrue", unfollowed := true, recurses := true, named := ["math/bits.deBruijn32tab", "math/bits.deBruijn64tab"], apart := false, laid := [("math/bits.deBruijn32tab", laid_math_bits_deBruijn32tab), ("math/bits.deBruijn64tab", laid_math_bits_deBruijn64tab)] }
def LatticeTrueSaid : Prop := latticeTrueRow.holds Tryd.pinned (OpenSpec.ofChange latticeTrueSpec)

/-- ITS FALSE NEIGHBOUR: 'it returns false'. Refute it at one input. -/
def latticeTrueWrong : ChangeSpec := { name := "latticeTrue", fn := fun _ => fun
  | [d1, d2, d3, d4] => { results := [.lit (.bool false)], args := [d1, d2, d3, d4] }
  | _ => none }
def LatticeTrueWrongFalsely : Prop := latticeTrueRow.holds Tryd.pinned (OpenSpec.ofChange latticeTrueWrong)

/-- 'hypercubelaw8.LatticeKnown': WHATEVER THE INPUT: true; the input reads as it did. -/
def latticeKnownSpec : ChangeSpec := { name := "latticeKnown", fn := fun _ => fun
  | [d] => { results := [.lit (.bool true)], args := [d] }
  | _ => none }
def latticeKnownRow : OpenClaim := { program := "ytaopanclnaimpaadoor", sum := "825f0c09aca87ffb58210570789237719f0403b4dd808401ef79708bc2799961", func := "hypercube/hypercubelaw8.LatticeKnown", spec := "latticeKnown", unfollowed := true, recurses := true, named := ["math/bits.deBruijn32tab", "math/bits.deBruijn64tab"], apart := false, laid := [("math/bits.deBruijn32tab", laid_math_bits_deBruijn32tab), ("math/bits.deBruijn64tab", laid_math_bits_deBruijn64tab)] }
def LatticeKnownSaid : Prop := latticeKnownRow.holds Tryd.pinned (OpenSpec.ofChange latticeKnownSpec)

/-- ITS FALSE NEIGHBOUR: 'it returns false'. Refute it at one input. -/
def latticeKnownWrong : ChangeSpec := { name := "latticeKnown", fn := fun _ => fun
  | [d] => { results := [.lit (.bool false)], args := [d] }
  | _ => none }
def LatticeKnownWrongFalsely : Prop := latticeKnownRow.holds Tryd.pinned (OpenSpec.ofChange latticeKnownWrong)

/-- 'hypercubelaw8.LatticeLevels': WHATEVER THE INPUT: true; the input reads as it did. -/
def latticeLevelsSpec : ChangeSpec := { name := "latticeLevels", fn := fun _ => fun
  | [d1, d2] => { results := [.lit (.bool true)], args := [d1, d2] }
  | _ => none }
def latticeLevelsRow : OpenClaim := { program := "ytaopanclnaimpaadoor", sum := "825f0c09aca87ffb58210570789237719f0403b4dd808401ef79708bc2799961", func := "hypercube/hypercubelaw8.LatticeLevels", spec := "latticeLevels", unfollowed := true, recurses := true, named := ["math/bits.deBruijn32tab", "math/bits.deBruijn64tab"], apart := false, laid := [("math/bits.deBruijn32tab", laid_math_bits_deBruijn32tab), ("math/bits.deBruijn64tab", laid_math_bits_deBruijn64tab)] }
def LatticeLevelsSaid : Prop := latticeLevelsRow.holds Tryd.pinned (OpenSpec.ofChange latticeLevelsSpec)

/-- ITS FALSE NEIGHBOUR: 'it returns false'. Refute it at one input. -/
def latticeLevelsWrong : ChangeSpec := { name := "latticeLevels", fn := fun _ => fun
  | [d1, d2] => { results := [.lit (.bool false)], args := [d1, d2] }
  | _ => none }
def LatticeLevelsWrongFalsely : Prop := latticeLevelsRow.holds Tryd.pinned (OpenSpec.ofChange latticeLevelsWrong)

/-- 'hypercubelaw8.LatticeUp': WHATEVER THE INPUT: true; the input reads as it did. -/
def latticeUpSpec : ChangeSpec := { name := "latticeUp", fn := fun _ => fun
  | [d] => { results := [.lit (.bool true)], args := [d] }
  | _ => none }
def latticeUpRow : OpenClaim := { program := "ytaopanclnaimpaadoor", sum := "825f0c09aca87ffb58210570789237719f0403b4dd808401ef79708bc2799961", func := "hypercube/hypercubelaw8.LatticeUp", spec := "latticeUp", unfollowed := true, recurses := true, named := ["math/bits.deBruijn32tab", "math/bits.deBruijn64tab"], apart := false, laid := [("math/bits.deBruijn32tab", laid_math_bits_deBruijn32tab), ("math/bits.deBruijn64tab", laid_math_bits_deBruijn64tab)] }
def LatticeUpSaid : Prop := latticeUpRow.holds Tryd.pinned (OpenSpec.ofChange latticeUpSpec)

/-- ITS FALSE NEIGHBOUR: 'it returns false'. Refute it at one input. -/
def latticeUpWrong : ChangeSpec := { name := "latticeUp", fn := fun _ => fun
  | [d] => { results := [.lit (.bool false)], args := [d] }
  | _ => none }
def LatticeUpWrongFalsely : Prop := latticeUpRow.holds Tryd.pinned (OpenSpec.ofChange latticeUpWrong)

/-- 'hypercubelaw8.LatticeCosts': WHATEVER THE INPUT: true; the input reads as it did. -/
def latticeCostsSpec : ChangeSpec := { name := "latticeCosts", fn := fun _ => fun
  | [d1, d2, d3, d4] => { results := [.lit (.bool true)], args := [d1, d2, d3, d4] }
  | _ => none }
def latticeCostsRow : OpenClaim := { program := "ytaopanclnaimpaadoor", sum := "825f0c09aca87ffb58210570789237719f0403b4dd808401ef79708bc2799961", func := "hypercube/hypercubelaw8.LatticeCosts", spec := "latticeCosts", unfollowed := true, recurses := true, named := ["math/bits.deBruijn32tab", "math/bits.deBruijn64tab"], apart := false, laid := [("math/bits.deBruijn32tab", laid_math_bits_deBruijn32tab), ("math/bits.deBruijn64tab", laid_math_bits_deBruijn64tab)] }
def LatticeCostsSaid : Prop := latticeCostsRow.holds Tryd.pinned (OpenSpec.ofChange latticeCostsSpec)

/-- ITS FALSE NEIGHBOUR: 'it returns false'. Refute it at one input. -/
def latticeCostsWrong : ChangeSpec := { name := "latticeCosts", fn := fun _ => fun
  | [d1, d2, d3, d4] => { results := [.lit (.bool false)], args := [d1, d2, d3, d4] }
  | _ => none }
def LatticeCostsWrongFalsely : Prop := latticeCostsRow.holds Tryd.pinned (OpenSpec.ofChange latticeCostsWrong)

/-- 'hypercubelaw8.LatticeNone': WHATEVER THE INPUT: true; the input reads as it did. -/
def latticeNoneSpec : ChangeSpec := { name := "latticeNone", fn := fun _ => fun
  | [d1, d2, d3] => { results := [.lit (.bool true)], args := [d1, d2, d3] }
  | _ => none }
def latticeNoneRow : OpenClaim := { program := "ytaopanclnaimpaadoor", sum := "825f0c09aca87ffb58210570789237719f0403b4dd808401ef79708bc2799961", func := "hypercube/hypercubelaw8.LatticeNone", spec := "latticeNone", unfollowed := true, recurses := true, named := ["math/bits.deBruijn32tab", "math/bits.deBruijn64tab"], apart := false, laid := [("math/bits.deBruijn32tab", laid_math_bits_deBruijn32tab), ("math/bits.deBruijn64tab", laid_math_bits_deBruijn64tab)] }
def LatticeNoneSaid : Prop := latticeNoneRow.holds Tryd.pinned (OpenSpec.ofChange latticeNoneSpec)

/-- ITS FALSE NEIGHBOUR: 'it returns false'. Refute it at one input. -/
def latticeNoneWrong : ChangeSpec := { name := "latticeNone", fn := fun _ => fun
  | [d1, d2, d3] => { results := [.lit (.bool false)], args := [d1, d2, d3] }
  | _ => none }
def LatticeNoneWrongFalsely : Prop := latticeNoneRow.holds Tryd.pinned (OpenSpec.ofChange latticeNoneWrong)

/- THE SECOND FORM. 'bulk': how many values and letters a reading holds, each counted each time it is reached (what is shared counts as often as it is met; a slice's spare places count too). A statement '..UptoSaid' is the law's where the arguments, and the package variables that the reading takes, are together of bulk at most 1048576: NARROWER than '..Said'. Prove '..Said' where nothing that the law and all that it calls make is longer than what came in: it says more and counts as full. Else prove '..UptoSaid'. A law counts once. -/
mutual
def uptoBulk {H : Type} : DataW H → Nat
  | .lit (.string bytes) => bytes.length + 1
  | .lit _ => 1
  | .nil => 1
  | .ptr d => uptoBulk d + 1
  | .slice elems spare => uptoBulkAll elems + uptoBulkAll spare + 1
  | .agg parts => uptoBulkAll parts + 1
  | .iface _ d => uptoBulk d + 1
  | .map entries => uptoBulkEntries entries + 1
  | .held _ => 1
def uptoBulkAll {H : Type} : List (DataW H) → Nat
  | [] => 0
  | d :: r => uptoBulk d + uptoBulkAll r
def uptoBulkEntries {H : Type} : List (Lit × DataW H) → Nat
  | [] => 0
  | x :: r => uptoBulkEntry x + uptoBulkEntries r
def uptoBulkEntry {H : Type} : Lit × DataW H → Nat
  | (.string bytes, d) => bytes.length + uptoBulk d + 1
  | (_, d) => uptoBulk d + 1
 end
def uptoSmall : (H : Type) → List (DataW H) → Bool := fun _ ds => decide (uptoBulkAll ds ≤ 1048576)
def OpenSpec.upto (s : _root_.Go.ChangeSpec) : _root_.Go.OpenSpec := { _root_.Go.OpenSpec.ofChange s with cond := some uptoSmall }

/-- 'hypercubelaw8.LatticeAll', WHERE WHAT IT READS IS OF BULK AT MOST 1048576: true; the input reads as it did. -/
def latticeAllUptoRow : OpenClaim := { program := "ytaopanclnaimpaadoor", sum := "825f0c09aca87ffb58210570789237719f0403b4dd808401ef79708bc2799961", func := "hypercube/hypercubelaw8.LatticeAll", spec := "latticeAll", unfollowed := true, recurses := true, named := ["math/bits.deBruijn32tab", "math/bits.deBruijn64tab"], apart := false, laid := [("math/bits.deBruijn32tab", laid_math_bits_deBruijn32tab), ("math/bits.deBruijn64tab", laid_math_bits_deBruijn64tab)], narrowed := true }
def LatticeAllUptoSaid : Prop := latticeAllUptoRow.holds Tryd.pinned (OpenSpec.upto latticeAllSpec)

/-- 'hypercubelaw8.LatticeSets', WHERE WHAT IT READS IS OF BULK AT MOST 1048576: true; the input reads as it did. -/
def latticeSetsUptoRow : OpenClaim := { program := "ytaopanclnaimpaadoor", sum := "825f0c09aca87ffb58210570789237719f0403b4dd808401ef79708bc2799961", func := "hypercube/hypercubelaw8.LatticeSets", spec := "latticeSets", unfollowed := true, recurses := true, named := ["math/bits.deBruijn32tab", "math/bits.deBruijn64tab"], apart := false, laid := [("math/bits.deBruijn32tab", laid_math_bits_deBruijn32tab), ("math/bits.deBruijn64tab", laid_math_bits_deBruijn64tab)], narrowed := true }
def LatticeSetsUptoSaid : Prop := latticeSetsUptoRow.holds Tryd.pinned (OpenSpec.upto latticeSetsSpec)

/-- 'hypercubelaw8.LatticeSizes', WHERE WHAT IT READS IS OF BULK AT MOST 1048576: true; the input reads as it did. -/
def latticeSizesUptoRow : OpenClaim := { program := "ytaopanclnaimpaadoor", sum := "825f0c09aca87ffb58210570789237719f0403b4dd808401ef79708bc2799961", func := "hypercube/hypercubelaw8.LatticeSizes", spec := "latticeSizes", unfollowed := true, recurses := true, named := ["math/bits.deBruijn32tab", "math/bits.deBruijn64tab"], apart := false, laid := [("math/bits.deBruijn32tab", laid_math_bits_deBruijn32tab), ("math/bits.deBruijn64tab", laid_math_bits_deBruijn64tab)], narrowed := true }
def LatticeSizesUptoSaid : Prop := latticeSizesUptoRow.holds Tryd.pinned (OpenSpec.upto latticeSizesSpec)

/-- 'hypercubelaw8.LatticeTrue', WHERE WHAT IT READS IS OF BULK AT MOST 1048576: true; the input reads as it did. -/
def latticeTrueUptoRow : OpenClaim := { program := "ytaopanclnaimpaadoor", sum := "825f0c09aca87ffb58210570789237719f0403b4dd808401ef79708bc2799961", func := "hypercube/hypercubelaw8.LatticeTrue", spec := "latticeTrue", unfollowed := true, recurses := true, named := ["math/bits.deBruijn32tab", "math/bits.deBruijn64tab"], apart := false, laid := [("math/bits.deBruijn32tab", laid_math_bits_deBruijn32tab), ("math/bits.deBruijn64tab", laid_math_bits_deBruijn64tab)], narrowed := true }
def LatticeTrueUptoSaid : Prop := latticeTrueUptoRow.holds Tryd.pinned (OpenSpec.upto latticeTrueSpec)

/-- 'hypercubelaw8.LatticeKnown', WHERE WHAT IT READS IS OF BULK AT MOST 1048576: true; the input reads as it did. -/
def latticeKnownUptoRow : OpenClaim := { program := "ytaopanclnaimpaadoor", sum := "825f0c09aca87ffb58210570789237719f0403b4dd808401ef79708bc2799961", func := "hypercube/hypercubelaw8.LatticeKnown", spec := "latticeKnown", unfollowed := true, recurses := true, named := ["math/bits.deBruijn32tab", "math/bits.deBruijn64tab"], apart := false, laid := [("math/bits.deBruijn32tab", laid_math_bits_deBruijn32tab), ("math/bits.deBruijn64tab", laid_math_bits_deBruijn64tab)], narrowed := true }
def LatticeKnownUptoSaid : Prop := latticeKnownUptoRow.holds Tryd.pinned (OpenSpec.upto latticeKnownSpec)

/-- 'hypercubelaw8.LatticeLevels', WHERE WHAT IT READS IS OF BULK AT MOST 1048576: true; the input reads as it did. -/
def latticeLevelsUptoRow : OpenClaim := { program := "ytaopanclnaimpaadoor", sum := "825f0c09aca87ffb58210570789237719f0403b4dd808401ef79708bc2799961", func := "hypercube/hypercubelaw8.LatticeLevels", spec := "latticeLevels", unfollowed := true, recurses := true, named := ["math/bits.deBruijn32tab", "math/bits.deBruijn64tab"], apart := false, laid := [("math/bits.deBruijn32tab", laid_math_bits_deBruijn32tab), ("math/bits.deBruijn64tab", laid_math_bits_deBruijn64tab)], narrowed := true }
def LatticeLevelsUptoSaid : Prop := latticeLevelsUptoRow.holds Tryd.pinned (OpenSpec.upto latticeLevelsSpec)

/-- 'hypercubelaw8.LatticeUp', WHERE WHAT IT READS IS OF BULK AT MOST 1048576: true; the input reads as it did. -/
def latticeUpUptoRow : OpenClaim := { program := "ytaopanclnaimpaadoor", sum := "825f0c09aca87ffb58210570789237719f0403b4dd808401ef79708bc2799961", func := "hypercube/hypercubelaw8.LatticeUp", spec := "latticeUp", unfollowed := true, recurses := true, named := ["math/bits.deBruijn32tab", "math/bits.deBruijn64tab"], apart := false, laid := [("math/bits.deBruijn32tab", laid_math_bits_deBruijn32tab), ("math/bits.deBruijn64tab", laid_math_bits_deBruijn64tab)], narrowed := true }
def LatticeUpUptoSaid : Prop := latticeUpUptoRow.holds Tryd.pinned (OpenSpec.upto latticeUpSpec)

/-- 'hypercubelaw8.LatticeCosts', WHERE WHAT IT READS IS OF BULK AT MOST 1048576: true; the input reads as it did. -/
def latticeCostsUptoRow : OpenClaim := { program := "ytaopanclnaimpaadoor", sum := "825f0c09aca87ffb58210570789237719f0403b4dd808401ef79708bc2799961", func := "hypercube/hypercubelaw8.LatticeCosts", spec := "latticeCosts", unfollowed := true, recurses := true, named := ["math/bits.deBruijn32tab", "math/bits.deBruijn64tab"], apart := false, laid := [("math/bits.deBruijn32tab", laid_math_bits_deBruijn32tab), ("math/bits.deBruijn64tab", laid_math_bits_deBruijn64tab)], narrowed := true }
def LatticeCostsUptoSaid : Prop := latticeCostsUptoRow.holds Tryd.pinned (OpenSpec.upto latticeCostsSpec)

/-- 'hypercubelaw8.LatticeNone', WHERE WHAT IT READS IS OF BULK AT MOST 1048576: true; the input reads as it did. -/
def latticeNoneUptoRow : OpenClaim := { program := "ytaopanclnaimpaadoor", sum := "825f0c09aca87ffb58210570789237719f0403b4dd808401ef79708bc2799961", func := "hypercube/hypercubelaw8.LatticeNone", spec := "latticeNone", unfollowed := true, recurses := true, named := ["math/bits.deBruijn32tab", "math/bits.deBruijn64tab"], apart := false, laid := [("math/bits.deBruijn32tab", laid_math_bits_deBruijn32tab), ("math/bits.deBruijn64tab", laid_math_bits_deBruijn64tab)], narrowed := true }
def LatticeNoneUptoSaid : Prop := latticeNoneUptoRow.holds Tryd.pinned (OpenSpec.upto latticeNoneSpec)

end Rows
end Go.Proofs.YtaopanclnaimpaaDoor
