/-
  NARROWER THAN 'FOR EVERY INPUT', by the rows' own cells (each row's printed sentence says how): CellAll: laid · CellLess: laid · CellJoins: laid · CellGroups: laid · CellNarrows: laid · CellBack: laid · CellReads: laid · CellKnown: laid · CellOwn: laid · CellParts: laid · CellTotals: laid · CellWays: laid · CellSorts: laid.
  DERIVED. THE GIVEN ROWS OF THIS SEAT. 13 by the template 'for every input the law returns true; each argument reads behind the call as it read before'; 0 by the template 'total and deterministic' (their statements: YtbkcclmhgnplcaaDoorTotals.lean).
  GIVEN WITH THE SEED: the statements are not yours to turn. If you find one false, say at which input.
  Laid BY PROGRAM, IN A SANDBOX (cutbox-rows.mjs): the forced cells as the released guide's own fill.sh prints them over the translation 42b34ca579db8fa0… (all of the seat's roots in one cut). By AI agents, Wed Nov 11 2026. No macro, syntax, notation, axiom, sorry.
-/
import Derived.Test.YtbkcclmhgnplcaaDoorChecked
import GoSem.Claim
import GoSem.ClaimJoined
import GoSem.ClaimMapViews
import Derived.JoinedTies
import Derived.KernelRfl
namespace Go.Proofs.YtbkcclmhgnplcaaDoor
/- THE CELL 'sum', in the pinned program and in every row, IS THE sha256 OF THE DUMP (.gsa) THAT YtbkcclmhgnplcaaDoorProg.lean LOADS. Nothing in Lean hashes anything: it is a label: what it is worth is what the hold of that sum in a sandbox is worth. -/
noncomputable def Tryd.pinned : Pinned := { name := "ytbkcclmhgnplcaadoor", sum := "42b34ca579db8fa007b8ccd2053cdc1d2bc9c47591a1a0356ed9c8d44fba46e7", checked := Tryd.checked }
namespace Rows
def none {H : Type} : Left H := { results := [], args := [] }

/- WHAT THE LISTED PACKAGE-LEVEL VARIABLES READ AS WHEN THE CALL BEGINS. Each datum BY PROGRAM (the guide's laid-datum.mjs) off the statement by which the dump's own 'gosem.cut.vars' lays the variable. In a bare row this is a premise. The card (YtbkcclmhgnplcaaDoorCards.lean) ties it to the program's text. -/
def laid_math_bits_deBruijn32tab {H : Type} : DataW H := .agg [.lit (.int .u8 0), .lit (.int .u8 1), .lit (.int .u8 28), .lit (.int .u8 2), .lit (.int .u8 29), .lit (.int .u8 14), .lit (.int .u8 24), .lit (.int .u8 3), .lit (.int .u8 30), .lit (.int .u8 22), .lit (.int .u8 20), .lit (.int .u8 15), .lit (.int .u8 25), .lit (.int .u8 17), .lit (.int .u8 4), .lit (.int .u8 8), .lit (.int .u8 31), .lit (.int .u8 27), .lit (.int .u8 13), .lit (.int .u8 23), .lit (.int .u8 21), .lit (.int .u8 19), .lit (.int .u8 16), .lit (.int .u8 7), .lit (.int .u8 26), .lit (.int .u8 12), .lit (.int .u8 18), .lit (.int .u8 6), .lit (.int .u8 11), .lit (.int .u8 5), .lit (.int .u8 10), .lit (.int .u8 9)]
def laid_math_bits_deBruijn64tab {H : Type} : DataW H := .agg [.lit (.int .u8 0), .lit (.int .u8 1), .lit (.int .u8 56), .lit (.int .u8 2), .lit (.int .u8 57), .lit (.int .u8 49), .lit (.int .u8 28), .lit (.int .u8 3), .lit (.int .u8 61), .lit (.int .u8 58), .lit (.int .u8 42), .lit (.int .u8 50), .lit (.int .u8 38), .lit (.int .u8 29), .lit (.int .u8 17), .lit (.int .u8 4), .lit (.int .u8 62), .lit (.int .u8 47), .lit (.int .u8 59), .lit (.int .u8 36), .lit (.int .u8 45), .lit (.int .u8 43), .lit (.int .u8 51), .lit (.int .u8 22), .lit (.int .u8 53), .lit (.int .u8 39), .lit (.int .u8 33), .lit (.int .u8 30), .lit (.int .u8 24), .lit (.int .u8 18), .lit (.int .u8 12), .lit (.int .u8 5), .lit (.int .u8 63), .lit (.int .u8 55), .lit (.int .u8 48), .lit (.int .u8 27), .lit (.int .u8 60), .lit (.int .u8 41), .lit (.int .u8 37), .lit (.int .u8 16), .lit (.int .u8 46), .lit (.int .u8 35), .lit (.int .u8 44), .lit (.int .u8 21), .lit (.int .u8 52), .lit (.int .u8 32), .lit (.int .u8 23), .lit (.int .u8 11), .lit (.int .u8 54), .lit (.int .u8 26), .lit (.int .u8 40), .lit (.int .u8 15), .lit (.int .u8 34), .lit (.int .u8 20), .lit (.int .u8 31), .lit (.int .u8 10), .lit (.int .u8 25), .lit (.int .u8 14), .lit (.int .u8 19), .lit (.int .u8 9), .lit (.int .u8 13), .lit (.int .u8 8), .lit (.int .u8 7), .lit (.int .u8 6)]

/-- 'hypercubelaw2.CellAll': WHATEVER THE INPUT: true; the input reads as it did. -/
def cellAllSpec : ChangeSpec := { name := "cellAll", fn := fun _ => fun
  | [d1, d2, d3, d4, d5, d6] => { results := [.lit (.bool true)], args := [d1, d2, d3, d4, d5, d6] }
  | _ => none }
def cellAllRow : OpenClaim := { program := "ytbkcclmhgnplcaadoor", sum := "42b34ca579db8fa007b8ccd2053cdc1d2bc9c47591a1a0356ed9c8d44fba46e7", func := "hypercube/hypercubelaw2.CellAll", spec := "cellAll", unfollowed := true, recurses := true, named := ["math/bits.deBruijn32tab", "math/bits.deBruijn64tab"], apart := false, laid := [("math/bits.deBruijn32tab", laid_math_bits_deBruijn32tab), ("math/bits.deBruijn64tab", laid_math_bits_deBruijn64tab)] }
def CellAllSaid : Prop := cellAllRow.holds Tryd.pinned (OpenSpec.ofChange cellAllSpec)

/-- ITS FALSE NEIGHBOUR: 'it returns false'. Refute it at one input. -/
def cellAllWrong : ChangeSpec := { name := "cellAll", fn := fun _ => fun
  | [d1, d2, d3, d4, d5, d6] => { results := [.lit (.bool false)], args := [d1, d2, d3, d4, d5, d6] }
  | _ => none }
def CellAllWrongFalsely : Prop := cellAllRow.holds Tryd.pinned (OpenSpec.ofChange cellAllWrong)

/-- 'hypercubelaw2.CellLess': WHATEVER THE INPUT: true; the input reads as it did. -/
def cellLessSpec : ChangeSpec := { name := "cellLess", fn := fun _ => fun
  | [d1, d2, d3] => { results := [.lit (.bool true)], args := [d1, d2, d3] }
  | _ => none }
def cellLessRow : OpenClaim := { program := "ytbkcclmhgnplcaadoor", sum := "42b34ca579db8fa007b8ccd2053cdc1d2bc9c47591a1a0356ed9c8d44fba46e7", func := "hypercube/hypercubelaw2.CellLess", spec := "cellLess", unfollowed := true, recurses := true, named := ["math/bits.deBruijn32tab", "math/bits.deBruijn64tab"], apart := false, laid := [("math/bits.deBruijn32tab", laid_math_bits_deBruijn32tab), ("math/bits.deBruijn64tab", laid_math_bits_deBruijn64tab)] }
def CellLessSaid : Prop := cellLessRow.holds Tryd.pinned (OpenSpec.ofChange cellLessSpec)

/-- ITS FALSE NEIGHBOUR: 'it returns false'. Refute it at one input. -/
def cellLessWrong : ChangeSpec := { name := "cellLess", fn := fun _ => fun
  | [d1, d2, d3] => { results := [.lit (.bool false)], args := [d1, d2, d3] }
  | _ => none }
def CellLessWrongFalsely : Prop := cellLessRow.holds Tryd.pinned (OpenSpec.ofChange cellLessWrong)

/-- 'hypercubelaw2.CellJoins': WHATEVER THE INPUT: true; the input reads as it did. -/
def cellJoinsSpec : ChangeSpec := { name := "cellJoins", fn := fun _ => fun
  | [d1, d2] => { results := [.lit (.bool true)], args := [d1, d2] }
  | _ => none }
def cellJoinsRow : OpenClaim := { program := "ytbkcclmhgnplcaadoor", sum := "42b34ca579db8fa007b8ccd2053cdc1d2bc9c47591a1a0356ed9c8d44fba46e7", func := "hypercube/hypercubelaw2.CellJoins", spec := "cellJoins", unfollowed := true, recurses := true, named := ["math/bits.deBruijn32tab", "math/bits.deBruijn64tab"], apart := false, laid := [("math/bits.deBruijn32tab", laid_math_bits_deBruijn32tab), ("math/bits.deBruijn64tab", laid_math_bits_deBruijn64tab)] }
def CellJoinsSaid : Prop := cellJoinsRow.holds Tryd.pinned (OpenSpec.ofChange cellJoinsSpec)

/-- ITS FALSE NEIGHBOUR: 'it returns false'. Refute it at one input. -/
def cellJoinsWrong : ChangeSpec := { name := "cellJoins", fn := fun _ => fun
  | [d1, d2] => { results := [.lit (.bool false)], args := [d1, d2] }
  | _ => none }
def CellJoinsWrongFalsely : Prop := cellJoinsRow.holds Tryd.pinned (OpenSpec.ofChange cellJoinsWrong)

/-- 'hypercubelaw2.CellGroups': WHATEVER THE INPUT: true; the input reads as it did. -/
def cellGroupsSpec : ChangeSpec := { name := "cellGroups", fn := fun _ => fun
  | [d1, d2, d3, d4, d5, d6] => { results := [.lit (.bool true)], args := [d1, d2, d3, d4, d5, d6] }
  | _ => none }
def cellGroupsRow : OpenClaim := { program := "ytbkcclmhgnplcaadoor", sum := "42b34ca579db8fa007b8ccd2053cdc1d2bc9c47591a1a0356ed9c8d44fba46e7", func := "hypercube/hypercubelaw2.CellGroups", spec := "cellGroups", unfollowed := true, recurses := true, named := ["math/bits.deBruijn32tab", "math/bits.deBruijn64tab"], apart := false, laid := [("math/bits.deBruijn32tab", laid_math_bits_deBruijn32tab), ("math/bits.deBruijn64tab", laid_math_bits_deBruijn64tab)] }
def CellGroupsSaid : Prop := cellGroupsRow.holds Tryd.pinned (OpenSpec.ofChange cellGroupsSpec)

/-- ITS FALSE NEIGHBOUR: 'it returns false'. Refute it at one input. -/
def cellGroupsWrong : ChangeSpec := { name := "cellGroups", fn := fun _ => fun
  | [d1, d2, d3, d4, d5, d6] => { results := [.lit (.bool false)], args := [d1, d2, d3, d4, d5, d6] }
  | _ => none }
def CellGroupsWrongFalsely : Prop := cellGroupsRow.holds Tryd.pinned (OpenSpec.ofChange cellGroupsWrong)

/-- 'hypercubelaw2.CellNarrows': WHATEVER THE INPUT: true; the input reads as it did. -/
def cellNarrowsSpec : ChangeSpec := { name := "cellNarrows", fn := fun _ => fun
  | [d1, d2, d3, d4, d5, d6] => { results := [.lit (.bool true)], args := [d1, d2, d3, d4, d5, d6] }
  | _ => none }
def cellNarrowsRow : OpenClaim := { program := "ytbkcclmhgnplcaadoor", sum := "42b34ca579db8fa007b8ccd2053cdc1d2bc9c47591a1a0356ed9c8d44fba46e7", func := "hypercube/hypercubelaw2.CellNarrows", spec := "cellNarrows", unfollowed := true, recurses := true, named := ["math/bits.deBruijn32tab", "math/bits.deBruijn64tab"], apart := false, laid := [("math/bits.deBruijn32tab", laid_math_bits_deBruijn32tab), ("math/bits.deBruijn64tab", laid_math_bits_deBruijn64tab)] }
def CellNarrowsSaid : Prop := cellNarrowsRow.holds Tryd.pinned (OpenSpec.ofChange cellNarrowsSpec)

/-- ITS FALSE NEIGHBOUR: 'it returns false'. Refute it at one input. -/
def cellNarrowsWrong : ChangeSpec := { name := "cellNarrows", fn := fun _ => fun
  | [d1, d2, d3, d4, d5, d6] => { results := [.lit (.bool false)], args := [d1, d2, d3, d4, d5, d6] }
  | _ => none }
def CellNarrowsWrongFalsely : Prop := cellNarrowsRow.holds Tryd.pinned (OpenSpec.ofChange cellNarrowsWrong)

/-- 'hypercubelaw2.CellBack': WHATEVER THE INPUT: true; the input reads as it did. -/
def cellBackSpec : ChangeSpec := { name := "cellBack", fn := fun _ => fun
  | [d1, d2, d3, d4, d5] => { results := [.lit (.bool true)], args := [d1, d2, d3, d4, d5] }
  | _ => none }
def cellBackRow : OpenClaim := { program := "ytbkcclmhgnplcaadoor", sum := "42b34ca579db8fa007b8ccd2053cdc1d2bc9c47591a1a0356ed9c8d44fba46e7", func := "hypercube/hypercubelaw2.CellBack", spec := "cellBack", unfollowed := true, recurses := true, named := ["math/bits.deBruijn32tab", "math/bits.deBruijn64tab"], apart := false, laid := [("math/bits.deBruijn32tab", laid_math_bits_deBruijn32tab), ("math/bits.deBruijn64tab", laid_math_bits_deBruijn64tab)] }
def CellBackSaid : Prop := cellBackRow.holds Tryd.pinned (OpenSpec.ofChange cellBackSpec)

/-- ITS FALSE NEIGHBOUR: 'it returns false'. Refute it at one input. -/
def cellBackWrong : ChangeSpec := { name := "cellBack", fn := fun _ => fun
  | [d1, d2, d3, d4, d5] => { results := [.lit (.bool false)], args := [d1, d2, d3, d4, d5] }
  | _ => none }
def CellBackWrongFalsely : Prop := cellBackRow.holds Tryd.pinned (OpenSpec.ofChange cellBackWrong)

/-- 'hypercubelaw2.CellReads': WHATEVER THE INPUT: true; the input reads as it did. -/
def cellReadsSpec : ChangeSpec := { name := "cellReads", fn := fun _ => fun
  | [d1, d2, d3, d4, d5, d6, d7, d8, d9, d10] => { results := [.lit (.bool true)], args := [d1, d2, d3, d4, d5, d6, d7, d8, d9, d10] }
  | _ => none }
def cellReadsRow : OpenClaim := { program := "ytbkcclmhgnplcaadoor", sum := "42b34ca579db8fa007b8ccd2053cdc1d2bc9c47591a1a0356ed9c8d44fba46e7", func := "hypercube/hypercubelaw2.CellReads", spec := "cellReads", unfollowed := true, recurses := true, named := ["math/bits.deBruijn32tab", "math/bits.deBruijn64tab"], apart := false, laid := [("math/bits.deBruijn32tab", laid_math_bits_deBruijn32tab), ("math/bits.deBruijn64tab", laid_math_bits_deBruijn64tab)] }
def CellReadsSaid : Prop := cellReadsRow.holds Tryd.pinned (OpenSpec.ofChange cellReadsSpec)

/-- ITS FALSE NEIGHBOUR: 'it returns false'. Refute it at one input. -/
def cellReadsWrong : ChangeSpec := { name := "cellReads", fn := fun _ => fun
  | [d1, d2, d3, d4, d5, d6, d7, d8, d9, d10] => { results := [.lit (.bool false)], args := [d1, d2, d3, d4, d5, d6, d7, d8, d9, d10] }
  | _ => none }
def CellReadsWrongFalsely : Prop := cellReadsRow.holds Tryd.pinned (OpenSpec.ofChange cellReadsWrong)

/-- 'hypercubelaw2.CellKnown': WHATEVER THE INPUT: true; the input reads as it did. -/
def cellKnownSpec : ChangeSpec := { name := "cellKnown", fn := fun _ => fun
  | [d] => { results := [.lit (.bool true)], args := [d] }
  | _ => none }
def cellKnownRow : OpenClaim := { program := "ytbkcclmhgnplcaadoor", sum := "42b34ca579db8fa007b8ccd2053cdc1d2bc9c47591a1a0356ed9c8d44fba46e7", func := "hypercube/hypercubelaw2.CellKnown", spec := "cellKnown", unfollowed := true, recurses := true, named := ["math/bits.deBruijn32tab", "math/bits.deBruijn64tab"], apart := false, laid := [("math/bits.deBruijn32tab", laid_math_bits_deBruijn32tab), ("math/bits.deBruijn64tab", laid_math_bits_deBruijn64tab)] }
def CellKnownSaid : Prop := cellKnownRow.holds Tryd.pinned (OpenSpec.ofChange cellKnownSpec)

/-- ITS FALSE NEIGHBOUR: 'it returns false'. Refute it at one input. -/
def cellKnownWrong : ChangeSpec := { name := "cellKnown", fn := fun _ => fun
  | [d] => { results := [.lit (.bool false)], args := [d] }
  | _ => none }
def CellKnownWrongFalsely : Prop := cellKnownRow.holds Tryd.pinned (OpenSpec.ofChange cellKnownWrong)

/-- 'hypercubelaw2.CellOwn': WHATEVER THE INPUT: true; the input reads as it did. -/
def cellOwnSpec : ChangeSpec := { name := "cellOwn", fn := fun _ => fun
  | [d1, d2, d3, d4, d5, d6] => { results := [.lit (.bool true)], args := [d1, d2, d3, d4, d5, d6] }
  | _ => none }
def cellOwnRow : OpenClaim := { program := "ytbkcclmhgnplcaadoor", sum := "42b34ca579db8fa007b8ccd2053cdc1d2bc9c47591a1a0356ed9c8d44fba46e7", func := "hypercube/hypercubelaw2.CellOwn", spec := "cellOwn", unfollowed := true, recurses := true, named := ["math/bits.deBruijn32tab", "math/bits.deBruijn64tab"], apart := false, laid := [("math/bits.deBruijn32tab", laid_math_bits_deBruijn32tab), ("math/bits.deBruijn64tab", laid_math_bits_deBruijn64tab)] }
def CellOwnSaid : Prop := cellOwnRow.holds Tryd.pinned (OpenSpec.ofChange cellOwnSpec)

/-- ITS FALSE NEIGHBOUR: 'it returns false'. Refute it at one input. -/
def cellOwnWrong : ChangeSpec := { name := "cellOwn", fn := fun _ => fun
  | [d1, d2, d3, d4, d5, d6] => { results := [.lit (.bool false)], args := [d1, d2, d3, d4, d5, d6] }
  | _ => none }
def CellOwnWrongFalsely : Prop := cellOwnRow.holds Tryd.pinned (OpenSpec.ofChange cellOwnWrong)

/-- 'hypercubelaw2.CellParts': WHATEVER THE INPUT: true; the input reads as it did. -/
def cellPartsSpec : ChangeSpec := { name := "cellParts", fn := fun _ => fun
  | [d1, d2, d3, d4, d5, d6] => { results := [.lit (.bool true)], args := [d1, d2, d3, d4, d5, d6] }
  | _ => none }
def cellPartsRow : OpenClaim := { program := "ytbkcclmhgnplcaadoor", sum := "42b34ca579db8fa007b8ccd2053cdc1d2bc9c47591a1a0356ed9c8d44fba46e7", func := "hypercube/hypercubelaw2.CellParts", spec := "cellParts", unfollowed := true, recurses := true, named := ["math/bits.deBruijn32tab", "math/bits.deBruijn64tab"], apart := false, laid := [("math/bits.deBruijn32tab", laid_math_bits_deBruijn32tab), ("math/bits.deBruijn64tab", laid_math_bits_deBruijn64tab)] }
def CellPartsSaid : Prop := cellPartsRow.holds Tryd.pinned (OpenSpec.ofChange cellPartsSpec)

/-- ITS FALSE NEIGHBOUR: 'it returns false'. Refute it at one input. -/
def cellPartsWrong : ChangeSpec := { name := "cellParts", fn := fun _ => fun
  | [d1, d2, d3, d4, d5, d6] => { results := [.lit (.bool false)], args := [d1, d2, d3, d4, d5, d6] }
  | _ => none }
def CellPartsWrongFalsely : Prop := cellPartsRow.holds Tryd.pinned (OpenSpec.ofChange cellPartsWrong)

/-- 'hypercubelaw2.CellTotals': WHATEVER THE INPUT: true; the input reads as it did. -/
def cellTotalsSpec : ChangeSpec := { name := "cellTotals", fn := fun _ => fun
  | [d] => { results := [.lit (.bool true)], args := [d] }
  | _ => none }
def cellTotalsRow : OpenClaim := { program := "ytbkcclmhgnplcaadoor", sum := "42b34ca579db8fa007b8ccd2053cdc1d2bc9c47591a1a0356ed9c8d44fba46e7", func := "hypercube/hypercubelaw2.CellTotals", spec := "cellTotals", unfollowed := true, recurses := true, named := ["math/bits.deBruijn32tab", "math/bits.deBruijn64tab"], apart := false, laid := [("math/bits.deBruijn32tab", laid_math_bits_deBruijn32tab), ("math/bits.deBruijn64tab", laid_math_bits_deBruijn64tab)] }
def CellTotalsSaid : Prop := cellTotalsRow.holds Tryd.pinned (OpenSpec.ofChange cellTotalsSpec)

/-- ITS FALSE NEIGHBOUR: 'it returns false'. Refute it at one input. -/
def cellTotalsWrong : ChangeSpec := { name := "cellTotals", fn := fun _ => fun
  | [d] => { results := [.lit (.bool false)], args := [d] }
  | _ => none }
def CellTotalsWrongFalsely : Prop := cellTotalsRow.holds Tryd.pinned (OpenSpec.ofChange cellTotalsWrong)

/-- 'hypercubelaw2.CellWays': WHATEVER THE INPUT: true; the input reads as it did. -/
def cellWaysSpec : ChangeSpec := { name := "cellWays", fn := fun _ => fun
  | [d1, d2, d3, d4, d5, d6, d7] => { results := [.lit (.bool true)], args := [d1, d2, d3, d4, d5, d6, d7] }
  | _ => none }
def cellWaysRow : OpenClaim := { program := "ytbkcclmhgnplcaadoor", sum := "42b34ca579db8fa007b8ccd2053cdc1d2bc9c47591a1a0356ed9c8d44fba46e7", func := "hypercube/hypercubelaw2.CellWays", spec := "cellWays", unfollowed := true, recurses := true, named := ["math/bits.deBruijn32tab", "math/bits.deBruijn64tab"], apart := false, laid := [("math/bits.deBruijn32tab", laid_math_bits_deBruijn32tab), ("math/bits.deBruijn64tab", laid_math_bits_deBruijn64tab)] }
def CellWaysSaid : Prop := cellWaysRow.holds Tryd.pinned (OpenSpec.ofChange cellWaysSpec)

/-- ITS FALSE NEIGHBOUR: 'it returns false'. Refute it at one input. -/
def cellWaysWrong : ChangeSpec := { name := "cellWays", fn := fun _ => fun
  | [d1, d2, d3, d4, d5, d6, d7] => { results := [.lit (.bool false)], args := [d1, d2, d3, d4, d5, d6, d7] }
  | _ => none }
def CellWaysWrongFalsely : Prop := cellWaysRow.holds Tryd.pinned (OpenSpec.ofChange cellWaysWrong)

/-- 'hypercubelaw2.CellSorts': WHATEVER THE INPUT: true; the input reads as it did. -/
def cellSortsSpec : ChangeSpec := { name := "cellSorts", fn := fun _ => fun
  | [d1, d2] => { results := [.lit (.bool true)], args := [d1, d2] }
  | _ => none }
def cellSortsRow : OpenClaim := { program := "ytbkcclmhgnplcaadoor", sum := "42b34ca579db8fa007b8ccd2053cdc1d2bc9c47591a1a0356ed9c8d44fba46e7", func := "hypercube/hypercubelaw2.CellSorts", spec := "cellSorts", unfollowed := true, recurses := true, named := ["math/bits.deBruijn32tab", "math/bits.deBruijn64tab"], apart := false, laid := [("math/bits.deBruijn32tab", laid_math_bits_deBruijn32tab), ("math/bits.deBruijn64tab", laid_math_bits_deBruijn64tab)] }
def CellSortsSaid : Prop := cellSortsRow.holds Tryd.pinned (OpenSpec.ofChange cellSortsSpec)

/-- ITS FALSE NEIGHBOUR: 'it returns false'. Refute it at one input. -/
def cellSortsWrong : ChangeSpec := { name := "cellSorts", fn := fun _ => fun
  | [d1, d2] => { results := [.lit (.bool false)], args := [d1, d2] }
  | _ => none }
def CellSortsWrongFalsely : Prop := cellSortsRow.holds Tryd.pinned (OpenSpec.ofChange cellSortsWrong)

/- THE SECOND FORM. 'bulk': how many values and letters a reading holds, each counted each time it is reached (what is shared counts as often as it is met; a slice's spare places count too). A statement '..UptoSaid' is the law's where the arguments, and the package variables that the reading takes, are together of bulk at most 1048576: NARROWER than '..Said'. Prove '..Said' where nothing that the law and all that it calls make is longer than what came in: it says more and counts as full. Else prove '..UptoSaid'. A law counts once. -/
mutual
def uptoBulk {H : Type} : DataW H → Nat
  | .lit (.string bytes) => bytes.length + 1
  | .lit _ => 1
  | .nil => 1
  | .ptr d => uptoBulk d + 1
  | .slice elems spare => uptoBulkAll elems + uptoBulkAll spare + 1
  | .agg parts => uptoBulkAll parts + 1
  | .iface _ d => uptoBulk d + 1
  | .map entries => uptoBulkEntries entries + 1
  | .held _ => 1
def uptoBulkAll {H : Type} : List (DataW H) → Nat
  | [] => 0
  | d :: r => uptoBulk d + uptoBulkAll r
def uptoBulkEntries {H : Type} : List (Lit × DataW H) → Nat
  | [] => 0
  | x :: r => uptoBulkEntry x + uptoBulkEntries r
def uptoBulkEntry {H : Type} : Lit × DataW H → Nat
  | (.string bytes, d) => bytes.length + uptoBulk d + 1
  | (_, d) => uptoBulk d + 1
 end
def uptoSmall : (H : Type) → List (DataW H) → Bool := fun _ ds => decide (uptoBulkAll ds ≤ 1048576)
def OpenSpec.upto (s : _root_.Go.ChangeSpec) : _root_.Go.OpenSpec := { _root_.Go.OpenSpec.ofChange s with cond := some uptoSmall }

/-- 'hypercubelaw2.CellAll', WHERE WHAT IT READS IS OF BULK AT MOST 1048576: true; the input reads as it did. -/
def cellAllUptoRow : OpenClaim := { program := "ytbkcclmhgnplcaadoor", sum := "42b34ca579db8fa007b8ccd2053cdc1d2bc9c47591a1a0356ed9c8d44fba46e7", func := "hypercube/hypercubelaw2.CellAll", spec := "cellAll", unfollowed := true, recurses := true, named := ["math/bits.deBruijn32tab", "math/bits.deBruijn64tab"], apart := false, laid := [("math/bits.deBruijn32tab", laid_math_bits_deBruijn32tab), ("math/bits.deBruijn64tab", laid_math_bits_deBruijn64tab)], narrowed := true }
def CellAllUptoSaid : Prop := cellAllUptoRow.holds Tryd.pinned (OpenSpec.upto cellAllSpec)

/-- 'hypercubelaw2.CellLess', WHERE WHAT IT READS IS OF BULK AT MOST 1048576: true; the input reads as it did. -/
def cellLessUptoRow : OpenClaim := { program := "ytbkcclmhgnplcaadoor", sum := "42b34ca579db8fa007b8ccd2053cdc1d2bc9c47591a1a0356ed9c8d44fba46e7", func := "hypercube/hypercubelaw2.CellLess", spec := "cellLess", unfollowed := true, recurses := true, named := ["math/bits.deBruijn32tab", "math/bits.deBruijn64tab"], apart := false, laid := [("math/bits.deBruijn32tab", laid_math_bits_deBruijn32tab), ("math/bits.deBruijn64tab", laid_math_bits_deBruijn64tab)], narrowed := true }
def CellLessUptoSaid : Prop := cellLessUptoRow.holds Tryd.pinned (OpenSpec.upto cellLessSpec)

/-- 'hypercubelaw2.CellJoins', WHERE WHAT IT READS IS OF BULK AT MOST 1048576: true; the input reads as it did. -/
def cellJoinsUptoRow : OpenClaim := { program := "ytbkcclmhgnplcaadoor", sum := "42b34ca579db8fa007b8ccd2053cdc1d2bc9c47591a1a0356ed9c8d44fba46e7", func := "hypercube/hypercubelaw2.CellJoins", spec := "cellJoins", unfollowed := true, recurses := true, named := ["math/bits.deBruijn32tab", "math/bits.deBruijn64tab"], apart := false, laid := [("math/bits.deBruijn32tab", laid_math_bits_deBruijn32tab), ("math/bits.deBruijn64tab", laid_math_bits_deBruijn64tab)], narrowed := true }
def CellJoinsUptoSaid : Prop := cellJoinsUptoRow.holds Tryd.pinned (OpenSpec.upto cellJoinsSpec)

/-- 'hypercubelaw2.CellGroups', WHERE WHAT IT READS IS OF BULK AT MOST 1048576: true; the input reads as it did. -/
def cellGroupsUptoRow : OpenClaim := { program := "ytbkcclmhgnplcaadoor", sum := "42b34ca579db8fa007b8ccd2053cdc1d2bc9c47591a1a0356ed9c8d44fba46e7", func := "hypercube/hypercubelaw2.CellGroups", spec := "cellGroups", unfollowed := true, recurses := true, named := ["math/bits.deBruijn32tab", "math/bits.deBruijn64tab"], apart := false, laid := [("math/bits.deBruijn32tab", laid_math_bits_deBruijn32tab), ("math/bits.deBruijn64tab", laid_math_bits_deBruijn64tab)], narrowed := true }
def CellGroupsUptoSaid : Prop := cellGroupsUptoRow.holds Tryd.pinned (OpenSpec.upto cellGroupsSpec)

/-- 'hypercubelaw2.CellNarrows', WHERE WHAT IT READS IS OF BULK AT MOST 1048576: true; the input reads as it did. -/
def cellNarrowsUptoRow : OpenClaim := { program := "ytbkcclmhgnplcaadoor", sum := "42b34ca579db8fa007b8ccd2053cdc1d2bc9c47591a1a0356ed9c8d44fba46e7", func := "hypercube/hypercubelaw2.CellNarrows", spec := "cellNarrows", unfollowed := true, recurses := true, named := ["math/bits.deBruijn32tab", "math/bits.deBruijn64tab"], apart := false, laid := [("math/bits.deBruijn32tab", laid_math_bits_deBruijn32tab), ("math/bits.deBruijn64tab", laid_math_bits_deBruijn64tab)], narrowed := true }
def CellNarrowsUptoSaid : Prop := cellNarrowsUptoRow.holds Tryd.pinned (OpenSpec.upto cellNarrowsSpec)

/-- 'hypercubelaw2.CellBack', WHERE WHAT IT READS IS OF BULK AT MOST 1048576: true; the input reads as it did. -/
def cellBackUptoRow : OpenClaim := { program := "ytbkcclmhgnplcaadoor", sum := "42b34ca579db8fa007b8ccd2053cdc1d2bc9c47591a1a0356ed9c8d44fba46e7", func := "hypercube/hypercubelaw2.CellBack", spec := "cellBack", unfollowed := true, recurses := true, named := ["math/bits.deBruijn32tab", "math/bits.deBruijn64tab"], apart := false, laid := [("math/bits.deBruijn32tab", laid_math_bits_deBruijn32tab), ("math/bits.deBruijn64tab", laid_math_bits_deBruijn64tab)], narrowed := true }
def CellBackUptoSaid : Prop := cellBackUptoRow.holds Tryd.pinned (OpenSpec.upto cellBackSpec)

/-- 'hypercubelaw2.CellReads', WHERE WHAT IT READS IS OF BULK AT MOST 1048576: true; the input reads as it did. -/
def cellReadsUptoRow : OpenClaim := { program := "ytbkcclmhgnplcaadoor", sum := "42b34ca579db8fa007b8ccd2053cdc1d2bc9c47591a1a0356ed9c8d44fba46e7", func := "hypercube/hypercubelaw2.CellReads", spec := "cellReads", unfollowed := true, recurses := true, named := ["math/bits.deBruijn32tab", "math/bits.deBruijn64tab"], apart := false, laid := [("math/bits.deBruijn32tab", laid_math_bits_deBruijn32tab), ("math/bits.deBruijn64tab", laid_math_bits_deBruijn64tab)], narrowed := true }
def CellReadsUptoSaid : Prop := cellReadsUptoRow.holds Tryd.pinned (OpenSpec.upto cellReadsSpec)

/-- 'hypercubelaw2.CellKnown', WHERE WHAT IT READS IS OF BULK AT MOST 1048576: true; the input reads as it did. -/
def cellKnownUptoRow : OpenClaim := { program := "ytbkcclmhgnplcaadoor", sum := "42b34ca579db8fa007b8ccd2053cdc1d2bc9c47591a1a0356ed9c8d44fba46e7", func := "hypercube/hypercubelaw2.CellKnown", spec := "cellKnown", unfollowed := true, recurses := true, named := ["math/bits.deBruijn32tab", "math/bits.deBruijn64tab"], apart := false, laid := [("math/bits.deBruijn32tab", laid_math_bits_deBruijn32tab), ("math/bits.deBruijn64tab", laid_math_bits_deBruijn64tab)], narrowed := true }
def CellKnownUptoSaid : Prop := cellKnownUptoRow.holds Tryd.pinned (OpenSpec.upto cellKnownSpec)

/-- 'hypercubelaw2.CellOwn', WHERE WHAT IT READS IS OF BULK AT MOST 1048576: true; the input reads as it did. -/
def cellOwnUptoRow : OpenClaim := { program := "ytbkcclmhgnplcaadoor", sum := "42b34ca579db8fa007b8ccd2053cdc1d2bc9c47591a1a0356ed9c8d44fba46e7", func := "hypercube/hypercubelaw2.CellOwn", spec := "cellOwn", unfollowed := true, recurses := true, named := ["math/bits.deBruijn32tab", "math/bits.deBruijn64tab"], apart := false, laid := [("math/bits.deBruijn32tab", laid_math_bits_deBruijn32tab), ("math/bits.deBruijn64tab", laid_math_bits_deBruijn64tab)], narrowed := true }
def CellOwnUptoSaid : Prop := cellOwnUptoRow.holds Tryd.pinned (OpenSpec.upto cellOwnSpec)

/-- 'hypercubelaw2.CellParts', WHERE WHAT IT READS IS OF BULK AT MOST 1048576: true; the input reads as it did. -/
def cellPartsUptoRow : OpenClaim := { program := "ytbkcclmhgnplcaadoor", sum := "42b34ca579db8fa007b8ccd2053cdc1d2bc9c47591a1a0356ed9c8d44fba46e7", func := "hypercube/hypercubelaw2.CellParts", spec := "cellParts", unfollowed := true, recurses := true, named := ["math/bits.deBruijn32tab", "math/bits.deBruijn64tab"], apart := false, laid := [("math/bits.deBruijn32tab", laid_math_bits_deBruijn32tab), ("math/bits.deBruijn64tab", laid_math_bits_deBruijn64tab)], narrowed := true }
def CellPartsUptoSaid : Prop := cellPartsUptoRow.holds Tryd.pinned (OpenSpec.upto cellPartsSpec)

/-- 'hypercubelaw2.CellTotals', WHERE WHAT IT READS IS OF BULK AT MOST 1048576: true; the input reads as it did. -/
def cellTotalsUptoRow : OpenClaim := { program := "ytbkcclmhgnplcaadoor", sum := "42b34ca579db8fa007b8ccd2053cdc1d2bc9c47591a1a0356ed9c8d44fba46e7", func := "hypercube/hypercubelaw2.CellTotals", spec := "cellTotals", unfollowed := true, recurses := true, named := ["math/bits.deBruijn32tab", "math/bits.deBruijn64tab"], apart := false, laid := [("math/bits.deBruijn32tab", laid_math_bits_deBruijn32tab), ("math/bits.deBruijn64tab", laid_math_bits_deBruijn64tab)], narrowed := true }
def CellTotalsUptoSaid : Prop := cellTotalsUptoRow.holds Tryd.pinned (OpenSpec.upto cellTotalsSpec)

/-- 'hypercubelaw2.CellWays', WHERE WHAT IT READS IS OF BULK AT MOST 1048576: true; the input reads as it did. -/
def cellWaysUptoRow : OpenClaim := { program := "ytbkcclmhgnplcaadoor", sum := "42b34ca579db8fa007b8ccd2053cdc1d2bc9c47591a1a0356ed9c8d44fba46e7", func := "hypercube/hypercubelaw2.CellWays", spec := "cellWays", unfollowed := true, recurses := true, named := ["math/bits.deBruijn32tab", "math/bits.deBruijn64tab"], apart := false, laid := [("math/bits.deBruijn32tab", laid_math_bits_deBruijn32tab), ("math/bits.deBruijn64tab", laid_math_bits_deBruijn64tab)], narrowed := true }
def CellWaysUptoSaid : Prop := cellWaysUptoRow.holds Tryd.pinned (OpenSpec.upto cellWaysSpec)

/-- 'hypercubelaw2.CellSorts', WHERE WHAT IT READS IS OF BULK AT MOST 1048576: true; the input reads as it did. -/
def cellSortsUptoRow : OpenClaim := { program := "ytbkcclmhgnplcaadoor", sum := "42b34ca579db8fa007b8ccd2053cdc1d2bc9c47591a1a0356ed9c8d44fba46e7", func := "hypercube/hypercubelaw2.CellSorts", spec := "cellSorts", unfollowed := true, recurses := true, named := ["math/bits.deBruijn32tab", "math/bits.deBruijn64tab"], apart := false, laid := [("math/bits.deBruijn32tab", laid_math_bits_deBruijn32tab), ("math/bits.deBruijn64tab", laid_math_bits_deBruijn64tab)], narrowed := true }
def CellSortsUptoSaid : Prop := cellSortsUptoRow.holds Tryd.pinned (OpenSpec.upto cellSortsSpec)

end Rows
end Go.Proofs.YtbkcclmhgnplcaaDoor
