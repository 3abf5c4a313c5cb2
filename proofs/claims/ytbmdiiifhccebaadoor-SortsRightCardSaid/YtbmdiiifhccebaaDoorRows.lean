/-
  NARROWER THAN 'FOR EVERY INPUT', by the rows' own cells (each row's printed sentence says how): SortsRight: laid · SortsScans: laid · SortsLevels: laid · SortsCost: laid · SortsKnown: laid · SortsMany: laid.
  DERIVED. THE GIVEN ROWS OF THIS SEAT. 6 by the template 'for every input the law returns true; each argument reads behind the call as it read before'; 0 by the template 'total and deterministic' (their statements: YtbmdiiifhccebaaDoorTotals.lean).
  GIVEN WITH THE SEED: the statements are not yours to turn. If you find one false, say at which input.
  Laid BY PROGRAM, IN A SANDBOX (cutbox-rows.mjs): the forced cells as the released guide's own fill.sh prints them over the translation 2a919f8caa5caf00… (all of the seat's roots in one cut). By AI agents, Wed Nov 11 2026. No macro, syntax, notation, axiom, sorry.
-/
import Derived.Test.YtbmdiiifhccebaaDoorChecked
import GoSem.Claim
import GoSem.ClaimJoined
import GoSem.ClaimMapViews
import Derived.JoinedTies
import Derived.KernelRfl
namespace Go.Proofs.YtbmdiiifhccebaaDoor
/- THE CELL 'sum', in the pinned program and in every row, IS THE sha256 OF THE DUMP (.gsa) THAT YtbmdiiifhccebaaDoorProg.lean LOADS. Nothing in Lean hashes anything: it is a label: what it is worth is what the hold of that sum in a sandbox is worth. -/
noncomputable def Tryd.pinned : Pinned := { name := "ytbmdiiifhccebaadoor", sum := "2a919f8caa5caf0038e25f29dd733ada1789bfa0470352f419d78602c8a63b4d", checked := Tryd.checked }
namespace Rows
def none {H : Type} : Left H := { results := [], args := [] }

/- WHAT THE LISTED PACKAGE-LEVEL VARIABLES READ AS WHEN THE CALL BEGINS. Each datum BY PROGRAM (the guide's laid-datum.mjs) off the statement by which the dump's own 'gosem.cut.vars' lays the variable. In a bare row this is a premise. The card (YtbmdiiifhccebaaDoorCards.lean) ties it to the program's text. -/
def laid_math_bits_deBruijn32tab {H : Type} : DataW H := .agg [.lit (.int .u8 0), .lit (.int .u8 1), .lit (.int .u8 28), .lit (.int .u8 2), .lit (.int .u8 29), .lit (.int .u8 14), .lit (.int .u8 24), .lit (.int .u8 3), .lit (.int .u8 30), .lit (.int .u8 22), .lit (.int .u8 20), .lit (.int .u8 15), .lit (.int .u8 25), .lit (.int .u8 17), .lit (.int .u8 4), .lit (.int .u8 8), .lit (.int .u8 31), .lit (.int .u8 27), .lit (.int .u8 13), .lit (.int .u8 23), .lit (.int .u8 21), .lit (.int .u8 19), .lit (.int .u8 16), .lit (.int .u8 7), .lit (.int .u8 26), .lit (.int .u8 12), .lit (.int .u8 18), .lit (.int .u8 6), .lit (.int .u8 11), .lit (.int .u8 5), .lit (.int .u8 10), .lit (.int .u8 9)]
def laid_math_bits_deBruijn64tab {H : Type} : DataW H := .agg [.lit (.int .u8 0), .lit (.int .u8 1), .lit (.int .u8 56), .lit (.int .u8 2), .lit (.int .u8 57), .lit (.int .u8 49), .lit (.int .u8 28), .lit (.int .u8 3), .lit (.int .u8 61), .lit (.int .u8 58), .lit (.int .u8 42), .lit (.int .u8 50), .lit (.int .u8 38), .lit (.int .u8 29), .lit (.int .u8 17), .lit (.int .u8 4), .lit (.int .u8 62), .lit (.int .u8 47), .lit (.int .u8 59), .lit (.int .u8 36), .lit (.int .u8 45), .lit (.int .u8 43), .lit (.int .u8 51), .lit (.int .u8 22), .lit (.int .u8 53), .lit (.int .u8 39), .lit (.int .u8 33), .lit (.int .u8 30), .lit (.int .u8 24), .lit (.int .u8 18), .lit (.int .u8 12), .lit (.int .u8 5), .lit (.int .u8 63), .lit (.int .u8 55), .lit (.int .u8 48), .lit (.int .u8 27), .lit (.int .u8 60), .lit (.int .u8 41), .lit (.int .u8 37), .lit (.int .u8 16), .lit (.int .u8 46), .lit (.int .u8 35), .lit (.int .u8 44), .lit (.int .u8 21), .lit (.int .u8 52), .lit (.int .u8 32), .lit (.int .u8 23), .lit (.int .u8 11), .lit (.int .u8 54), .lit (.int .u8 26), .lit (.int .u8 40), .lit (.int .u8 15), .lit (.int .u8 34), .lit (.int .u8 20), .lit (.int .u8 31), .lit (.int .u8 10), .lit (.int .u8 25), .lit (.int .u8 14), .lit (.int .u8 19), .lit (.int .u8 9), .lit (.int .u8 13), .lit (.int .u8 8), .lit (.int .u8 7), .lit (.int .u8 6)]

/-- 'hypercubelaw10.SortsRight': WHATEVER THE INPUT: true; the input reads as it did. -/
def sortsRightSpec : ChangeSpec := { name := "sortsRight", fn := fun _ => fun
  | [d1, d2, d3, d4, d5, d6] => { results := [.lit (.bool true)], args := [d1, d2, d3, d4, d5, d6] }
  | _ => none }
def sortsRightRow : OpenClaim := { program := "ytbmdiiifhccebaadoor", sum := "2a919f8caa5caf0038e25f29dd733ada1789bfa0470352f419d78602c8a63b4d", func := "hypercube/hypercubelaw10.SortsRight", spec := "sortsRight", unfollowed := true, recurses := true, named := ["math/bits.deBruijn32tab", "math/bits.deBruijn64tab"], apart := false, laid := [("math/bits.deBruijn32tab", laid_math_bits_deBruijn32tab), ("math/bits.deBruijn64tab", laid_math_bits_deBruijn64tab)] }
def SortsRightSaid : Prop := sortsRightRow.holds Tryd.pinned (OpenSpec.ofChange sortsRightSpec)

/-- ITS FALSE NEIGHBOUR: 'it returns false'. Refute it at one input. -/
def sortsRightWrong : ChangeSpec := { name := "sortsRight", fn := fun _ => fun
  | [d1, d2, d3, d4, d5, d6] => { results := [.lit (.bool false)], args := [d1, d2, d3, d4, d5, d6] }
  | _ => none }
def SortsRightWrongFalsely : Prop := sortsRightRow.holds Tryd.pinned (OpenSpec.ofChange sortsRightWrong)

/-- 'hypercubelaw10.SortsScans': WHATEVER THE INPUT: true; the input reads as it did. -/
def sortsScansSpec : ChangeSpec := { name := "sortsScans", fn := fun _ => fun
  | [d1, d2, d3] => { results := [.lit (.bool true)], args := [d1, d2, d3] }
  | _ => none }
def sortsScansRow : OpenClaim := { program := "ytbmdiiifhccebaadoor", sum := "2a919f8caa5caf0038e25f29dd733ada1789bfa0470352f419d78602c8a63b4d", func := "hypercube/hypercubelaw10.SortsScans", spec := "sortsScans", unfollowed := true, recurses := true, named := ["math/bits.deBruijn32tab", "math/bits.deBruijn64tab"], apart := false, laid := [("math/bits.deBruijn32tab", laid_math_bits_deBruijn32tab), ("math/bits.deBruijn64tab", laid_math_bits_deBruijn64tab)] }
def SortsScansSaid : Prop := sortsScansRow.holds Tryd.pinned (OpenSpec.ofChange sortsScansSpec)

/-- ITS FALSE NEIGHBOUR: 'it returns false'. Refute it at one input. -/
def sortsScansWrong : ChangeSpec := { name := "sortsScans", fn := fun _ => fun
  | [d1, d2, d3] => { results := [.lit (.bool false)], args := [d1, d2, d3] }
  | _ => none }
def SortsScansWrongFalsely : Prop := sortsScansRow.holds Tryd.pinned (OpenSpec.ofChange sortsScansWrong)

/-- 'hypercubelaw10.SortsLevels': WHATEVER THE INPUT: true; the input reads as it did. -/
def sortsLevelsSpec : ChangeSpec := { name := "sortsLevels", fn := fun _ => fun
  | [d1, d2, d3] => { results := [.lit (.bool true)], args := [d1, d2, d3] }
  | _ => none }
def sortsLevelsRow : OpenClaim := { program := "ytbmdiiifhccebaadoor", sum := "2a919f8caa5caf0038e25f29dd733ada1789bfa0470352f419d78602c8a63b4d", func := "hypercube/hypercubelaw10.SortsLevels", spec := "sortsLevels", unfollowed := true, recurses := true, named := ["math/bits.deBruijn32tab", "math/bits.deBruijn64tab"], apart := false, laid := [("math/bits.deBruijn32tab", laid_math_bits_deBruijn32tab), ("math/bits.deBruijn64tab", laid_math_bits_deBruijn64tab)] }
def SortsLevelsSaid : Prop := sortsLevelsRow.holds Tryd.pinned (OpenSpec.ofChange sortsLevelsSpec)

/-- ITS FALSE NEIGHBOUR: 'it returns false'. Refute it at one input. -/
def sortsLevelsWrong : ChangeSpec := { name := "sortsLevels", fn := fun _ => fun
  | [d1, d2, d3] => { results := [.lit (.bool false)], args := [d1, d2, d3] }
  | _ => none }
def SortsLevelsWrongFalsely : Prop := sortsLevelsRow.holds Tryd.pinned (OpenSpec.ofChange sortsLevelsWrong)

/-- 'hypercubelaw10.SortsCost': WHATEVER THE INPUT: true; the input reads as it did. -/
def sortsCostSpec : ChangeSpec := { name := "sortsCost", fn := fun _ => fun
  | [d1, d2, d3, d4, d5] => { results := [.lit (.bool true)], args := [d1, d2, d3, d4, d5] }
  | _ => none }
def sortsCostRow : OpenClaim := { program := "ytbmdiiifhccebaadoor", sum := "2a919f8caa5caf0038e25f29dd733ada1789bfa0470352f419d78602c8a63b4d", func := "hypercube/hypercubelaw10.SortsCost", spec := "sortsCost", unfollowed := true, recurses := true, named := ["math/bits.deBruijn32tab", "math/bits.deBruijn64tab"], apart := false, laid := [("math/bits.deBruijn32tab", laid_math_bits_deBruijn32tab), ("math/bits.deBruijn64tab", laid_math_bits_deBruijn64tab)] }
def SortsCostSaid : Prop := sortsCostRow.holds Tryd.pinned (OpenSpec.ofChange sortsCostSpec)

/-- ITS FALSE NEIGHBOUR: 'it returns false'. Refute it at one input. -/
def sortsCostWrong : ChangeSpec := { name := "sortsCost", fn := fun _ => fun
  | [d1, d2, d3, d4, d5] => { results := [.lit (.bool false)], args := [d1, d2, d3, d4, d5] }
  | _ => none }
def SortsCostWrongFalsely : Prop := sortsCostRow.holds Tryd.pinned (OpenSpec.ofChange sortsCostWrong)

/-- 'hypercubelaw10.SortsKnown': WHATEVER THE INPUT: true; the input reads as it did. -/
def sortsKnownSpec : ChangeSpec := { name := "sortsKnown", fn := fun _ => fun
  | [d] => { results := [.lit (.bool true)], args := [d] }
  | _ => none }
def sortsKnownRow : OpenClaim := { program := "ytbmdiiifhccebaadoor", sum := "2a919f8caa5caf0038e25f29dd733ada1789bfa0470352f419d78602c8a63b4d", func := "hypercube/hypercubelaw10.SortsKnown", spec := "sortsKnown", unfollowed := true, recurses := true, named := ["math/bits.deBruijn32tab", "math/bits.deBruijn64tab"], apart := false, laid := [("math/bits.deBruijn32tab", laid_math_bits_deBruijn32tab), ("math/bits.deBruijn64tab", laid_math_bits_deBruijn64tab)] }
def SortsKnownSaid : Prop := sortsKnownRow.holds Tryd.pinned (OpenSpec.ofChange sortsKnownSpec)

/-- ITS FALSE NEIGHBOUR: 'it returns false'. Refute it at one input. -/
def sortsKnownWrong : ChangeSpec := { name := "sortsKnown", fn := fun _ => fun
  | [d] => { results := [.lit (.bool false)], args := [d] }
  | _ => none }
def SortsKnownWrongFalsely : Prop := sortsKnownRow.holds Tryd.pinned (OpenSpec.ofChange sortsKnownWrong)

/-- 'hypercubelaw10.SortsMany': WHATEVER THE INPUT: true; the input reads as it did. -/
def sortsManySpec : ChangeSpec := { name := "sortsMany", fn := fun _ => fun
  | [d1, d2, d3] => { results := [.lit (.bool true)], args := [d1, d2, d3] }
  | _ => none }
def sortsManyRow : OpenClaim := { program := "ytbmdiiifhccebaadoor", sum := "2a919f8caa5caf0038e25f29dd733ada1789bfa0470352f419d78602c8a63b4d", func := "hypercube/hypercubelaw10.SortsMany", spec := "sortsMany", unfollowed := true, recurses := true, named := ["math/bits.deBruijn32tab", "math/bits.deBruijn64tab"], apart := false, laid := [("math/bits.deBruijn32tab", laid_math_bits_deBruijn32tab), ("math/bits.deBruijn64tab", laid_math_bits_deBruijn64tab)] }
def SortsManySaid : Prop := sortsManyRow.holds Tryd.pinned (OpenSpec.ofChange sortsManySpec)

/-- ITS FALSE NEIGHBOUR: 'it returns false'. Refute it at one input. -/
def sortsManyWrong : ChangeSpec := { name := "sortsMany", fn := fun _ => fun
  | [d1, d2, d3] => { results := [.lit (.bool false)], args := [d1, d2, d3] }
  | _ => none }
def SortsManyWrongFalsely : Prop := sortsManyRow.holds Tryd.pinned (OpenSpec.ofChange sortsManyWrong)

/- THE SECOND FORM. 'bulk': how many values and letters a reading holds, each counted each time it is reached (what is shared counts as often as it is met; a slice's spare places count too). A statement '..UptoSaid' is the law's where the arguments, and the package variables that the reading takes, are together of bulk at most 1048576: NARROWER than '..Said'. Prove '..Said' where nothing that the law and all that it calls make is longer than what came in: it says more and counts as full. Else prove '..UptoSaid'. A law counts once. -/
mutual
def uptoBulk {H : Type} : DataW H → Nat
  | .lit (.string bytes) => bytes.length + 1
  | .lit _ => 1
  | .nil => 1
  | .ptr d => uptoBulk d + 1
  | .slice elems spare => uptoBulkAll elems + uptoBulkAll spare + 1
  | .agg parts => uptoBulkAll parts + 1
  | .iface _ d => uptoBulk d + 1
  | .map entries => uptoBulkEntries entries + 1
  | .held _ => 1
def uptoBulkAll {H : Type} : List (DataW H) → Nat
  | [] => 0
  | d :: r => uptoBulk d + uptoBulkAll r
def uptoBulkEntries {H : Type} : List (Lit × DataW H) → Nat
  | [] => 0
  | x :: r => uptoBulkEntry x + uptoBulkEntries r
def uptoBulkEntry {H : Type} : Lit × DataW H → Nat
  | (.string bytes, d) => bytes.length + uptoBulk d + 1
  | (_, d) => uptoBulk d + 1
 end
def uptoSmall : (H : Type) → List (DataW H) → Bool := fun _ ds => decide (uptoBulkAll ds ≤ 1048576)
def OpenSpec.upto (s : _root_.Go.ChangeSpec) : _root_.Go.OpenSpec := { _root_.Go.OpenSpec.ofChange s with cond := some uptoSmall }

/-- 'hypercubelaw10.SortsRight', WHERE WHAT IT READS IS OF BULK AT MOST 1048576: true; the input reads as it did. -/
def sortsRightUptoRow : OpenClaim := { program := "ytbmdiiifhccebaadoor", sum := "2a919f8caa5caf0038e25f29dd733ada1789bfa0470352f419d78602c8a63b4d", func := "hypercube/hypercubelaw10.SortsRight", spec := "sortsRight", unfollowed := true, recurses := true, named := ["math/bits.deBruijn32tab", "math/bits.deBruijn64tab"], apart := false, laid := [("math/bits.deBruijn32tab", laid_math_bits_deBruijn32tab), ("math/bits.deBruijn64tab", laid_math_bits_deBruijn64tab)], narrowed := true }
def SortsRightUptoSaid : Prop := sortsRightUptoRow.holds Tryd.pinned (OpenSpec.upto sortsRightSpec)

/-- 'hypercubelaw10.SortsScans', WHERE WHAT IT READS IS OF BULK AT MOST 1048576: true; the input reads as it did. -/
def sortsScansUptoRow : OpenClaim := { program := "ytbmdiiifhccebaadoor", sum := "2a919f8caa5caf0038e25f29dd733ada1789bfa0470352f419d78602c8a63b4d", func := "hypercube/hypercubelaw10.SortsScans", spec := "sortsScans", unfollowed := true, recurses := true, named := ["math/bits.deBruijn32tab", "math/bits.deBruijn64tab"], apart := false, laid := [("math/bits.deBruijn32tab", laid_math_bits_deBruijn32tab), ("math/bits.deBruijn64tab", laid_math_bits_deBruijn64tab)], narrowed := true }
def SortsScansUptoSaid : Prop := sortsScansUptoRow.holds Tryd.pinned (OpenSpec.upto sortsScansSpec)

/-- 'hypercubelaw10.SortsLevels', WHERE WHAT IT READS IS OF BULK AT MOST 1048576: true; the input reads as it did. -/
def sortsLevelsUptoRow : OpenClaim := { program := "ytbmdiiifhccebaadoor", sum := "2a919f8caa5caf0038e25f29dd733ada1789bfa0470352f419d78602c8a63b4d", func := "hypercube/hypercubelaw10.SortsLevels", spec := "sortsLevels", unfollowed := true, recurses := true, named := ["math/bits.deBruijn32tab", "math/bits.deBruijn64tab"], apart := false, laid := [("math/bits.deBruijn32tab", laid_math_bits_deBruijn32tab), ("math/bits.deBruijn64tab", laid_math_bits_deBruijn64tab)], narrowed := true }
def SortsLevelsUptoSaid : Prop := sortsLevelsUptoRow.holds Tryd.pinned (OpenSpec.upto sortsLevelsSpec)

/-- 'hypercubelaw10.SortsCost', WHERE WHAT IT READS IS OF BULK AT MOST 1048576: true; the input reads as it did. -/
def sortsCostUptoRow : OpenClaim := { program := "ytbmdiiifhccebaadoor", sum := "2a919f8caa5caf0038e25f29dd733ada1789bfa0470352f419d78602c8a63b4d", func := "hypercube/hypercubelaw10.SortsCost", spec := "sortsCost", unfollowed := true, recurses := true, named := ["math/bits.deBruijn32tab", "math/bits.deBruijn64tab"], apart := false, laid := [("math/bits.deBruijn32tab", laid_math_bits_deBruijn32tab), ("math/bits.deBruijn64tab", laid_math_bits_deBruijn64tab)], narrowed := true }
def SortsCostUptoSaid : Prop := sortsCostUptoRow.holds Tryd.pinned (OpenSpec.upto sortsCostSpec)

/-- 'hypercubelaw10.SortsKnown', WHERE WHAT IT READS IS OF BULK AT MOST 1048576: true; the input reads as it did. -/
def sortsKnownUptoRow : OpenClaim := { program := "ytbmdiiifhccebaadoor", sum := "2a919f8caa5caf0038e25f29dd733ada1789bfa0470352f419d78602c8a63b4d", func := "hypercube/hypercubelaw10.SortsKnown", spec := "sortsKnown", unfollowed := true, recurses := true, named := ["math/bits.deBruijn32tab", "math/bits.deBruijn64tab"], apart := false, laid := [("math/bits.deBruijn32tab", laid_math_bits_deBruijn32tab), ("math/bits.deBruijn64tab", laid_math_bits_deBruijn64tab)], narrowed := true }
def SortsKnownUptoSaid : Prop := sortsKnownUptoRow.holds Tryd.pinned (OpenSpec.upto sortsKnownSpec)

/-- 'hypercubelaw10.SortsMany', WHERE WHAT IT READS IS OF BULK AT MOST 1048576: true; the input reads as it did. -/
def sortsManyUptoRow : OpenClaim := { program := "ytbmdiiifhccebaadoor", sum := "2a919f8caa5caf0038e25f29dd733ada1789bfa0470352f419d78602c8a63b4d", func := "hypercube/hypercubelaw10.SortsMany", spec := "sortsMany", unfollowed := true, recurses := true, named := ["math/bits.deBruijn32tab", "math/bits.deBruijn64tab"], apart := false, laid := [("math/bits.deBruijn32tab", laid_math_bits_deBruijn32tab), ("math/bits.deBruijn64tab", laid_math_bits_deBruijn64tab)], narrowed := true }
def SortsManyUptoSaid : Prop := sortsManyUptoRow.holds Tryd.pinned (OpenSpec.upto sortsManySpec)

end Rows
end Go.Proofs.YtbmdiiifhccebaaDoor
