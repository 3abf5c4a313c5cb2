/-
  NARROWER THAN 'FOR EVERY INPUT', by the rows' own cells (each row's printed sentence says how): RunsAll: laid · RunsBounds: laid · RunsTogether: laid · RunsOne: laid · RunsSorted: laid · RunsOwn: laid · RunsOnly: laid · RunsMore: laid · RunsCounts: laid.
  DERIVED. THE GIVEN ROWS OF THIS SEAT. 9 by the template 'for every input the law returns true; each argument reads behind the call as it read before'; 0 by the template 'total and deterministic' (their statements: YtaaciedelfaekaaDoorTotals.lean).
  GIVEN WITH THE SEED: the statements are not yours to turn. If you find one false, say at which input.
  Laid BY PROGRAM, IN A SANDBOX (cutbox-rows.mjs): the forced cells as the released guide's own fill.sh prints them over the translation ce17a5bf59f9234e… (all of the seat's roots in one cut). By AI agents, Wed Nov 11 2026. No macro, syntax, notation, axiom, sorry.
-/
import Derived.Test.YtaaciedelfaekaaDoorChecked
import GoSem.Claim
import GoSem.ClaimJoined
import GoSem.ClaimMapViews
import Derived.JoinedTies
import Derived.KernelRfl
namespace Go.Proofs.YtaaciedelfaekaaDoor
/- THE CELL 'sum', in the pinned program and in every row, IS THE sha256 OF THE DUMP (.gsa) THAT YtaaciedelfaekaaDoorProg.lean LOADS. Nothing in Lean hashes anything: it is a label: what it is worth is what the hold of that sum in a sandbox is worth. -/
noncomputable def Tryd.pinned : Pinned := { name := "ytaaciedelfaekaadoor", sum := "ce17a5bf59f9234e83e9bbef79f76767f6700cfd5e13eb8c91b48814a1a6eb75", checked := Tryd.checked }
namespace Rows
def none {H : Type} : Left H := { results := [], args := [] }

/- WHAT THE LISTED PACKAGE-LEVEL VARIABLES READ AS WHEN THE CALL BEGINS. Each datum BY PROGRAM (the guide's laid-datum.mjs) off the statement by which the dump's own 'gosem.cut.vars' lays the variable. In a bare row this is a premise. The card (YtaaciedelfaekaaDoorCards.lean) ties it to the program's text. -/
def laid_math_bits_deBruijn32tab {H : Type} : DataW H := .agg [.lit (.int .u8 0), .lit (.int .u8 1), .lit (.int .u8 28), .lit (.int .u8 2), .lit (.int .u8 29), .lit (.int .u8 14), .lit (.int .u8 24), .lit (.int .u8 3), .lit (.int .u8 30), .lit (.int .u8 22), .lit (.int .u8 20), .lit (.int .u8 15), .lit (.int .u8 25), .lit (.int .u8 17), .lit (.int .u8 4), .lit (.int .u8 8), .lit (.int .u8 31), .lit (.int .u8 27), .lit (.int .u8 13), .lit (.int .u8 23), .lit (.int .u8 21), .lit (.int .u8 19), .lit (.int .u8 16), .lit (.int .u8 7), .lit (.int .u8 26), .lit (.int .u8 12), .lit (.int .u8 18), .lit (.int .u8 6), .lit (.int .u8 11), .lit (.int .u8 5), .lit (.int .u8 10), .lit (.int .u8 9)]
def laid_math_bits_deBruijn64tab {H : Type} : DataW H := .agg [.lit (.int .u8 0), .lit (.int .u8 1), .lit (.int .u8 56), .lit (.int .u8 2), .lit (.int .u8 57), .lit (.int .u8 49), .lit (.int .u8 28), .lit (.int .u8 3), .lit (.int .u8 61), .lit (.int .u8 58), .lit (.int .u8 42), .lit (.int .u8 50), .lit (.int .u8 38), .lit (.int .u8 29), .lit (.int .u8 17), .lit (.int .u8 4), .lit (.int .u8 62), .lit (.int .u8 47), .lit (.int .u8 59), .lit (.int .u8 36), .lit (.int .u8 45), .lit (.int .u8 43), .lit (.int .u8 51), .lit (.int .u8 22), .lit (.int .u8 53), .lit (.int .u8 39), .lit (.int .u8 33), .lit (.int .u8 30), .lit (.int .u8 24), .lit (.int .u8 18), .lit (.int .u8 12), .lit (.int .u8 5), .lit (.int .u8 63), .lit (.int .u8 55), .lit (.int .u8 48), .lit (.int .u8 27), .lit (.int .u8 60), .lit (.int .u8 41), .lit (.int .u8 37), .lit (.int .u8 16), .lit (.int .u8 46), .lit (.int .u8 35), .lit (.int .u8 44), .lit (.int .u8 21), .lit (.int .u8 52), .lit (.int .u8 32), .lit (.int .u8 23), .lit (.int .u8 11), .lit (.int .u8 54), .lit (.int .u8 26), .lit (.int .u8 40), .lit (.int .u8 15), .lit (.int .u8 34), .lit (.int .u8 20), .lit (.int .u8 31), .lit (.int .u8 10), .lit (.int .u8 25), .lit (.int .u8 14), .lit (.int .u8 19), .lit (.int .u8 9), .lit (.int .u8 13), .lit (.int .u8 8), .lit (.int .u8 7), .lit (.int .u8 6)]
def laid_internal_strconv_uint64pow10 {H : Type} : DataW H := .agg [.lit (.int .u64 1), .lit (.int .u64 10), .lit (.int .u64 100), .lit (.int .u64 1000), .lit (.int .u64 10000), .lit (.int .u64 100000), .lit (.int .u64 1000000), .lit (.int .u64 10000000), .lit (.int .u64 100000000), .lit (.int .u64 1000000000), .lit (.int .u64 10000000000), .lit (.int .u64 100000000000), .lit (.int .u64 1000000000000), .lit (.int .u64 10000000000000), .lit (.int .u64 100000000000000), .lit (.int .u64 1000000000000000), .lit (.int .u64 10000000000000000), .lit (.int .u64 100000000000000000), .lit (.int .u64 1000000000000000000), .lit (.int .u64 10000000000000000000)]

/-- 'hypercubelaw5.RunsAll': WHATEVER THE INPUT: true; the input reads as it did. -/
def runsAllSpec : ChangeSpec := { name := "runsAll", fn := fun _ => fun
  | [d1, d2, d3, d4, d5, d6] => { results := [.lit (.bool true)], args := [d1, d2, d3, d4, d5, d6] }
  | _ => none }
def runsAllRow : OpenClaim := { program := "ytaaciedelfaekaadoor", sum := "ce17a5bf59f9234e83e9bbef79f76767f6700cfd5e13eb8c91b48814a1a6eb75", func := "hypercube/hypercubelaw5.RunsAll", spec := "runsAll", unfollowed := true, recurses := true, named := ["internal/strconv.uint64pow10", "math/bits.deBruijn32tab", "math/bits.deBruijn64tab"], apart := false, laid := [("math/bits.deBruijn32tab", laid_math_bits_deBruijn32tab), ("math/bits.deBruijn64tab", laid_math_bits_deBruijn64tab), ("internal/strconv.uint64pow10", laid_internal_strconv_uint64pow10)] }
def RunsAllSaid : Prop := runsAllRow.holds Tryd.pinned (OpenSpec.ofChange runsAllSpec)

/-- ITS FALSE NEIGHBOUR: 'it returns false'. Refute it at one input. -/
def runsAllWrong : ChangeSpec := { name := "runsAll", fn := fun _ => fun
  | [d1, d2, d3, d4, d5, d6] => { results := [.lit (.bool false)], args := [d1, d2, d3, d4, d5, d6] }
  | _ => none }
def RunsAllWrongFalsely : Prop := runsAllRow.holds Tryd.pinned (OpenSpec.ofChange runsAllWrong)

/-- 'hypercubelaw5.RunsBounds': WHATEVER THE INPUT: true; the input reads as it did. -/
def runsBoundsSpec : ChangeSpec := { name := "runsBounds", fn := fun _ => fun
  | [d1, d2, d3, d4, d5, d6] => { results := [.lit (.bool true)], args := [d1, d2, d3, d4, d5, d6] }
  | _ => none }
def runsBoundsRow : OpenClaim := { program := "ytaaciedelfaekaadoor", sum := "ce17a5bf59f9234e83e9bbef79f76767f6700cfd5e13eb8c91b48814a1a6eb75", func := "hypercube/hypercubelaw5.RunsBounds", spec := "runsBounds", unfollowed := true, recurses := true, named := ["internal/strconv.uint64pow10", "math/bits.deBruijn32tab", "math/bits.deBruijn64tab"], apart := false, laid := [("math/bits.deBruijn32tab", laid_math_bits_deBruijn32tab), ("math/bits.deBruijn64tab", laid_math_bits_deBruijn64tab), ("internal/strconv.uint64pow10", laid_internal_strconv_uint64pow10)] }
def RunsBoundsSaid : Prop := runsBoundsRow.holds Tryd.pinned (OpenSpec.ofChange runsBoundsSpec)

/-- ITS FALSE NEIGHBOUR: 'it returns false'. Refute it at one input. -/
def runsBoundsWrong : ChangeSpec := { name := "runsBounds", fn := fun _ => fun
  | [d1, d2, d3, d4, d5, d6] => { results := [.lit (.bool false)], args := [d1, d2, d3, d4, d5, d6] }
  | _ => none }
def RunsBoundsWrongFalsely : Prop := runsBoundsRow.holds Tryd.pinned (OpenSpec.ofChange runsBoundsWrong)

/-- 'hypercubelaw5.RunsTogether': WHATEVER THE INPUT: true; the input reads as it did. -/
def runsTogetherSpec : ChangeSpec := { name := "runsTogether", fn := fun _ => fun
  | [d1, d2, d3, d4, d5, d6] => { results := [.lit (.bool true)], args := [d1, d2, d3, d4, d5, d6] }
  | _ => none }
def runsTogetherRow : OpenClaim := { program := "ytaaciedelfaekaadoor", sum := "ce17a5bf59f9234e83e9bbef79f76767f6700cfd5e13eb8c91b48814a1a6eb75", func := "hypercube/hypercubelaw5.RunsTogether", spec := "runsTogether", unfollowed := true, recurses := true, named := ["internal/strconv.uint64pow10", "math/bits.deBruijn32tab", "math/bits.deBruijn64tab"], apart := false, laid := [("math/bits.deBruijn32tab", laid_math_bits_deBruijn32tab), ("math/bits.deBruijn64tab", laid_math_bits_deBruijn64tab), ("internal/strconv.uint64pow10", laid_internal_strconv_uint64pow10)] }
def RunsTogetherSaid : Prop := runsTogetherRow.holds Tryd.pinned (OpenSpec.ofChange runsTogetherSpec)

/-- ITS FALSE NEIGHBOUR: 'it returns false'. Refute it at one input. -/
def runsTogetherWrong : ChangeSpec := { name := "runsTogether", fn := fun _ => fun
  | [d1, d2, d3, d4, d5, d6] => { results := [.lit (.bool false)], args := [d1, d2, d3, d4, d5, d6] }
  | _ => none }
def RunsTogetherWrongFalsely : Prop := runsTogetherRow.holds Tryd.pinned (OpenSpec.ofChange runsTogetherWrong)

/-- 'hypercubelaw5.RunsOne': WHATEVER THE INPUT: true; the input reads as it did. -/
def runsOneSpec : ChangeSpec := { name := "runsOne", fn := fun _ => fun
  | [d1, d2, d3, d4, d5, d6] => { results := [.lit (.bool true)], args := [d1, d2, d3, d4, d5, d6] }
  | _ => none }
def runsOneRow : OpenClaim := { program := "ytaaciedelfaekaadoor", sum := "ce17a5bf59f9234e83e9bbef79f76767f6700cfd5e13eb8c91b48814a1a6eb75", func := "hypercube/hypercubelaw5.RunsOne", spec := "runsOne", unfollowed := true, recurses := true, named := ["internal/strconv.uint64pow10", "math/bits.deBruijn32tab", "math/bits.deBruijn64tab"], apart := false, laid := [("math/bits.deBruijn32tab", laid_math_bits_deBruijn32tab), ("math/bits.deBruijn64tab", laid_math_bits_deBruijn64tab), ("internal/strconv.uint64pow10", laid_internal_strconv_uint64pow10)] }
def RunsOneSaid : Prop := runsOneRow.holds Tryd.pinned (OpenSpec.ofChange runsOneSpec)

/-- ITS FALSE NEIGHBOUR: 'it returns false'. Refute it at one input. -/
def runsOneWrong : ChangeSpec := { name := "runsOne", fn := fun _ => fun
  | [d1, d2, d3, d4, d5, d6] => { results := [.lit (.bool false)], args := [d1, d2, d3, d4, d5, d6] }
  | _ => none }
def RunsOneWrongFalsely : Prop := runsOneRow.holds Tryd.pinned (OpenSpec.ofChange runsOneWrong)

/-- 'hypercubelaw5.RunsSorted': WHATEVER THE INPUT: true; the input reads as it did. -/
def runsSortedSpec : ChangeSpec := { name := "runsSorted", fn := fun _ => fun
  | [d1, d2] => { results := [.lit (.bool true)], args := [d1, d2] }
  | _ => none }
def runsSortedRow : OpenClaim := { program := "ytaaciedelfaekaadoor", sum := "ce17a5bf59f9234e83e9bbef79f76767f6700cfd5e13eb8c91b48814a1a6eb75", func := "hypercube/hypercubelaw5.RunsSorted", spec := "runsSorted", unfollowed := true, recurses := true, named := ["internal/strconv.uint64pow10", "math/bits.deBruijn32tab", "math/bits.deBruijn64tab"], apart := false, laid := [("math/bits.deBruijn32tab", laid_math_bits_deBruijn32tab), ("math/bits.deBruijn64tab", laid_math_bits_deBruijn64tab), ("internal/strconv.uint64pow10", laid_internal_strconv_uint64pow10)] }
def RunsSortedSaid : Prop := runsSortedRow.holds Tryd.pinned (OpenSpec.ofChange runsSortedSpec)

/-- ITS FALSE NEIGHBOUR: 'it returns false'. Refute it at one input. -/
def runsSortedWrong : ChangeSpec := { name := "runsSorted", fn := fun _ => fun
  | [d1, d2] => { results := [.lit (.bool false)], args := [d1, d2] }
  | _ => none }
def RunsSortedWrongFalsely : Prop := runsSortedRow.holds Tryd.pinned (OpenSpec.ofChange runsSortedWrong)

/-- 'hypercubelaw5.RunsOwn': WHATEVER THE INPUT: true; the input reads as it did. -/
def runsOwnSpec : ChangeSpec := { name := "runsOwn", fn := fun _ => fun
  | [d1, d2, d3, d4, d5, d6] => { results := [.lit (.bool true)], args := [d1, d2, d3, d4, d5, d6] }
  | _ => none }
def runsOwnRow : OpenClaim := { program := "ytaaciedelfaekaadoor", sum := "ce17a5bf59f9234e83e9bbef79f76767f6700cfd5e13eb8c91b48814a1a6eb75", func := "hypercube/hypercubelaw5.RunsOwn", spec := "runsOwn", unfollowed := true, recurses := true, named := ["internal/strconv.uint64pow10", "math/bits.deBruijn32tab", "math/bits.deBruijn64tab"], apart := false, laid := [("math/bits.deBruijn32tab", laid_math_bits_deBruijn32tab), ("math/bits.deBruijn64tab", laid_math_bits_deBruijn64tab), ("internal/strconv.uint64pow10", laid_internal_strconv_uint64pow10)] }
def RunsOwnSaid : Prop := runsOwnRow.holds Tryd.pinned (OpenSpec.ofChange runsOwnSpec)

/-- ITS FALSE NEIGHBOUR: 'it returns false'. Refute it at one input. -/
def runsOwnWrong : ChangeSpec := { name := "runsOwn", fn := fun _ => fun
  | [d1, d2, d3, d4, d5, d6] => { results := [.lit (.bool false)], args := [d1, d2, d3, d4, d5, d6] }
  | _ => none }
def RunsOwnWrongFalsely : Prop := runsOwnRow.holds Tryd.pinned (OpenSpec.ofChange runsOwnWrong)

/-- 'hypercubelaw5.RunsOnly': WHATEVER THE INPUT: true; the input reads as it did. -/
def runsOnlySpec : ChangeSpec := { name := "runsOnly", fn := fun _ => fun
  | [d] => { results := [.lit (.bool true)], args := [d] }
  | _ => none }
def runsOnlyRow : OpenClaim := { program := "ytaaciedelfaekaadoor", sum := "ce17a5bf59f9234e83e9bbef79f76767f6700cfd5e13eb8c91b48814a1a6eb75", func := "hypercube/hypercubelaw5.RunsOnly", spec := "runsOnly", unfollowed := true, recurses := true, named := ["internal/strconv.uint64pow10", "math/bits.deBruijn32tab", "math/bits.deBruijn64tab"], apart := false, laid := [("math/bits.deBruijn32tab", laid_math_bits_deBruijn32tab), ("math/bits.deBruijn64tab", laid_math_bits_deBruijn64tab), ("internal/strconv.uint64pow10", laid_internal_strconv_uint64pow10)] }
def RunsOnlySaid : Prop := runsOnlyRow.holds Tryd.pinned (OpenSpec.ofChange runsOnlySpec)

/-- ITS FALSE NEIGHBOUR: 'it returns false'. Refute it at one input. -/
def runsOnlyWrong : ChangeSpec := { name := "runsOnly", fn := fun _ => fun
  | [d] => { results := [.lit (.bool false)], args := [d] }
  | _ => none }
def RunsOnlyWrongFalsely : Prop := runsOnlyRow.holds Tryd.pinned (OpenSpec.ofChange runsOnlyWrong)

/-- 'hypercubelaw5.RunsMore': WHATEVER THE INPUT: true; the input reads as it did. -/
def runsMoreSpec : ChangeSpec := { name := "runsMore", fn := fun _ => fun
  | [d1, d2, d3, d4, d5, d6] => { results := [.lit (.bool true)], args := [d1, d2, d3, d4, d5, d6] }
  | _ => none }
def runsMoreRow : OpenClaim := { program := "ytaaciedelfaekaadoor", sum := "ce17a5bf59f9234e83e9bbef79f76767f6700cfd5e13eb8c91b48814a1a6eb75", func := "hypercube/hypercubelaw5.RunsMore", spec := "runsMore", unfollowed := true, recurses := true, named := ["internal/strconv.uint64pow10", "math/bits.deBruijn32tab", "math/bits.deBruijn64tab"], apart := false, laid := [("math/bits.deBruijn32tab", laid_math_bits_deBruijn32tab), ("math/bits.deBruijn64tab", laid_math_bits_deBruijn64tab), ("internal/strconv.uint64pow10", laid_internal_strconv_uint64pow10)] }
def RunsMoreSaid : Prop := runsMoreRow.holds Tryd.pinned (OpenSpec.ofChange runsMoreSpec)

/-- ITS FALSE NEIGHBOUR: 'it returns false'. Refute it at one input. -/
def runsMoreWrong : ChangeSpec := { name := "runsMore", fn := fun _ => fun
  | [d1, d2, d3, d4, d5, d6] => { results := [.lit (.bool false)], args := [d1, d2, d3, d4, d5, d6] }
  | _ => none }
def RunsMoreWrongFalsely : Prop := runsMoreRow.holds Tryd.pinned (OpenSpec.ofChange runsMoreWrong)

/-- 'hypercubelaw5.RunsCounts': WHATEVER THE INPUT: true; the input reads as it did. -/
def runsCountsSpec : ChangeSpec := { name := "runsCounts", fn := fun _ => fun
  | [d1, d2, d3, d4, d5, d6] => { results := [.lit (.bool true)], args := [d1, d2, d3, d4, d5, d6] }
  | _ => none }
def runsCountsRow : OpenClaim := { program := "ytaaciedelfaekaadoor", sum := "ce17a5bf59f9234e83e9bbef79f76767f6700cfd5e13eb8c91b48814a1a6eb75", func := "hypercube/hypercubelaw5.RunsCounts", spec := "runsCounts", unfollowed := true, recurses := true, named := ["internal/strconv.uint64pow10", "math/bits.deBruijn32tab", "math/bits.deBruijn64tab"], apart := false, laid := [("math/bits.deBruijn32tab", laid_math_bits_deBruijn32tab), ("math/bits.deBruijn64tab", laid_math_bits_deBruijn64tab), ("internal/strconv.uint64pow10", laid_internal_strconv_uint64pow10)] }
def RunsCountsSaid : Prop := runsCountsRow.holds Tryd.pinned (OpenSpec.ofChange runsCountsSpec)

/-- ITS FALSE NEIGHBOUR: 'it returns false'. Refute it at one input. -/
def runsCountsWrong : ChangeSpec := { name := "runsCounts", fn := fun _ => fun
  | [d1, d2, d3, d4, d5, d6] => { results := [.lit (.bool false)], args := [d1, d2, d3, d4, d5, d6] }
  | _ => none }
def RunsCountsWrongFalsely : Prop := runsCountsRow.holds Tryd.pinned (OpenSpec.ofChange runsCountsWrong)

/- THE SECOND FORM. 'bulk': how many values and letters a reading holds, each counted each time it is reached (what is shared counts as often as it is met; a slice's spare places count too). A statement '..UptoSaid' is the law's where the arguments, and the package variables that the reading takes, are together of bulk at most 1048576: NARROWER than '..Said'. Prove '..Said' where nothing that the law and all that it calls make is longer than what came in: it says more and counts as full. Else prove '..UptoSaid'. A law counts once. -/
mutual
def uptoBulk {H : Type} : DataW H → Nat
  | .lit (.string bytes) => bytes.length + 1
  | .lit _ => 1
  | .nil => 1
  | .ptr d => uptoBulk d + 1
  | .slice elems spare => uptoBulkAll elems + uptoBulkAll spare + 1
  | .agg parts => uptoBulkAll parts + 1
  | .iface _ d => uptoBulk d + 1
  | .map entries => uptoBulkEntries entries + 1
  | .held _ => 1
def uptoBulkAll {H : Type} : List (DataW H) → Nat
  | [] => 0
  | d :: r => uptoBulk d + uptoBulkAll r
def uptoBulkEntries {H : Type} : List (Lit × DataW H) → Nat
  | [] => 0
  | x :: r => uptoBulkEntry x + uptoBulkEntries r
def uptoBulkEntry {H : Type} : Lit × DataW H → Nat
  | (.string bytes, d) => bytes.length + uptoBulk d + 1
  | (_, d) => uptoBulk d + 1
 end
def uptoSmall : (H : Type) → List (DataW H) → Bool := fun _ ds => decide (uptoBulkAll ds ≤ 1048576)
def OpenSpec.upto (s : _root_.Go.ChangeSpec) : _root_.Go.OpenSpec := { _root_.Go.OpenSpec.ofChange s with cond := some uptoSmall }

/-- 'hypercubelaw5.RunsAll', WHERE WHAT IT READS IS OF BULK AT MOST 1048576: true; the input reads as it did. -/
def runsAllUptoRow : OpenClaim := { program := "ytaaciedelfaekaadoor", sum := "ce17a5bf59f9234e83e9bbef79f76767f6700cfd5e13eb8c91b48814a1a6eb75", func := "hypercube/hypercubelaw5.RunsAll", spec := "runsAll", unfollowed := true, recurses := true, named := ["internal/strconv.uint64pow10", "math/bits.deBruijn32tab", "math/bits.deBruijn64tab"], apart := false, laid := [("math/bits.deBruijn32tab", laid_math_bits_deBruijn32tab), ("math/bits.deBruijn64tab", laid_math_bits_deBruijn64tab), ("internal/strconv.uint64pow10", laid_internal_strconv_uint64pow10)], narrowed := true }
def RunsAllUptoSaid : Prop := runsAllUptoRow.holds Tryd.pinned (OpenSpec.upto runsAllSpec)

/-- 'hypercubelaw5.RunsBounds', WHERE WHAT IT READS IS OF BULK AT MOST 1048576: true; the input reads as it did. -/
def runsBoundsUptoRow : OpenClaim := { program := "ytaaciedelfaekaadoor", sum := "ce17a5bf59f9234e83e9bbef79f76767f6700cfd5e13eb8c91b48814a1a6eb75", func := "hypercube/hypercubelaw5.RunsBounds", spec := "runsBounds", unfollowed := true, recurses := true, named := ["internal/strconv.uint64pow10", "math/bits.deBruijn32tab", "math/bits.deBruijn64tab"], apart := false, laid := [("math/bits.deBruijn32tab", laid_math_bits_deBruijn32tab), ("math/bits.deBruijn64tab", laid_math_bits_deBruijn64tab), ("internal/strconv.uint64pow10", laid_internal_strconv_uint64pow10)], narrowed := true }
def RunsBoundsUptoSaid : Prop := runsBoundsUptoRow.holds Tryd.pinned (OpenSpec.upto runsBoundsSpec)

/-- 'hypercubelaw5.RunsTogether', WHERE WHAT IT READS IS OF BULK AT MOST 1048576: true; the input reads as it did. -/
def runsTogetherUptoRow : OpenClaim := { program := "ytaaciedelfaekaadoor", sum := "ce17a5bf59f9234e83e9bbef79f76767f6700cfd5e13eb8c91b48814a1a6eb75", func := "hypercube/hypercubelaw5.RunsTogether", spec := "runsTogether", unfollowed := true, recurses := true, named := ["internal/strconv.uint64pow10", "math/bits.deBruijn32tab", "math/bits.deBruijn64tab"], apart := false, laid := [("math/bits.deBruijn32tab", laid_math_bits_deBruijn32tab), ("math/bits.deBruijn64tab", laid_math_bits_deBruijn64tab), ("internal/strconv.uint64pow10", laid_internal_strconv_uint64pow10)], narrowed := true }
def RunsTogetherUptoSaid : Prop := runsTogetherUptoRow.holds Tryd.pinned (OpenSpec.upto runsTogetherSpec)

/-- 'hypercubelaw5.RunsOne', WHERE WHAT IT READS IS OF BULK AT MOST 1048576: true; the input reads as it did. -/
def runsOneUptoRow : OpenClaim := { program := "ytaaciedelfaekaadoor", sum := "ce17a5bf59f9234e83e9bbef79f76767f6700cfd5e13eb8c91b48814a1a6eb75", func := "hypercube/hypercubelaw5.RunsOne", spec := "runsOne", unfollowed := true, recurses := true, named := ["internal/strconv.uint64pow10", "math/bits.deBruijn32tab", "math/bits.deBruijn64tab"], apart := false, laid := [("math/bits.deBruijn32tab", laid_math_bits_deBruijn32tab), ("math/bits.deBruijn64tab", laid_math_bits_deBruijn64tab), ("internal/strconv.uint64pow10", laid_internal_strconv_uint64pow10)], narrowed := true }
def RunsOneUptoSaid : Prop := runsOneUptoRow.holds Tryd.pinned (OpenSpec.upto runsOneSpec)

/-- 'hypercubelaw5.RunsSorted', WHERE WHAT IT READS IS OF BULK AT MOST 1048576: true; the input reads as it did. -/
def runsSortedUptoRow : OpenClaim := { program := "ytaaciedelfaekaadoor", sum := "ce17a5bf59f9234e83e9bbef79f76767f6700cfd5e13eb8c91b48814a1a6eb75", func := "hypercube/hypercubelaw5.RunsSorted", spec := "runsSorted", unfollowed := true, recurses := true, named := ["internal/strconv.uint64pow10", "math/bits.deBruijn32tab", "math/bits.deBruijn64tab"], apart := false, laid := [("math/bits.deBruijn32tab", laid_math_bits_deBruijn32tab), ("math/bits.deBruijn64tab", laid_math_bits_deBruijn64tab), ("internal/strconv.uint64pow10", laid_internal_strconv_uint64pow10)], narrowed := true }
def RunsSortedUptoSaid : Prop := runsSortedUptoRow.holds Tryd.pinned (OpenSpec.upto runsSortedSpec)

/-- 'hypercubelaw5.RunsOwn', WHERE WHAT IT READS IS OF BULK AT MOST 1048576: true; the input reads as it did. -/
def runsOwnUptoRow : OpenClaim := { program := "ytaaciedelfaekaadoor", sum := "ce17a5bf59f9234e83e9bbef79f76767f6700cfd5e13eb8c91b48814a1a6eb75", func := "hypercube/hypercubelaw5.RunsOwn", spec := "runsOwn", unfollowed := true, recurses := true, named := ["internal/strconv.uint64pow10", "math/bits.deBruijn32tab", "math/bits.deBruijn64tab"], apart := false, laid := [("math/bits.deBruijn32tab", laid_math_bits_deBruijn32tab), ("math/bits.deBruijn64tab", laid_math_bits_deBruijn64tab), ("internal/strconv.uint64pow10", laid_internal_strconv_uint64pow10)], narrowed := true }
def RunsOwnUptoSaid : Prop := runsOwnUptoRow.holds Tryd.pinned (OpenSpec.upto runsOwnSpec)

/-- 'hypercubelaw5.RunsOnly', WHERE WHAT IT READS IS OF BULK AT MOST 1048576: true; the input reads as it did. -/
def runsOnlyUptoRow : OpenClaim := { program := "ytaaciedelfaekaadoor", sum := "ce17a5bf59f9234e83e9bbef79f76767f6700cfd5e13eb8c91b48814a1a6eb75", func := "hypercube/hypercubelaw5.RunsOnly", spec := "runsOnly", unfollowed := true, recurses := true, named := ["internal/strconv.uint64pow10", "math/bits.deBruijn32tab", "math/bits.deBruijn64tab"], apart := false, laid := [("math/bits.deBruijn32tab", laid_math_bits_deBruijn32tab), ("math/bits.deBruijn64tab", laid_math_bits_deBruijn64tab), ("internal/strconv.uint64pow10", laid_internal_strconv_uint64pow10)], narrowed := true }
def RunsOnlyUptoSaid : Prop := runsOnlyUptoRow.holds Tryd.pinned (OpenSpec.upto runsOnlySpec)

/-- 'hypercubelaw5.RunsMore', WHERE WHAT IT READS IS OF BULK AT MOST 1048576: true; the input reads as it did. -/
def runsMoreUptoRow : OpenClaim := { program := "ytaaciedelfaekaadoor", sum := "ce17a5bf59f9234e83e9bbef79f76767f6700cfd5e13eb8c91b48814a1a6eb75", func := "hypercube/hypercubelaw5.RunsMore", spec := "runsMore", unfollowed := true, recurses := true, named := ["internal/strconv.uint64pow10", "math/bits.deBruijn32tab", "math/bits.deBruijn64tab"], apart := false, laid := [("math/bits.deBruijn32tab", laid_math_bits_deBruijn32tab), ("math/bits.deBruijn64tab", laid_math_bits_deBruijn64tab), ("internal/strconv.uint64pow10", laid_internal_strconv_uint64pow10)], narrowed := true }
def RunsMoreUptoSaid : Prop := runsMoreUptoRow.holds Tryd.pinned (OpenSpec.upto runsMoreSpec)

/-- 'hypercubelaw5.RunsCounts', WHERE WHAT IT READS IS OF BULK AT MOST 1048576: true; the input reads as it did. -/
def runsCountsUptoRow : OpenClaim := { program := "ytaaciedelfaekaadoor", sum := "ce17a5bf59f9234e83e9bbef79f76767f6700cfd5e13eb8c91b48814a1a6eb75", func := "hypercube/hypercubelaw5.RunsCounts", spec := "runsCounts", unfollowed := true, recurses := true, named := ["internal/strconv.uint64pow10", "math/bits.deBruijn32tab", "math/bits.deBruijn64tab"], apart := false, laid := [("math/bits.deBruijn32tab", laid_math_bits_deBruijn32tab), ("math/bits.deBruijn64tab", laid_math_bits_deBruijn64tab), ("internal/strconv.uint64pow10", laid_internal_strconv_uint64pow10)], narrowed := true }
def RunsCountsUptoSaid : Prop := runsCountsUptoRow.holds Tryd.pinned (OpenSpec.upto runsCountsSpec)

end Rows
end Go.Proofs.YtaaciedelfaekaaDoor
