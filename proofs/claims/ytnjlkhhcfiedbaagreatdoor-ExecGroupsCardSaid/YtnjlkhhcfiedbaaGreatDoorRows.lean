/-
  NARROWER THAN 'FOR EVERY INPUT', by the rows' own cells (each row's printed sentence says how): ExecAll: laid · ExecGroups: laid · ExecBounds: laid · ExecErrs: laid · ExecTwice: laid · ExecOwn: laid · ExecAlike: laid · ExecGreat: laid · ExecTotal: laid.
  DERIVED. THE GIVEN ROWS OF THIS SEAT. 9 by the template 'for every input the law returns true; each argument reads behind the call as it read before'; 0 by the template 'total and deterministic' (their statements: YtnjlkhhcfiedbaaGreatDoorTotals.lean).
  GIVEN WITH THE SEED: the statements are not yours to turn. If you find one false, say at which input.
  Laid BY PROGRAM, IN A SANDBOX (cutbox-rows.mjs): the forced cells as the released guide's own fill.sh prints them over the translation 43f0c86ad1bc1638… (all of the seat's roots in one cut). By AI agents, Wed Nov 11 2026. No macro, syntax, notation, axiom, sorry.
-/
import Derived.Test.YtnjlkhhcfiedbaaGreatDoorChecked
import GoSem.Claim
import GoSem.ClaimJoined
import GoSem.ClaimMapViews
import Derived.JoinedTies
import Derived.KernelRfl
namespace Go.Proofs.YtnjlkhhcfiedbaaGreatDoor
/- THE CELL 'sum', in the pinned program and in every row, IS THE sha256 OF THE DUMP (.gsa) THAT YtnjlkhhcfiedbaaGreatDoorProg.lean LOADS. Nothing in Lean hashes anything: it is a label: what it is worth is what the hold of that sum in a sandbox is worth. -/
noncomputable def Tryz.pinned : Pinned := { name := "ytnjlkhhcfiedbaagreatdoor", sum := "43f0c86ad1bc163885674e0a87c30b457703bbea78a6ef24e82dbd12926c856e", checked := Tryz.checked }
namespace Rows
def none {H : Type} : Left H := { results := [], args := [] }

/- WHAT THE LISTED PACKAGE-LEVEL VARIABLES READ AS WHEN THE CALL BEGINS. Each datum BY PROGRAM (the guide's laid-datum.mjs) off the statement by which the dump's own 'gosem.cut.vars' lays the variable. In a bare row this is a premise. The card (YtnjlkhhcfiedbaaGreatDoorCards.lean) ties it to the program's text. -/
def laid_math_bits_deBruijn32tab {H : Type} : DataW H := .agg [.lit (.int .u8 0), .lit (.int .u8 1), .lit (.int .u8 28), .lit (.int .u8 2), .lit (.int .u8 29), .lit (.int .u8 14), .lit (.int .u8 24), .lit (.int .u8 3), .lit (.int .u8 30), .lit (.int .u8 22), .lit (.int .u8 20), .lit (.int .u8 15), .lit (.int .u8 25), .lit (.int .u8 17), .lit (.int .u8 4), .lit (.int .u8 8), .lit (.int .u8 31), .lit (.int .u8 27), .lit (.int .u8 13), .lit (.int .u8 23), .lit (.int .u8 21), .lit (.int .u8 19), .lit (.int .u8 16), .lit (.int .u8 7), .lit (.int .u8 26), .lit (.int .u8 12), .lit (.int .u8 18), .lit (.int .u8 6), .lit (.int .u8 11), .lit (.int .u8 5), .lit (.int .u8 10), .lit (.int .u8 9)]
def laid_math_bits_deBruijn64tab {H : Type} : DataW H := .agg [.lit (.int .u8 0), .lit (.int .u8 1), .lit (.int .u8 56), .lit (.int .u8 2), .lit (.int .u8 57), .lit (.int .u8 49), .lit (.int .u8 28), .lit (.int .u8 3), .lit (.int .u8 61), .lit (.int .u8 58), .lit (.int .u8 42), .lit (.int .u8 50), .lit (.int .u8 38), .lit (.int .u8 29), .lit (.int .u8 17), .lit (.int .u8 4), .lit (.int .u8 62), .lit (.int .u8 47), .lit (.int .u8 59), .lit (.int .u8 36), .lit (.int .u8 45), .lit (.int .u8 43), .lit (.int .u8 51), .lit (.int .u8 22), .lit (.int .u8 53), .lit (.int .u8 39), .lit (.int .u8 33), .lit (.int .u8 30), .lit (.int .u8 24), .lit (.int .u8 18), .lit (.int .u8 12), .lit (.int .u8 5), .lit (.int .u8 63), .lit (.int .u8 55), .lit (.int .u8 48), .lit (.int .u8 27), .lit (.int .u8 60), .lit (.int .u8 41), .lit (.int .u8 37), .lit (.int .u8 16), .lit (.int .u8 46), .lit (.int .u8 35), .lit (.int .u8 44), .lit (.int .u8 21), .lit (.int .u8 52), .lit (.int .u8 32), .lit (.int .u8 23), .lit (.int .u8 11), .lit (.int .u8 54), .lit (.int .u8 26), .lit (.int .u8 40), .lit (.int .u8 15), .lit (.int .u8 34), .lit (.int .u8 20), .lit (.int .u8 31), .lit (.int .u8 10), .lit (.int .u8 25), .lit (.int .u8 14), .lit (.int .u8 19), .lit (.int .u8 9), .lit (.int .u8 13), .lit (.int .u8 8), .lit (.int .u8 7), .lit (.int .u8 6)]
def laid_internal_strconv_uint64pow10 {H : Type} : DataW H := .agg [.lit (.int .u64 1), .lit (.int .u64 10), .lit (.int .u64 100), .lit (.int .u64 1000), .lit (.int .u64 10000), .lit (.int .u64 100000), .lit (.int .u64 1000000), .lit (.int .u64 10000000), .lit (.int .u64 100000000), .lit (.int .u64 1000000000), .lit (.int .u64 10000000000), .lit (.int .u64 100000000000), .lit (.int .u64 1000000000000), .lit (.int .u64 10000000000000), .lit (.int .u64 100000000000000), .lit (.int .u64 1000000000000000), .lit (.int .u64 10000000000000000), .lit (.int .u64 100000000000000000), .lit (.int .u64 1000000000000000000), .lit (.int .u64 10000000000000000000)]

/-- 'hypercubelaw12.ExecAll': WHATEVER THE INPUT: true; the input reads as it did. -/
def execAllSpec : ChangeSpec := { name := "execAll", fn := fun _ => fun
  | [d1, d2, d3, d4, d5, d6, d7, d8, d9] => { results := [.lit (.bool true)], args := [d1, d2, d3, d4, d5, d6, d7, d8, d9] }
  | _ => none }
def execAllRow : OpenClaim := { program := "ytnjlkhhcfiedbaagreatdoor", sum := "43f0c86ad1bc163885674e0a87c30b457703bbea78a6ef24e82dbd12926c856e", func := "hypercube/hypercubelaw12.ExecAll", spec := "execAll", unfollowed := true, recurses := true, named := ["math/bits.deBruijn32tab", "math/bits.deBruijn64tab", "internal/strconv.uint64pow10"], apart := false, laid := [("math/bits.deBruijn32tab", laid_math_bits_deBruijn32tab), ("math/bits.deBruijn64tab", laid_math_bits_deBruijn64tab), ("internal/strconv.uint64pow10", laid_internal_strconv_uint64pow10)] }
def ExecAllSaid : Prop := execAllRow.holds Tryz.pinned (OpenSpec.ofChange execAllSpec)

/-- ITS FALSE NEIGHBOUR: 'it returns false'. Refute it at one input. -/
def execAllWrong : ChangeSpec := { name := "execAll", fn := fun _ => fun
  | [d1, d2, d3, d4, d5, d6, d7, d8, d9] => { results := [.lit (.bool false)], args := [d1, d2, d3, d4, d5, d6, d7, d8, d9] }
  | _ => none }
def ExecAllWrongFalsely : Prop := execAllRow.holds Tryz.pinned (OpenSpec.ofChange execAllWrong)

/-- 'hypercubelaw12.ExecGroups': WHATEVER THE INPUT: true; the input reads as it did. -/
def execGroupsSpec : ChangeSpec := { name := "execGroups", fn := fun _ => fun
  | [d1, d2, d3, d4, d5, d6, d7, d8] => { results := [.lit (.bool true)], args := [d1, d2, d3, d4, d5, d6, d7, d8] }
  | _ => none }
def execGroupsRow : OpenClaim := { program := "ytnjlkhhcfiedbaagreatdoor", sum := "43f0c86ad1bc163885674e0a87c30b457703bbea78a6ef24e82dbd12926c856e", func := "hypercube/hypercubelaw12.ExecGroups", spec := "execGroups", unfollowed := true, recurses := true, named := ["math/bits.deBruijn32tab", "math/bits.deBruijn64tab", "internal/strconv.uint64pow10"], apart := false, laid := [("math/bits.deBruijn32tab", laid_math_bits_deBruijn32tab), ("math/bits.deBruijn64tab", laid_math_bits_deBruijn64tab), ("internal/strconv.uint64pow10", laid_internal_strconv_uint64pow10)] }
def ExecGroupsSaid : Prop := execGroupsRow.holds Tryz.pinned (OpenSpec.ofChange execGroupsSpec)

/-- ITS FALSE NEIGHBOUR: 'it returns false'. Refute it at one input. -/
def execGroupsWrong : ChangeSpec := { name := "execGroups", fn := fun _ => fun
  | [d1, d2, d3, d4, d5, d6, d7, d8] => { results := [.lit (.bool false)], args := [d1, d2, d3, d4, d5, d6, d7, d8] }
  | _ => none }
def ExecGroupsWrongFalsely : Prop := execGroupsRow.holds Tryz.pinned (OpenSpec.ofChange execGroupsWrong)

/-- 'hypercubelaw12.ExecBounds': WHATEVER THE INPUT: true; the input reads as it did. -/
def execBoundsSpec : ChangeSpec := { name := "execBounds", fn := fun _ => fun
  | [d1, d2, d3, d4, d5, d6, d7, d8] => { results := [.lit (.bool true)], args := [d1, d2, d3, d4, d5, d6, d7, d8] }
  | _ => none }
def execBoundsRow : OpenClaim := { program := "ytnjlkhhcfiedbaagreatdoor", sum := "43f0c86ad1bc163885674e0a87c30b457703bbea78a6ef24e82dbd12926c856e", func := "hypercube/hypercubelaw12.ExecBounds", spec := "execBounds", unfollowed := true, recurses := true, named := ["math/bits.deBruijn32tab", "math/bits.deBruijn64tab", "internal/strconv.uint64pow10"], apart := false, laid := [("math/bits.deBruijn32tab", laid_math_bits_deBruijn32tab), ("math/bits.deBruijn64tab", laid_math_bits_deBruijn64tab), ("internal/strconv.uint64pow10", laid_internal_strconv_uint64pow10)] }
def ExecBoundsSaid : Prop := execBoundsRow.holds Tryz.pinned (OpenSpec.ofChange execBoundsSpec)

/-- ITS FALSE NEIGHBOUR: 'it returns false'. Refute it at one input. -/
def execBoundsWrong : ChangeSpec := { name := "execBounds", fn := fun _ => fun
  | [d1, d2, d3, d4, d5, d6, d7, d8] => { results := [.lit (.bool false)], args := [d1, d2, d3, d4, d5, d6, d7, d8] }
  | _ => none }
def ExecBoundsWrongFalsely : Prop := execBoundsRow.holds Tryz.pinned (OpenSpec.ofChange execBoundsWrong)

/-- 'hypercubelaw12.ExecErrs': WHATEVER THE INPUT: true; the input reads as it did. -/
def execErrsSpec : ChangeSpec := { name := "execErrs", fn := fun _ => fun
  | [d1, d2] => { results := [.lit (.bool true)], args := [d1, d2] }
  | _ => none }
def execErrsRow : OpenClaim := { program := "ytnjlkhhcfiedbaagreatdoor", sum := "43f0c86ad1bc163885674e0a87c30b457703bbea78a6ef24e82dbd12926c856e", func := "hypercube/hypercubelaw12.ExecErrs", spec := "execErrs", unfollowed := true, recurses := true, named := ["math/bits.deBruijn32tab", "math/bits.deBruijn64tab", "internal/strconv.uint64pow10"], apart := false, laid := [("math/bits.deBruijn32tab", laid_math_bits_deBruijn32tab), ("math/bits.deBruijn64tab", laid_math_bits_deBruijn64tab), ("internal/strconv.uint64pow10", laid_internal_strconv_uint64pow10)] }
def ExecErrsSaid : Prop := execErrsRow.holds Tryz.pinned (OpenSpec.ofChange execErrsSpec)

/-- ITS FALSE NEIGHBOUR: 'it returns false'. Refute it at one input. -/
def execErrsWrong : ChangeSpec := { name := "execErrs", fn := fun _ => fun
  | [d1, d2] => { results := [.lit (.bool false)], args := [d1, d2] }
  | _ => none }
def ExecErrsWrongFalsely : Prop := execErrsRow.holds Tryz.pinned (OpenSpec.ofChange execErrsWrong)

/-- 'hypercubelaw12.ExecTwice': WHATEVER THE INPUT: true; the input reads as it did. -/
def execTwiceSpec : ChangeSpec := { name := "execTwice", fn := fun _ => fun
  | [d1, d2, d3, d4, d5, d6, d7, d8, d9] => { results := [.lit (.bool true)], args := [d1, d2, d3, d4, d5, d6, d7, d8, d9] }
  | _ => none }
def execTwiceRow : OpenClaim := { program := "ytnjlkhhcfiedbaagreatdoor", sum := "43f0c86ad1bc163885674e0a87c30b457703bbea78a6ef24e82dbd12926c856e", func := "hypercube/hypercubelaw12.ExecTwice", spec := "execTwice", unfollowed := true, recurses := true, named := ["math/bits.deBruijn32tab", "math/bits.deBruijn64tab", "internal/strconv.uint64pow10"], apart := false, laid := [("math/bits.deBruijn32tab", laid_math_bits_deBruijn32tab), ("math/bits.deBruijn64tab", laid_math_bits_deBruijn64tab), ("internal/strconv.uint64pow10", laid_internal_strconv_uint64pow10)] }
def ExecTwiceSaid : Prop := execTwiceRow.holds Tryz.pinned (OpenSpec.ofChange execTwiceSpec)

/-- ITS FALSE NEIGHBOUR: 'it returns false'. Refute it at one input. -/
def execTwiceWrong : ChangeSpec := { name := "execTwice", fn := fun _ => fun
  | [d1, d2, d3, d4, d5, d6, d7, d8, d9] => { results := [.lit (.bool false)], args := [d1, d2, d3, d4, d5, d6, d7, d8, d9] }
  | _ => none }
def ExecTwiceWrongFalsely : Prop := execTwiceRow.holds Tryz.pinned (OpenSpec.ofChange execTwiceWrong)

/-- 'hypercubelaw12.ExecOwn': WHATEVER THE INPUT: true; the input reads as it did. -/
def execOwnSpec : ChangeSpec := { name := "execOwn", fn := fun _ => fun
  | [d1, d2, d3, d4, d5, d6, d7] => { results := [.lit (.bool true)], args := [d1, d2, d3, d4, d5, d6, d7] }
  | _ => none }
def execOwnRow : OpenClaim := { program := "ytnjlkhhcfiedbaagreatdoor", sum := "43f0c86ad1bc163885674e0a87c30b457703bbea78a6ef24e82dbd12926c856e", func := "hypercube/hypercubelaw12.ExecOwn", spec := "execOwn", unfollowed := true, recurses := true, named := ["math/bits.deBruijn32tab", "math/bits.deBruijn64tab", "internal/strconv.uint64pow10"], apart := false, laid := [("math/bits.deBruijn32tab", laid_math_bits_deBruijn32tab), ("math/bits.deBruijn64tab", laid_math_bits_deBruijn64tab), ("internal/strconv.uint64pow10", laid_internal_strconv_uint64pow10)] }
def ExecOwnSaid : Prop := execOwnRow.holds Tryz.pinned (OpenSpec.ofChange execOwnSpec)

/-- ITS FALSE NEIGHBOUR: 'it returns false'. Refute it at one input. -/
def execOwnWrong : ChangeSpec := { name := "execOwn", fn := fun _ => fun
  | [d1, d2, d3, d4, d5, d6, d7] => { results := [.lit (.bool false)], args := [d1, d2, d3, d4, d5, d6, d7] }
  | _ => none }
def ExecOwnWrongFalsely : Prop := execOwnRow.holds Tryz.pinned (OpenSpec.ofChange execOwnWrong)

/-- 'hypercubelaw12.ExecAlike': WHATEVER THE INPUT: true; the input reads as it did. -/
def execAlikeSpec : ChangeSpec := { name := "execAlike", fn := fun _ => fun
  | [d1, d2, d3, d4, d5, d6, d7, d8] => { results := [.lit (.bool true)], args := [d1, d2, d3, d4, d5, d6, d7, d8] }
  | _ => none }
def execAlikeRow : OpenClaim := { program := "ytnjlkhhcfiedbaagreatdoor", sum := "43f0c86ad1bc163885674e0a87c30b457703bbea78a6ef24e82dbd12926c856e", func := "hypercube/hypercubelaw12.ExecAlike", spec := "execAlike", unfollowed := true, recurses := true, named := ["math/bits.deBruijn32tab", "math/bits.deBruijn64tab", "internal/strconv.uint64pow10"], apart := false, laid := [("math/bits.deBruijn32tab", laid_math_bits_deBruijn32tab), ("math/bits.deBruijn64tab", laid_math_bits_deBruijn64tab), ("internal/strconv.uint64pow10", laid_internal_strconv_uint64pow10)] }
def ExecAlikeSaid : Prop := execAlikeRow.holds Tryz.pinned (OpenSpec.ofChange execAlikeSpec)

/-- ITS FALSE NEIGHBOUR: 'it returns false'. Refute it at one input. -/
def execAlikeWrong : ChangeSpec := { name := "execAlike", fn := fun _ => fun
  | [d1, d2, d3, d4, d5, d6, d7, d8] => { results := [.lit (.bool false)], args := [d1, d2, d3, d4, d5, d6, d7, d8] }
  | _ => none }
def ExecAlikeWrongFalsely : Prop := execAlikeRow.holds Tryz.pinned (OpenSpec.ofChange execAlikeWrong)

/-- 'hypercubelaw12.ExecGreat': WHATEVER THE INPUT: true; the input reads as it did. -/
def execGreatSpec : ChangeSpec := { name := "execGreat", fn := fun _ => fun
  | [d1, d2, d3, d4, d5, d6, d7] => { results := [.lit (.bool true)], args := [d1, d2, d3, d4, d5, d6, d7] }
  | _ => none }
def execGreatRow : OpenClaim := { program := "ytnjlkhhcfiedbaagreatdoor", sum := "43f0c86ad1bc163885674e0a87c30b457703bbea78a6ef24e82dbd12926c856e", func := "hypercube/hypercubelaw12.ExecGreat", spec := "execGreat", unfollowed := true, recurses := true, named := ["math/bits.deBruijn32tab", "math/bits.deBruijn64tab", "internal/strconv.uint64pow10"], apart := false, laid := [("math/bits.deBruijn32tab", laid_math_bits_deBruijn32tab), ("math/bits.deBruijn64tab", laid_math_bits_deBruijn64tab), ("internal/strconv.uint64pow10", laid_internal_strconv_uint64pow10)] }
def ExecGreatSaid : Prop := execGreatRow.holds Tryz.pinned (OpenSpec.ofChange execGreatSpec)

/-- ITS FALSE NEIGHBOUR: 'it returns false'. Refute it at one input. -/
def execGreatWrong : ChangeSpec := { name := "execGreat", fn := fun _ => fun
  | [d1, d2, d3, d4, d5, d6, d7] => { results := [.lit (.bool false)], args := [d1, d2, d3, d4, d5, d6, d7] }
  | _ => none }
def ExecGreatWrongFalsely : Prop := execGreatRow.holds Tryz.pinned (OpenSpec.ofChange execGreatWrong)

/-- 'hypercubelaw12.ExecTotal': WHATEVER THE INPUT: true; the input reads as it did. -/
def execTotalSpec : ChangeSpec := { name := "execTotal", fn := fun _ => fun
  | [d1, d2, d3, d4, d5, d6, d7] => { results := [.lit (.bool true)], args := [d1, d2, d3, d4, d5, d6, d7] }
  | _ => none }
def execTotalRow : OpenClaim := { program := "ytnjlkhhcfiedbaagreatdoor", sum := "43f0c86ad1bc163885674e0a87c30b457703bbea78a6ef24e82dbd12926c856e", func := "hypercube/hypercubelaw12.ExecTotal", spec := "execTotal", unfollowed := true, recurses := true, named := ["math/bits.deBruijn32tab", "math/bits.deBruijn64tab", "internal/strconv.uint64pow10"], apart := false, laid := [("math/bits.deBruijn32tab", laid_math_bits_deBruijn32tab), ("math/bits.deBruijn64tab", laid_math_bits_deBruijn64tab), ("internal/strconv.uint64pow10", laid_internal_strconv_uint64pow10)] }
def ExecTotalSaid : Prop := execTotalRow.holds Tryz.pinned (OpenSpec.ofChange execTotalSpec)

/-- ITS FALSE NEIGHBOUR: 'it returns false'. Refute it at one input. -/
def execTotalWrong : ChangeSpec := { name := "execTotal", fn := fun _ => fun
  | [d1, d2, d3, d4, d5, d6, d7] => { results := [.lit (.bool false)], args := [d1, d2, d3, d4, d5, d6, d7] }
  | _ => none }
def ExecTotalWrongFalsely : Prop := execTotalRow.holds Tryz.pinned (OpenSpec.ofChange execTotalWrong)

/- THE SECOND FORM. 'bulk': how many values and letters a reading holds, each counted each time it is reached (what is shared counts as often as it is met; a slice's spare places count too). A statement '..UptoSaid' is the law's where the arguments, and the package variables that the reading takes, are together of bulk at most 1048576: NARROWER than '..Said'. Prove '..Said' where nothing that the law and all that it calls make is longer than what came in: it says more and counts as full. Else prove '..UptoSaid'. A law counts once. -/
mutual
def uptoBulk {H : Type} : DataW H → Nat
  | .lit (.string bytes) => bytes.length + 1
  | .lit _ => 1
  | .nil => 1
  | .ptr d => uptoBulk d + 1
  | .slice elems spare => uptoBulkAll elems + uptoBulkAll spare + 1
  | .agg parts => uptoBulkAll parts + 1
  | .iface _ d => uptoBulk d + 1
  | .map entries => uptoBulkEntries entries + 1
  | .held _ => 1
def uptoBulkAll {H : Type} : List (DataW H) → Nat
  | [] => 0
  | d :: r => uptoBulk d + uptoBulkAll r
def uptoBulkEntries {H : Type} : List (Lit × DataW H) → Nat
  | [] => 0
  | x :: r => uptoBulkEntry x + uptoBulkEntries r
def uptoBulkEntry {H : Type} : Lit × DataW H → Nat
  | (.string bytes, d) => bytes.length + uptoBulk d + 1
  | (_, d) => uptoBulk d + 1
 end
def uptoSmall : (H : Type) → List (DataW H) → Bool := fun _ ds => decide (uptoBulkAll ds ≤ 1048576)
def OpenSpec.upto (s : _root_.Go.ChangeSpec) : _root_.Go.OpenSpec := { _root_.Go.OpenSpec.ofChange s with cond := some uptoSmall }

/-- 'hypercubelaw12.ExecAll', WHERE WHAT IT READS IS OF BULK AT MOST 1048576: true; the input reads as it did. -/
def execAllUptoRow : OpenClaim := { program := "ytnjlkhhcfiedbaagreatdoor", sum := "43f0c86ad1bc163885674e0a87c30b457703bbea78a6ef24e82dbd12926c856e", func := "hypercube/hypercubelaw12.ExecAll", spec := "execAll", unfollowed := true, recurses := true, named := ["math/bits.deBruijn32tab", "math/bits.deBruijn64tab", "internal/strconv.uint64pow10"], apart := false, laid := [("math/bits.deBruijn32tab", laid_math_bits_deBruijn32tab), ("math/bits.deBruijn64tab", laid_math_bits_deBruijn64tab), ("internal/strconv.uint64pow10", laid_internal_strconv_uint64pow10)], narrowed := true }
def ExecAllUptoSaid : Prop := execAllUptoRow.holds Tryz.pinned (OpenSpec.upto execAllSpec)

/-- 'hypercubelaw12.ExecGroups', WHERE WHAT IT READS IS OF BULK AT MOST 1048576: true; the input reads as it did. -/
def execGroupsUptoRow : OpenClaim := { program := "ytnjlkhhcfiedbaagreatdoor", sum := "43f0c86ad1bc163885674e0a87c30b457703bbea78a6ef24e82dbd12926c856e", func := "hypercube/hypercubelaw12.ExecGroups", spec := "execGroups", unfollowed := true, recurses := true, named := ["math/bits.deBruijn32tab", "math/bits.deBruijn64tab", "internal/strconv.uint64pow10"], apart := false, laid := [("math/bits.deBruijn32tab", laid_math_bits_deBruijn32tab), ("math/bits.deBruijn64tab", laid_math_bits_deBruijn64tab), ("internal/strconv.uint64pow10", laid_internal_strconv_uint64pow10)], narrowed := true }
def ExecGroupsUptoSaid : Prop := execGroupsUptoRow.holds Tryz.pinned (OpenSpec.upto execGroupsSpec)

/-- 'hypercubelaw12.ExecBounds', WHERE WHAT IT READS IS OF BULK AT MOST 1048576: true; the input reads as it did. -/
def execBoundsUptoRow : OpenClaim := { program := "ytnjlkhhcfiedbaagreatdoor", sum := "43f0c86ad1bc163885674e0a87c30b457703bbea78a6ef24e82dbd12926c856e", func := "hypercube/hypercubelaw12.ExecBounds", spec := "execBounds", unfollowed := true, recurses := true, named := ["math/bits.deBruijn32tab", "math/bits.deBruijn64tab", "internal/strconv.uint64pow10"], apart := false, laid := [("math/bits.deBruijn32tab", laid_math_bits_deBruijn32tab), ("math/bits.deBruijn64tab", laid_math_bits_deBruijn64tab), ("internal/strconv.uint64pow10", laid_internal_strconv_uint64pow10)], narrowed := true }
def ExecBoundsUptoSaid : Prop := execBoundsUptoRow.holds Tryz.pinned (OpenSpec.upto execBoundsSpec)

/-- 'hypercubelaw12.ExecErrs', WHERE WHAT IT READS IS OF BULK AT MOST 1048576: true; the input reads as it did. -/
def execErrsUptoRow : OpenClaim := { program := "ytnjlkhhcfiedbaagreatdoor", sum := "43f0c86ad1bc163885674e0a87c30b457703bbea78a6ef24e82dbd12926c856e", func := "hypercube/hypercubelaw12.ExecErrs", spec := "execErrs", unfollowed := true, recurses := true, named := ["math/bits.deBruijn32tab", "math/bits.deBruijn64tab", "internal/strconv.uint64pow10"], apart := false, laid := [("math/bits.deBruijn32tab", laid_math_bits_deBruijn32tab), ("math/bits.deBruijn64tab", laid_math_bits_deBruijn64tab), ("internal/strconv.uint64pow10", laid_internal_strconv_uint64pow10)], narrowed := true }
def ExecErrsUptoSaid : Prop := execErrsUptoRow.holds Tryz.pinned (OpenSpec.upto execErrsSpec)

/-- 'hypercubelaw12.ExecTwice', WHERE WHAT IT READS IS OF BULK AT MOST 1048576: true; the input reads as it did. -/
def execTwiceUptoRow : OpenClaim := { program := "ytnjlkhhcfiedbaagreatdoor", sum := "43f0c86ad1bc163885674e0a87c30b457703bbea78a6ef24e82dbd12926c856e", func := "hypercube/hypercubelaw12.ExecTwice", spec := "execTwice", unfollowed := true, recurses := true, named := ["math/bits.deBruijn32tab", "math/bits.deBruijn64tab", "internal/strconv.uint64pow10"], apart := false, laid := [("math/bits.deBruijn32tab", laid_math_bits_deBruijn32tab), ("math/bits.deBruijn64tab", laid_math_bits_deBruijn64tab), ("internal/strconv.uint64pow10", laid_internal_strconv_uint64pow10)], narrowed := true }
def ExecTwiceUptoSaid : Prop := execTwiceUptoRow.holds Tryz.pinned (OpenSpec.upto execTwiceSpec)

/-- 'hypercubelaw12.ExecOwn', WHERE WHAT IT READS IS OF BULK AT MOST 1048576: true; the input reads as it did. -/
def execOwnUptoRow : OpenClaim := { program := "ytnjlkhhcfiedbaagreatdoor", sum := "43f0c86ad1bc163885674e0a87c30b457703bbea78a6ef24e82dbd12926c856e", func := "hypercube/hypercubelaw12.ExecOwn", spec := "execOwn", unfollowed := true, recurses := true, named := ["math/bits.deBruijn32tab", "math/bits.deBruijn64tab", "internal/strconv.uint64pow10"], apart := false, laid := [("math/bits.deBruijn32tab", laid_math_bits_deBruijn32tab), ("math/bits.deBruijn64tab", laid_math_bits_deBruijn64tab), ("internal/strconv.uint64pow10", laid_internal_strconv_uint64pow10)], narrowed := true }
def ExecOwnUptoSaid : Prop := execOwnUptoRow.holds Tryz.pinned (OpenSpec.upto execOwnSpec)

/-- 'hypercubelaw12.ExecAlike', WHERE WHAT IT READS IS OF BULK AT MOST 1048576: true; the input reads as it did. -/
def execAlikeUptoRow : OpenClaim := { program := "ytnjlkhhcfiedbaagreatdoor", sum := "43f0c86ad1bc163885674e0a87c30b457703bbea78a6ef24e82dbd12926c856e", func := "hypercube/hypercubelaw12.ExecAlike", spec := "execAlike", unfollowed := true, recurses := true, named := ["math/bits.deBruijn32tab", "math/bits.deBruijn64tab", "internal/strconv.uint64pow10"], apart := false, laid := [("math/bits.deBruijn32tab", laid_math_bits_deBruijn32tab), ("math/bits.deBruijn64tab", laid_math_bits_deBruijn64tab), ("internal/strconv.uint64pow10", laid_internal_strconv_uint64pow10)], narrowed := true }
def ExecAlikeUptoSaid : Prop := execAlikeUptoRow.holds Tryz.pinned (OpenSpec.upto execAlikeSpec)

/-- 'hypercubelaw12.ExecGreat', WHERE WHAT IT READS IS OF BULK AT MOST 1048576: true; the input reads as it did. -/
def execGreatUptoRow : OpenClaim := { program := "ytnjlkhhcfiedbaagreatdoor", sum := "43f0c86ad1bc163885674e0a87c30b457703bbea78a6ef24e82dbd12926c856e", func := "hypercube/hypercubelaw12.ExecGreat", spec := "execGreat", unfollowed := true, recurses := true, named := ["math/bits.deBruijn32tab", "math/bits.deBruijn64tab", "internal/strconv.uint64pow10"], apart := false, laid := [("math/bits.deBruijn32tab", laid_math_bits_deBruijn32tab), ("math/bits.deBruijn64tab", laid_math_bits_deBruijn64tab), ("internal/strconv.uint64pow10", laid_internal_strconv_uint64pow10)], narrowed := true }
def ExecGreatUptoSaid : Prop := execGreatUptoRow.holds Tryz.pinned (OpenSpec.upto execGreatSpec)

/-- 'hypercubelaw12.ExecTotal', WHERE WHAT IT READS IS OF BULK AT MOST 1048576: true; the input reads as it did. -/
def execTotalUptoRow : OpenClaim := { program := "ytnjlkhhcfiedbaagreatdoor", sum := "43f0c86ad1bc163885674e0a87c30b457703bbea78a6ef24e82dbd12926c856e", func := "hypercube/hypercubelaw12.ExecTotal", spec := "execTotal", unfollowed := true, recurses := true, named := ["math/bits.deBruijn32tab", "math/bits.deBruijn64tab", "internal/strconv.uint64pow10"], apart := false, laid := [("math/bits.deBruijn32tab", laid_math_bits_deBruijn32tab), ("math/bits.deBruijn64tab", laid_math_bits_deBruijn64tab), ("internal/strconv.uint64pow10", laid_internal_strconv_uint64pow10)], narrowed := true }
def ExecTotalUptoSaid : Prop := execTotalUptoRow.holds Tryz.pinned (OpenSpec.upto execTotalSpec)

end Rows
end Go.Proofs.YtnjlkhhcfiedbaaGreatDoor
