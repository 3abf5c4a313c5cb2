/-
  DERIVED. GIVEN WITH THE SEED: THE CARDS: each row of YtjllmladhjbnaaaDoorRows.lean that lists a variable, with what it lists TIED to the program's text (the seventh form; the later family's looks); each row that meets fmt, with fmt's text TOLD by the authors' own Lean function (tested against real Go, not proved from fmt's source: count such statements apart). THE CARD IS WHAT COUNTS. Prove the row's statement (the work); the ties are given (YtjllmladhjbnaaaDoorTie.lean); close each card by the builder's one call (the guide's Derived/Test/ToyasCard.lean, 'card_holds'). Laid BY PROGRAM, IN A SANDBOX (cutbox-door.mjs). By AI agents, Wed Nov 11 2026. No macro, syntax, notation, axiom, sorry.
-/
import Derived.Test.YtjllmladhjbnaaaDoorRows
import GoSem.ClaimSeven
namespace Go.Proofs.YtjllmladhjbnaaaDoor
namespace Rows

/-- THE TIED CARD OF 'hypercubelaw11.TreeAll'. -/
def treeAllCard : Claim7 := { stood := { row := treeAllRow, standIns := [], harness := (true, "98d12238de78bbdf95a651dec44803607ac491d846773f366644fd27fa88f5a7"), looks := false }, kinds := [], alts := [], laidByText := true, laidKinds := [.data, .data], laidTests := true, laidLooks := .later }
def TreeAllCardSaid : Prop := Claim7.holds Tryd.pinned (.plain (OpenSpec.ofChange treeAllSpec)) treeAllCard

/-- THE TIED CARD OF 'hypercubelaw11.TreeLeast'. -/
def treeLeastCard : Claim7 := { stood := { row := treeLeastRow, standIns := [], harness := (true, "98d12238de78bbdf95a651dec44803607ac491d846773f366644fd27fa88f5a7"), looks := false }, kinds := [], alts := [], laidByText := true, laidKinds := [.data, .data], laidTests := true, laidLooks := .later }
def TreeLeastCardSaid : Prop := Claim7.holds Tryd.pinned (.plain (OpenSpec.ofChange treeLeastSpec)) treeLeastCard

/-- THE TIED CARD OF 'hypercubelaw11.TreeDear'. -/
def treeDearCard : Claim7 := { stood := { row := treeDearRow, standIns := [], harness := (true, "98d12238de78bbdf95a651dec44803607ac491d846773f366644fd27fa88f5a7"), looks := false }, kinds := [], alts := [], laidByText := true, laidKinds := [.data, .data], laidTests := true, laidLooks := .later }
def TreeDearCardSaid : Prop := Claim7.holds Tryd.pinned (.plain (OpenSpec.ofChange treeDearSpec)) treeDearCard

/-- THE TIED CARD OF 'hypercubelaw11.TreeKnown'. -/
def treeKnownCard : Claim7 := { stood := { row := treeKnownRow, standIns := [], harness := (true, "98d12238de78bbdf95a651dec44803607ac491d846773f366644fd27fa88f5a7"), looks := false }, kinds := [], alts := [], laidByText := true, laidKinds := [.data, .data], laidTests := true, laidLooks := .later }
def TreeKnownCardSaid : Prop := Claim7.holds Tryd.pinned (.plain (OpenSpec.ofChange treeKnownSpec)) treeKnownCard

/-- THE TIED CARD OF 'hypercubelaw11.TreeFew'. -/
def treeFewCard : Claim7 := { stood := { row := treeFewRow, standIns := [], harness := (true, "98d12238de78bbdf95a651dec44803607ac491d846773f366644fd27fa88f5a7"), looks := false }, kinds := [], alts := [], laidByText := true, laidKinds := [.data, .data], laidTests := true, laidLooks := .later }
def TreeFewCardSaid : Prop := Claim7.holds Tryd.pinned (.plain (OpenSpec.ofChange treeFewSpec)) treeFewCard

/-- THE TIED CARD OF 'hypercubelaw11.TreeMany'. -/
def treeManyCard : Claim7 := { stood := { row := treeManyRow, standIns := [], harness := (true, "98d12238de78bbdf95a651dec44803607ac491d846773f366644fd27fa88f5a7"), looks := false }, kinds := [], alts := [], laidByText := true, laidKinds := [.data, .data], laidTests := true, laidLooks := .later }
def TreeManyCardSaid : Prop := Claim7.holds Tryd.pinned (.plain (OpenSpec.ofChange treeManySpec)) treeManyCard

/-- THE SECOND FORM's CARD OF 'hypercubelaw11.TreeAll'. -/
def treeAllUptoCard : Claim7 := { stood := { row := treeAllUptoRow, standIns := [], harness := (true, "98d12238de78bbdf95a651dec44803607ac491d846773f366644fd27fa88f5a7"), looks := false }, kinds := [], alts := [], laidByText := true, laidKinds := [.data, .data], laidTests := true, laidLooks := .later }
def TreeAllUptoCardSaid : Prop := Claim7.holds Tryd.pinned (.plain (OpenSpec.upto treeAllSpec)) treeAllUptoCard

/-- THE SECOND FORM's CARD OF 'hypercubelaw11.TreeLeast'. -/
def treeLeastUptoCard : Claim7 := { stood := { row := treeLeastUptoRow, standIns := [], harness := (true, "98d12238de78bbdf95a651dec44803607ac491d846773f366644fd27fa88f5a7"), looks := false }, kinds := [], alts := [], laidByText := true, laidKinds := [.data, .data], laidTests := true, laidLooks := .later }
def TreeLeastUptoCardSaid : Prop := Claim7.holds Tryd.pinned (.plain (OpenSpec.upto treeLeastSpec)) treeLeastUptoCard

/-- THE SECOND FORM's CARD OF 'hypercubelaw11.TreeDear'. -/
def treeDearUptoCard : Claim7 := { stood := { row := treeDearUptoRow, standIns := [], harness := (true, "98d12238de78bbdf95a651dec44803607ac491d846773f366644fd27fa88f5a7"), looks := false }, kinds := [], alts := [], laidByText := true, laidKinds := [.data, .data], laidTests := true, laidLooks := .later }
def TreeDearUptoCardSaid : Prop := Claim7.holds Tryd.pinned (.plain (OpenSpec.upto treeDearSpec)) treeDearUptoCard

/-- THE SECOND FORM's CARD OF 'hypercubelaw11.TreeKnown'. -/
def treeKnownUptoCard : Claim7 := { stood := { row := treeKnownUptoRow, standIns := [], harness := (true, "98d12238de78bbdf95a651dec44803607ac491d846773f366644fd27fa88f5a7"), looks := false }, kinds := [], alts := [], laidByText := true, laidKinds := [.data, .data], laidTests := true, laidLooks := .later }
def TreeKnownUptoCardSaid : Prop := Claim7.holds Tryd.pinned (.plain (OpenSpec.upto treeKnownSpec)) treeKnownUptoCard

/-- THE SECOND FORM's CARD OF 'hypercubelaw11.TreeFew'. -/
def treeFewUptoCard : Claim7 := { stood := { row := treeFewUptoRow, standIns := [], harness := (true, "98d12238de78bbdf95a651dec44803607ac491d846773f366644fd27fa88f5a7"), looks := false }, kinds := [], alts := [], laidByText := true, laidKinds := [.data, .data], laidTests := true, laidLooks := .later }
def TreeFewUptoCardSaid : Prop := Claim7.holds Tryd.pinned (.plain (OpenSpec.upto treeFewSpec)) treeFewUptoCard

/-- THE SECOND FORM's CARD OF 'hypercubelaw11.TreeMany'. -/
def treeManyUptoCard : Claim7 := { stood := { row := treeManyUptoRow, standIns := [], harness := (true, "98d12238de78bbdf95a651dec44803607ac491d846773f366644fd27fa88f5a7"), looks := false }, kinds := [], alts := [], laidByText := true, laidKinds := [.data, .data], laidTests := true, laidLooks := .later }
def TreeManyUptoCardSaid : Prop := Claim7.holds Tryd.pinned (.plain (OpenSpec.upto treeManySpec)) treeManyUptoCard
end Rows
end Go.Proofs.YtjllmladhjbnaaaDoor
