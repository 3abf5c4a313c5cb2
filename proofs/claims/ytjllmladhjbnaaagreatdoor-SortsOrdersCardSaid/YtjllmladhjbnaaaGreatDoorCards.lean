/-
  DERIVED. GIVEN WITH THE SEED: THE CARDS: each row of YtjllmladhjbnaaaGreatDoorRows.lean that lists a variable, with what it lists TIED to the program's text (the seventh form; the later family's looks); each row that meets fmt, with fmt's text TOLD by the authors' own Lean function (tested against real Go, not proved from fmt's source: count such statements apart). THE CARD IS WHAT COUNTS. Prove the row's statement (the work); the ties are given (YtjllmladhjbnaaaGreatDoorTie.lean); close each card by the builder's one call (the guide's Derived/Test/ToyasCard.lean, 'card_holds'). Laid BY PROGRAM, IN A SANDBOX (cutbox-door.mjs). By AI agents, Wed Nov 11 2026. No macro, syntax, notation, axiom, sorry.
-/
import Derived.Test.YtjllmladhjbnaaaGreatDoorRows
import GoSem.ClaimSeven
namespace Go.Proofs.YtjllmladhjbnaaaGreatDoor
namespace Rows

/-- THE TIED CARD OF 'hypercubelaw10.SortsAll'. -/
def sortsAllCard : Claim7 := { stood := { row := sortsAllRow, standIns := [], harness := (true, "17a54e5d74d9e82a21217c52e9519a38791dd4a0e59bba21469215f293f3c79e"), looks := false }, kinds := [], alts := [], laidByText := true, laidKinds := [.data, .data], laidTests := true, laidLooks := .later }
def SortsAllCardSaid : Prop := Claim7.holds Tryz.pinned (.plain (OpenSpec.ofChange sortsAllSpec)) sortsAllCard

/-- THE TIED CARD OF 'hypercubelaw10.SortsOrders'. -/
def sortsOrdersCard : Claim7 := { stood := { row := sortsOrdersRow, standIns := [], harness := (true, "17a54e5d74d9e82a21217c52e9519a38791dd4a0e59bba21469215f293f3c79e"), looks := false }, kinds := [], alts := [], laidByText := true, laidKinds := [.data, .data], laidTests := true, laidLooks := .later }
def SortsOrdersCardSaid : Prop := Claim7.holds Tryz.pinned (.plain (OpenSpec.ofChange sortsOrdersSpec)) sortsOrdersCard

/-- THE SECOND FORM's CARD OF 'hypercubelaw10.SortsAll'. -/
def sortsAllUptoCard : Claim7 := { stood := { row := sortsAllUptoRow, standIns := [], harness := (true, "17a54e5d74d9e82a21217c52e9519a38791dd4a0e59bba21469215f293f3c79e"), looks := false }, kinds := [], alts := [], laidByText := true, laidKinds := [.data, .data], laidTests := true, laidLooks := .later }
def SortsAllUptoCardSaid : Prop := Claim7.holds Tryz.pinned (.plain (OpenSpec.upto sortsAllSpec)) sortsAllUptoCard

/-- THE SECOND FORM's CARD OF 'hypercubelaw10.SortsOrders'. -/
def sortsOrdersUptoCard : Claim7 := { stood := { row := sortsOrdersUptoRow, standIns := [], harness := (true, "17a54e5d74d9e82a21217c52e9519a38791dd4a0e59bba21469215f293f3c79e"), looks := false }, kinds := [], alts := [], laidByText := true, laidKinds := [.data, .data], laidTests := true, laidLooks := .later }
def SortsOrdersUptoCardSaid : Prop := Claim7.holds Tryz.pinned (.plain (OpenSpec.upto sortsOrdersSpec)) sortsOrdersUptoCard
end Rows
end Go.Proofs.YtjllmladhjbnaaaGreatDoor
