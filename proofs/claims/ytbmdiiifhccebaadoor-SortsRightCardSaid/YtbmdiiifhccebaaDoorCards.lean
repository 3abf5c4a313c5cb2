/-
  DERIVED. GIVEN WITH THE SEED: THE CARDS: each row of YtbmdiiifhccebaaDoorRows.lean that lists a variable, with what it lists TIED to the program's text (the seventh form; the later family's looks); each row that meets fmt, with fmt's text TOLD by the authors' own Lean function (tested against real Go, not proved from fmt's source: count such statements apart). THE CARD IS WHAT COUNTS. Prove the row's statement (the work); the ties are given (YtbmdiiifhccebaaDoorTie.lean); close each card by the builder's one call (the guide's Derived/Test/ToyasCard.lean, 'card_holds'). Laid BY PROGRAM, IN A SANDBOX (cutbox-door.mjs). By AI agents, Wed Nov 11 2026. No macro, syntax, notation, axiom, sorry.
-/
import Derived.Test.YtbmdiiifhccebaaDoorRows
import GoSem.ClaimSeven
namespace Go.Proofs.YtbmdiiifhccebaaDoor
namespace Rows

/-- THE TIED CARD OF 'hypercubelaw10.SortsRight'. -/
def sortsRightCard : Claim7 := { stood := { row := sortsRightRow, standIns := [], harness := (true, "27e5a70c3e6e7f7560975126a8bf72ee3f8442199791468ee1cb887ec7d1e652"), looks := false }, kinds := [], alts := [], laidByText := true, laidKinds := [.data, .data], laidTests := true, laidLooks := .later }
def SortsRightCardSaid : Prop := Claim7.holds Tryd.pinned (.plain (OpenSpec.ofChange sortsRightSpec)) sortsRightCard

/-- THE TIED CARD OF 'hypercubelaw10.SortsScans'. -/
def sortsScansCard : Claim7 := { stood := { row := sortsScansRow, standIns := [], harness := (true, "27e5a70c3e6e7f7560975126a8bf72ee3f8442199791468ee1cb887ec7d1e652"), looks := false }, kinds := [], alts := [], laidByText := true, laidKinds := [.data, .data], laidTests := true, laidLooks := .later }
def SortsScansCardSaid : Prop := Claim7.holds Tryd.pinned (.plain (OpenSpec.ofChange sortsScansSpec)) sortsScansCard

/-- THE TIED CARD OF 'hypercubelaw10.SortsLevels'. -/
def sortsLevelsCard : Claim7 := { stood := { row := sortsLevelsRow, standIns := [], harness := (true, "27e5a70c3e6e7f7560975126a8bf72ee3f8442199791468ee1cb887ec7d1e652"), looks := false }, kinds := [], alts := [], laidByText := true, laidKinds := [.data, .data], laidTests := true, laidLooks := .later }
def SortsLevelsCardSaid : Prop := Claim7.holds Tryd.pinned (.plain (OpenSpec.ofChange sortsLevelsSpec)) sortsLevelsCard

/-- THE TIED CARD OF 'hypercubelaw10.SortsCost'. -/
def sortsCostCard : Claim7 := { stood := { row := sortsCostRow, standIns := [], harness := (true, "27e5a70c3e6e7f7560975126a8bf72ee3f8442199791468ee1cb887ec7d1e652"), looks := false }, kinds := [], alts := [], laidByText := true, laidKinds := [.data, .data], laidTests := true, laidLooks := .later }
def SortsCostCardSaid : Prop := Claim7.holds Tryd.pinned (.plain (OpenSpec.ofChange sortsCostSpec)) sortsCostCard

/-- THE TIED CARD OF 'hypercubelaw10.SortsKnown'. -/
def sortsKnownCard : Claim7 := { stood := { row := sortsKnownRow, standIns := [], harness := (true, "27e5a70c3e6e7f7560975126a8bf72ee3f8442199791468ee1cb887ec7d1e652"), looks := false }, kinds := [], alts := [], laidByText := true, laidKinds := [.data, .data], laidTests := true, laidLooks := .later }
def SortsKnownCardSaid : Prop := Claim7.holds Tryd.pinned (.plain (OpenSpec.ofChange sortsKnownSpec)) sortsKnownCard

/-- THE TIED CARD OF 'hypercubelaw10.SortsMany'. -/
def sortsManyCard : Claim7 := { stood := { row := sortsManyRow, standIns := [], harness := (true, "27e5a70c3e6e7f7560975126a8bf72ee3f8442199791468ee1cb887ec7d1e652"), looks := false }, kinds := [], alts := [], laidByText := true, laidKinds := [.data, .data], laidTests := true, laidLooks := .later }
def SortsManyCardSaid : Prop := Claim7.holds Tryd.pinned (.plain (OpenSpec.ofChange sortsManySpec)) sortsManyCard

/-- THE SECOND FORM's CARD OF 'hypercubelaw10.SortsRight'. -/
def sortsRightUptoCard : Claim7 := { stood := { row := sortsRightUptoRow, standIns := [], harness := (true, "27e5a70c3e6e7f7560975126a8bf72ee3f8442199791468ee1cb887ec7d1e652"), looks := false }, kinds := [], alts := [], laidByText := true, laidKinds := [.data, .data], laidTests := true, laidLooks := .later }
def SortsRightUptoCardSaid : Prop := Claim7.holds Tryd.pinned (.plain (OpenSpec.upto sortsRightSpec)) sortsRightUptoCard

/-- THE SECOND FORM's CARD OF 'hypercubelaw10.SortsScans'. -/
def sortsScansUptoCard : Claim7 := { stood := { row := sortsScansUptoRow, standIns := [], harness := (true, "27e5a70c3e6e7f7560975126a8bf72ee3f8442199791468ee1cb887ec7d1e652"), looks := false }, kinds := [], alts := [], laidByText := true, laidKinds := [.data, .data], laidTests := true, laidLooks := .later }
def SortsScansUptoCardSaid : Prop := Claim7.holds Tryd.pinned (.plain (OpenSpec.upto sortsScansSpec)) sortsScansUptoCard

/-- THE SECOND FORM's CARD OF 'hypercubelaw10.SortsLevels'. -/
def sortsLevelsUptoCard : Claim7 := { stood := { row := sortsLevelsUptoRow, standIns := [], harness := (true, "27e5a70c3e6e7f7560975126a8bf72ee3f8442199791468ee1cb887ec7d1e652"), looks := false }, kinds := [], alts := [], laidByText := true, laidKinds := [.data, .data], laidTests := true, laidLooks := .later }
def SortsLevelsUptoCardSaid : Prop := Claim7.holds Tryd.pinned (.plain (OpenSpec.upto sortsLevelsSpec)) sortsLevelsUptoCard

/-- THE SECOND FORM's CARD OF 'hypercubelaw10.SortsCost'. -/
def sortsCostUptoCard : Claim7 := { stood := { row := sortsCostUptoRow, standIns := [], harness := (true, "27e5a70c3e6e7f7560975126a8bf72ee3f8442199791468ee1cb887ec7d1e652"), looks := false }, kinds := [], alts := [], laidByText := true, laidKinds := [.data, .data], laidTests := true, laidLooks := .later }
def SortsCostUptoCardSaid : Prop := Claim7.holds Tryd.pinned (.plain (OpenSpec.upto sortsCostSpec)) sortsCostUptoCard

/-- THE SECOND FORM's CARD OF 'hypercubelaw10.SortsKnown'. -/
def sortsKnownUptoCard : Claim7 := { stood := { row := sortsKnownUptoRow, standIns := [], harness := (true, "27e5a70c3e6e7f7560975126a8bf72ee3f8442199791468ee1cb887ec7d1e652"), looks := false }, kinds := [], alts := [], laidByText := true, laidKinds := [.data, .data], laidTests := true, laidLooks := .later }
def SortsKnownUptoCardSaid : Prop := Claim7.holds Tryd.pinned (.plain (OpenSpec.upto sortsKnownSpec)) sortsKnownUptoCard

/-- THE SECOND FORM's CARD OF 'hypercubelaw10.SortsMany'. -/
def sortsManyUptoCard : Claim7 := { stood := { row := sortsManyUptoRow, standIns := [], harness := (true, "27e5a70c3e6e7f7560975126a8bf72ee3f8442199791468ee1cb887ec7d1e652"), looks := false }, kinds := [], alts := [], laidByText := true, laidKinds := [.data, .data], laidTests := true, laidLooks := .later }
def SortsManyUptoCardSaid : Prop := Claim7.holds Tryd.pinned (.plain (OpenSpec.upto sortsManySpec)) sortsManyUptoCard
end Rows
end Go.Proofs.YtbmdiiifhccebaaDoor
