/-
  DERIVED. GIVEN WITH THE SEED: THE CARDS: each row of YtbkcclmhgnplcaaDoorRows.lean that lists a variable, with what it lists TIED to the program's text (the seventh form; the later family's looks); each row that meets fmt, with fmt's text TOLD by the authors' own Lean function (tested against real Go, not proved from fmt's source: count such statements apart). THE CARD IS WHAT COUNTS. Prove the row's statement (the work); the ties are given (YtbkcclmhgnplcaaDoorTie.lean); close each card by the builder's one call (the guide's Derived/Test/ToyasCard.lean, 'card_holds'). Laid BY PROGRAM, IN A SANDBOX (cutbox-door.mjs). By AI agents, Wed Nov 11 2026. No macro, syntax, notation, axiom, sorry.
-/
import Derived.Test.YtbkcclmhgnplcaaDoorRows
import GoSem.ClaimSeven
namespace Go.Proofs.YtbkcclmhgnplcaaDoor
namespace Rows

/-- THE TIED CARD OF 'hypercubelaw2.CellAll'. -/
def cellAllCard : Claim7 := { stood := { row := cellAllRow, standIns := [], harness := (true, "13ccd2c31fe8cc04b2ad8b58023df9b3df165ddaff86d33cac046b11460e06ba"), looks := false }, kinds := [], alts := [], laidByText := true, laidKinds := [.data, .data], laidTests := true, laidLooks := .later }
def CellAllCardSaid : Prop := Claim7.holds Tryd.pinned (.plain (OpenSpec.ofChange cellAllSpec)) cellAllCard

/-- THE TIED CARD OF 'hypercubelaw2.CellLess'. -/
def cellLessCard : Claim7 := { stood := { row := cellLessRow, standIns := [], harness := (true, "13ccd2c31fe8cc04b2ad8b58023df9b3df165ddaff86d33cac046b11460e06ba"), looks := false }, kinds := [], alts := [], laidByText := true, laidKinds := [.data, .data], laidTests := true, laidLooks := .later }
def CellLessCardSaid : Prop := Claim7.holds Tryd.pinned (.plain (OpenSpec.ofChange cellLessSpec)) cellLessCard

/-- THE TIED CARD OF 'hypercubelaw2.CellJoins'. -/
def cellJoinsCard : Claim7 := { stood := { row := cellJoinsRow, standIns := [], harness := (true, "13ccd2c31fe8cc04b2ad8b58023df9b3df165ddaff86d33cac046b11460e06ba"), looks := false }, kinds := [], alts := [], laidByText := true, laidKinds := [.data, .data], laidTests := true, laidLooks := .later }
def CellJoinsCardSaid : Prop := Claim7.holds Tryd.pinned (.plain (OpenSpec.ofChange cellJoinsSpec)) cellJoinsCard

/-- THE TIED CARD OF 'hypercubelaw2.CellGroups'. -/
def cellGroupsCard : Claim7 := { stood := { row := cellGroupsRow, standIns := [], harness := (true, "13ccd2c31fe8cc04b2ad8b58023df9b3df165ddaff86d33cac046b11460e06ba"), looks := false }, kinds := [], alts := [], laidByText := true, laidKinds := [.data, .data], laidTests := true, laidLooks := .later }
def CellGroupsCardSaid : Prop := Claim7.holds Tryd.pinned (.plain (OpenSpec.ofChange cellGroupsSpec)) cellGroupsCard

/-- THE TIED CARD OF 'hypercubelaw2.CellNarrows'. -/
def cellNarrowsCard : Claim7 := { stood := { row := cellNarrowsRow, standIns := [], harness := (true, "13ccd2c31fe8cc04b2ad8b58023df9b3df165ddaff86d33cac046b11460e06ba"), looks := false }, kinds := [], alts := [], laidByText := true, laidKinds := [.data, .data], laidTests := true, laidLooks := .later }
def CellNarrowsCardSaid : Prop := Claim7.holds Tryd.pinned (.plain (OpenSpec.ofChange cellNarrowsSpec)) cellNarrowsCard

/-- THE TIED CARD OF 'hypercubelaw2.CellBack'. -/
def cellBackCard : Claim7 := { stood := { row := cellBackRow, standIns := [], harness := (true, "13ccd2c31fe8cc04b2ad8b58023df9b3df165ddaff86d33cac046b11460e06ba"), looks := false }, kinds := [], alts := [], laidByText := true, laidKinds := [.data, .data], laidTests := true, laidLooks := .later }
def CellBackCardSaid : Prop := Claim7.holds Tryd.pinned (.plain (OpenSpec.ofChange cellBackSpec)) cellBackCard

/-- THE TIED CARD OF 'hypercubelaw2.CellReads'. -/
def cellReadsCard : Claim7 := { stood := { row := cellReadsRow, standIns := [], harness := (true, "13ccd2c31fe8cc04b2ad8b58023df9b3df165ddaff86d33cac046b11460e06ba"), looks := false }, kinds := [], alts := [], laidByText := true, laidKinds := [.data, .data], laidTests := true, laidLooks := .later }
def CellReadsCardSaid : Prop := Claim7.holds Tryd.pinned (.plain (OpenSpec.ofChange cellReadsSpec)) cellReadsCard

/-- THE TIED CARD OF 'hypercubelaw2.CellKnown'. -/
def cellKnownCard : Claim7 := { stood := { row := cellKnownRow, standIns := [], harness := (true, "13ccd2c31fe8cc04b2ad8b58023df9b3df165ddaff86d33cac046b11460e06ba"), looks := false }, kinds := [], alts := [], laidByText := true, laidKinds := [.data, .data], laidTests := true, laidLooks := .later }
def CellKnownCardSaid : Prop := Claim7.holds Tryd.pinned (.plain (OpenSpec.ofChange cellKnownSpec)) cellKnownCard

/-- THE TIED CARD OF 'hypercubelaw2.CellOwn'. -/
def cellOwnCard : Claim7 := { stood := { row := cellOwnRow, standIns := [], harness := (true, "13ccd2c31fe8cc04b2ad8b58023df9b3df165ddaff86d33cac046b11460e06ba"), looks := false }, kinds := [], alts := [], laidByText := true, laidKinds := [.data, .data], laidTests := true, laidLooks := .later }
def CellOwnCardSaid : Prop := Claim7.holds Tryd.pinned (.plain (OpenSpec.ofChange cellOwnSpec)) cellOwnCard

/-- THE TIED CARD OF 'hypercubelaw2.CellParts'. -/
def cellPartsCard : Claim7 := { stood := { row := cellPartsRow, standIns := [], harness := (true, "13ccd2c31fe8cc04b2ad8b58023df9b3df165ddaff86d33cac046b11460e06ba"), looks := false }, kinds := [], alts := [], laidByText := true, laidKinds := [.data, .data], laidTests := true, laidLooks := .later }
def CellPartsCardSaid : Prop := Claim7.holds Tryd.pinned (.plain (OpenSpec.ofChange cellPartsSpec)) cellPartsCard

/-- THE TIED CARD OF 'hypercubelaw2.CellTotals'. -/
def cellTotalsCard : Claim7 := { stood := { row := cellTotalsRow, standIns := [], harness := (true, "13ccd2c31fe8cc04b2ad8b58023df9b3df165ddaff86d33cac046b11460e06ba"), looks := false }, kinds := [], alts := [], laidByText := true, laidKinds := [.data, .data], laidTests := true, laidLooks := .later }
def CellTotalsCardSaid : Prop := Claim7.holds Tryd.pinned (.plain (OpenSpec.ofChange cellTotalsSpec)) cellTotalsCard

/-- THE TIED CARD OF 'hypercubelaw2.CellWays'. -/
def cellWaysCard : Claim7 := { stood := { row := cellWaysRow, standIns := [], harness := (true, "13ccd2c31fe8cc04b2ad8b58023df9b3df165ddaff86d33cac046b11460e06ba"), looks := false }, kinds := [], alts := [], laidByText := true, laidKinds := [.data, .data], laidTests := true, laidLooks := .later }
def CellWaysCardSaid : Prop := Claim7.holds Tryd.pinned (.plain (OpenSpec.ofChange cellWaysSpec)) cellWaysCard

/-- THE TIED CARD OF 'hypercubelaw2.CellSorts'. -/
def cellSortsCard : Claim7 := { stood := { row := cellSortsRow, standIns := [], harness := (true, "13ccd2c31fe8cc04b2ad8b58023df9b3df165ddaff86d33cac046b11460e06ba"), looks := false }, kinds := [], alts := [], laidByText := true, laidKinds := [.data, .data], laidTests := true, laidLooks := .later }
def CellSortsCardSaid : Prop := Claim7.holds Tryd.pinned (.plain (OpenSpec.ofChange cellSortsSpec)) cellSortsCard

/-- THE SECOND FORM's CARD OF 'hypercubelaw2.CellAll'. -/
def cellAllUptoCard : Claim7 := { stood := { row := cellAllUptoRow, standIns := [], harness := (true, "13ccd2c31fe8cc04b2ad8b58023df9b3df165ddaff86d33cac046b11460e06ba"), looks := false }, kinds := [], alts := [], laidByText := true, laidKinds := [.data, .data], laidTests := true, laidLooks := .later }
def CellAllUptoCardSaid : Prop := Claim7.holds Tryd.pinned (.plain (OpenSpec.upto cellAllSpec)) cellAllUptoCard

/-- THE SECOND FORM's CARD OF 'hypercubelaw2.CellLess'. -/
def cellLessUptoCard : Claim7 := { stood := { row := cellLessUptoRow, standIns := [], harness := (true, "13ccd2c31fe8cc04b2ad8b58023df9b3df165ddaff86d33cac046b11460e06ba"), looks := false }, kinds := [], alts := [], laidByText := true, laidKinds := [.data, .data], laidTests := true, laidLooks := .later }
def CellLessUptoCardSaid : Prop := Claim7.holds Tryd.pinned (.plain (OpenSpec.upto cellLessSpec)) cellLessUptoCard

/-- THE SECOND FORM's CARD OF 'hypercubelaw2.CellJoins'. -/
def cellJoinsUptoCard : Claim7 := { stood := { row := cellJoinsUptoRow, standIns := [], harness := (true, "13ccd2c31fe8cc04b2ad8b58023df9b3df165ddaff86d33cac046b11460e06ba"), looks := false }, kinds := [], alts := [], laidByText := true, laidKinds := [.data, .data], laidTests := true, laidLooks := .later }
def CellJoinsUptoCardSaid : Prop := Claim7.holds Tryd.pinned (.plain (OpenSpec.upto cellJoinsSpec)) cellJoinsUptoCard

/-- THE SECOND FORM's CARD OF 'hypercubelaw2.CellGroups'. -/
def cellGroupsUptoCard : Claim7 := { stood := { row := cellGroupsUptoRow, standIns := [], harness := (true, "13ccd2c31fe8cc04b2ad8b58023df9b3df165ddaff86d33cac046b11460e06ba"), looks := false }, kinds := [], alts := [], laidByText := true, laidKinds := [.data, .data], laidTests := true, laidLooks := .later }
def CellGroupsUptoCardSaid : Prop := Claim7.holds Tryd.pinned (.plain (OpenSpec.upto cellGroupsSpec)) cellGroupsUptoCard

/-- THE SECOND FORM's CARD OF 'hypercubelaw2.CellNarrows'. -/
def cellNarrowsUptoCard : Claim7 := { stood := { row := cellNarrowsUptoRow, standIns := [], harness := (true, "13ccd2c31fe8cc04b2ad8b58023df9b3df165ddaff86d33cac046b11460e06ba"), looks := false }, kinds := [], alts := [], laidByText := true, laidKinds := [.data, .data], laidTests := true, laidLooks := .later }
def CellNarrowsUptoCardSaid : Prop := Claim7.holds Tryd.pinned (.plain (OpenSpec.upto cellNarrowsSpec)) cellNarrowsUptoCard

/-- THE SECOND FORM's CARD OF 'hypercubelaw2.CellBack'. -/
def cellBackUptoCard : Claim7 := { stood := { row := cellBackUptoRow, standIns := [], harness := (true, "13ccd2c31fe8cc04b2ad8b58023df9b3df165ddaff86d33cac046b11460e06ba"), looks := false }, kinds := [], alts := [], laidByText := true, laidKinds := [.data, .data], laidTests := true, laidLooks := .later }
def CellBackUptoCardSaid : Prop := Claim7.holds Tryd.pinned (.plain (OpenSpec.upto cellBackSpec)) cellBackUptoCard

/-- THE SECOND FORM's CARD OF 'hypercubelaw2.CellReads'. -/
def cellReadsUptoCard : Claim7 := { stood := { row := cellReadsUptoRow, standIns := [], harness := (true, "13ccd2c31fe8cc04b2ad8b58023df9b3df165ddaff86d33cac046b11460e06ba"), looks := false }, kinds := [], alts := [], laidByText := true, laidKinds := [.data, .data], laidTests := true, laidLooks := .later }
def CellReadsUptoCardSaid : Prop := Claim7.holds Tryd.pinned (.plain (OpenSpec.upto cellReadsSpec)) cellReadsUptoCard

/-- THE SECOND FORM's CARD OF 'hypercubelaw2.CellKnown'. -/
def cellKnownUptoCard : Claim7 := { stood := { row := cellKnownUptoRow, standIns := [], harness := (true, "13ccd2c31fe8cc04b2ad8b58023df9b3df165ddaff86d33cac046b11460e06ba"), looks := false }, kinds := [], alts := [], laidByText := true, laidKinds := [.data, .data], laidTests := true, laidLooks := .later }
def CellKnownUptoCardSaid : Prop := Claim7.holds Tryd.pinned (.plain (OpenSpec.upto cellKnownSpec)) cellKnownUptoCard

/-- THE SECOND FORM's CARD OF 'hypercubelaw2.CellOwn'. -/
def cellOwnUptoCard : Claim7 := { stood := { row := cellOwnUptoRow, standIns := [], harness := (true, "13ccd2c31fe8cc04b2ad8b58023df9b3df165ddaff86d33cac046b11460e06ba"), looks := false }, kinds := [], alts := [], laidByText := true, laidKinds := [.data, .data], laidTests := true, laidLooks := .later }
def CellOwnUptoCardSaid : Prop := Claim7.holds Tryd.pinned (.plain (OpenSpec.upto cellOwnSpec)) cellOwnUptoCard

/-- THE SECOND FORM's CARD OF 'hypercubelaw2.CellParts'. -/
def cellPartsUptoCard : Claim7 := { stood := { row := cellPartsUptoRow, standIns := [], harness := (true, "13ccd2c31fe8cc04b2ad8b58023df9b3df165ddaff86d33cac046b11460e06ba"), looks := false }, kinds := [], alts := [], laidByText := true, laidKinds := [.data, .data], laidTests := true, laidLooks := .later }
def CellPartsUptoCardSaid : Prop := Claim7.holds Tryd.pinned (.plain (OpenSpec.upto cellPartsSpec)) cellPartsUptoCard

/-- THE SECOND FORM's CARD OF 'hypercubelaw2.CellTotals'. -/
def cellTotalsUptoCard : Claim7 := { stood := { row := cellTotalsUptoRow, standIns := [], harness := (true, "13ccd2c31fe8cc04b2ad8b58023df9b3df165ddaff86d33cac046b11460e06ba"), looks := false }, kinds := [], alts := [], laidByText := true, laidKinds := [.data, .data], laidTests := true, laidLooks := .later }
def CellTotalsUptoCardSaid : Prop := Claim7.holds Tryd.pinned (.plain (OpenSpec.upto cellTotalsSpec)) cellTotalsUptoCard

/-- THE SECOND FORM's CARD OF 'hypercubelaw2.CellWays'. -/
def cellWaysUptoCard : Claim7 := { stood := { row := cellWaysUptoRow, standIns := [], harness := (true, "13ccd2c31fe8cc04b2ad8b58023df9b3df165ddaff86d33cac046b11460e06ba"), looks := false }, kinds := [], alts := [], laidByText := true, laidKinds := [.data, .data], laidTests := true, laidLooks := .later }
def CellWaysUptoCardSaid : Prop := Claim7.holds Tryd.pinned (.plain (OpenSpec.upto cellWaysSpec)) cellWaysUptoCard

/-- THE SECOND FORM's CARD OF 'hypercubelaw2.CellSorts'. -/
def cellSortsUptoCard : Claim7 := { stood := { row := cellSortsUptoRow, standIns := [], harness := (true, "13ccd2c31fe8cc04b2ad8b58023df9b3df165ddaff86d33cac046b11460e06ba"), looks := false }, kinds := [], alts := [], laidByText := true, laidKinds := [.data, .data], laidTests := true, laidLooks := .later }
def CellSortsUptoCardSaid : Prop := Claim7.holds Tryd.pinned (.plain (OpenSpec.upto cellSortsSpec)) cellSortsUptoCard
end Rows
end Go.Proofs.YtbkcclmhgnplcaaDoor
