/-
  DERIVED. GIVEN WITH THE SEED: THE CARDS: each row of YtaopanclnaimpaaDoorRows.lean that lists a variable, with what it lists TIED to the program's text (the seventh form; the later family's looks); each row that meets fmt, with fmt's text TOLD by the authors' own Lean function (tested against real Go, not proved from fmt's source: count such statements apart). THE CARD IS WHAT COUNTS. Prove the row's statement (the work); the ties are given (YtaopanclnaimpaaDoorTie.lean); close each card by the builder's one call (the guide's Derived/Test/ToyasCard.lean, 'card_holds'). Laid BY PROGRAM, IN A SANDBOX (cutbox-door.mjs). By AI agents, Wed Nov 11 2026. No macro, syntax, notation, axiom, sorry.
-/
import Derived.Test.YtaopanclnaimpaaDoorRows
import GoSem.ClaimSeven
namespace Go.Proofs.YtaopanclnaimpaaDoor
namespace Rows

/-- THE TIED CARD OF 'hypercubelaw8.LatticeAll'. -/
def latticeAllCard : Claim7 := { stood := { row := latticeAllRow, standIns := [], harness := (true, "0bf2122da7bae2b4ad46a27dbdcd6c33fb95b971aa30c4e57827fc35aeb6ded1"), looks := false }, kinds := [], alts := [], laidByText := true, laidKinds := [.data, .data], laidTests := true, laidLooks := .later }
def LatticeAllCardSaid : Prop := Claim7.holds Tryd.pinned (.plain (OpenSpec.ofChange latticeAllSpec)) latticeAllCard

/-- THE TIED CARD OF 'hypercubelaw8.LatticeSets'. -/
def latticeSetsCard : Claim7 := { stood := { row := latticeSetsRow, standIns := [], harness := (true, "0bf2122da7bae2b4ad46a27dbdcd6c33fb95b971aa30c4e57827fc35aeb6ded1"), looks := false }, kinds := [], alts := [], laidByText := true, laidKinds := [.data, .data], laidTests := true, laidLooks := .later }
def LatticeSetsCardSaid : Prop := Claim7.holds Tryd.pinned (.plain (OpenSpec.ofChange latticeSetsSpec)) latticeSetsCard

/-- THE TIED CARD OF 'hypercubelaw8.LatticeSizes'. -/
def latticeSizesCard : Claim7 := { stood := { row := latticeSizesRow, standIns := [], harness := (true, "0bf2122da7bae2b4ad46a27dbdcd6c33fb95b971aa30c4e57827fc35aeb6ded1"), looks := false }, kinds := [], alts := [], laidByText := true, laidKinds := [.data, .data], laidTests := true, laidLooks := .later }
def LatticeSizesCardSaid : Prop := Claim7.holds Tryd.pinned (.plain (OpenSpec.ofChange latticeSizesSpec)) latticeSizesCard

/-- THE TIED CARD OF 'hypercubelaw8.LatticeTrue'. -/
def latticeTrueCard : Claim7 := { stood := { row := latticeTrueRow, standIns := [], harness := (true, "0bf2122da7bae2b4ad46a27dbdcd6c33fb95b971aa30c4e57827fc35aeb6ded1"), looks := false }, kinds := [], alts := [], laidByText := true, laidKinds := [.data, .data], laidTests := true, laidLooks := .later }
def LatticeTrueCardSaid : Prop := Claim7.holds Tryd.pinned (.plain (OpenSpec.ofChange latticeTrueSpec)) latticeTrueCard

/-- THE TIED CARD OF 'hypercubelaw8.LatticeKnown'. -/
def latticeKnownCard : Claim7 := { stood := { row := latticeKnownRow, standIns := [], harness := (true, "0bf2122da7bae2b4ad46a27dbdcd6c33fb95b971aa30c4e57827fc35aeb6ded1"), looks := false }, kinds := [], alts := [], laidByText := true, laidKinds := [.data, .data], laidTests := true, laidLooks := .later }
def LatticeKnownCardSaid : Prop := Claim7.holds Tryd.pinned (.plain (OpenSpec.ofChange latticeKnownSpec)) latticeKnownCard

/-- THE TIED CARD OF 'hypercubelaw8.LatticeLevels'. -/
def latticeLevelsCard : Claim7 := { stood := { row := latticeLevelsRow, standIns := [], harness := (true, "0bf2122da7bae2b4ad46a27dbdcd6c33fb95b971aa30c4e57827fc35aeb6ded1"), looks := false }, kinds := [], alts := [], laidByText := true, laidKinds := [.data, .data], laidTests := true, laidLooks := .later }
def LatticeLevelsCardSaid : Prop := Claim7.holds Tryd.pinned (.plain (OpenSpec.ofChange latticeLevelsSpec)) latticeLevelsCard

/-- THE TIED CARD OF 'hypercubelaw8.LatticeUp'. -/
def latticeUpCard : Claim7 := { stood := { row := latticeUpRow, standIns := [], harness := (true, "0bf2122da7bae2b4ad46a27dbdcd6c33fb95b971aa30c4e57827fc35aeb6ded1"), looks := false }, kinds := [], alts := [], laidByText := true, laidKinds := [.data, .data], laidTests := true, laidLooks := .later }
def LatticeUpCardSaid : Prop := Claim7.holds Tryd.pinned (.plain (OpenSpec.ofChange latticeUpSpec)) latticeUpCard

/-- THE TIED CARD OF 'hypercubelaw8.LatticeCosts'. -/
def latticeCostsCard : Claim7 := { stood := { row := latticeCostsRow, standIns := [], harness := (true, "0bf2122da7bae2b4ad46a27dbdcd6c33fb95b971aa30c4e57827fc35aeb6ded1"), looks := false }, kinds := [], alts := [], laidByText := true, laidKinds := [.data, .data], laidTests := true, laidLooks := .later }
def LatticeCostsCardSaid : Prop := Claim7.holds Tryd.pinned (.plain (OpenSpec.ofChange latticeCostsSpec)) latticeCostsCard

/-- THE TIED CARD OF 'hypercubelaw8.LatticeNone'. -/
def latticeNoneCard : Claim7 := { stood := { row := latticeNoneRow, standIns := [], harness := (true, "0bf2122da7bae2b4ad46a27dbdcd6c33fb95b971aa30c4e57827fc35aeb6ded1"), looks := false }, kinds := [], alts := [], laidByText := true, laidKinds := [.data, .data], laidTests := true, laidLooks := .later }
def LatticeNoneCardSaid : Prop := Claim7.holds Tryd.pinned (.plain (OpenSpec.ofChange latticeNoneSpec)) latticeNoneCard

/-- THE SECOND FORM's CARD OF 'hypercubelaw8.LatticeAll'. -/
def latticeAllUptoCard : Claim7 := { stood := { row := latticeAllUptoRow, standIns := [], harness := (true, "0bf2122da7bae2b4ad46a27dbdcd6c33fb95b971aa30c4e57827fc35aeb6ded1"), looks := false }, kinds := [], alts := [], laidByText := true, laidKinds := [.data, .data], laidTests := true, laidLooks := .later }
def LatticeAllUptoCardSaid : Prop := Claim7.holds Tryd.pinned (.plain (OpenSpec.upto latticeAllSpec)) latticeAllUptoCard

/-- THE SECOND FORM's CARD OF 'hypercubelaw8.LatticeSets'. -/
def latticeSetsUptoCard : Claim7 := { stood := { row := latticeSetsUptoRow, standIns := [], harness := (true, "0bf2122da7bae2b4ad46a27dbdcd6c33fb95b971aa30c4e57827fc35aeb6ded1"), looks := false }, kinds := [], alts := [], laidByText := true, laidKinds := [.data, .data], laidTests := true, laidLooks := .later }
def LatticeSetsUptoCardSaid : Prop := Claim7.holds Tryd.pinned (.plain (OpenSpec.upto latticeSetsSpec)) latticeSetsUptoCard

/-- THE SECOND FORM's CARD OF 'hypercubelaw8.LatticeSizes'. -/
def latticeSizesUptoCard : Claim7 := { stood := { row := latticeSizesUptoRow, standIns := [], harness := (true, "0bf2122da7bae2b4ad46a27dbdcd6c33fb95b971aa30c4e57827fc35aeb6ded1"), looks := false }, kinds := [], alts := [], laidByText := true, laidKinds := [.data, .data], laidTests := true, laidLooks := .later }
def LatticeSizesUptoCardSaid : Prop := Claim7.holds Tryd.pinned (.plain (OpenSpec.upto latticeSizesSpec)) latticeSizesUptoCard

/-- THE SECOND FORM's CARD OF 'hypercubelaw8.LatticeTrue'. -/
def latticeTrueUptoCard : Claim7 := { stood := { row := latticeTrueUptoRow, standIns := [], harness := (true, "0bf2122da7bae2b4ad46a27dbdcd6c33fb95b971aa30c4e57827fc35aeb6ded1"), looks := false }, kinds := [], alts := [], laidByText := true, laidKinds := [.data, .data], laidTests := true, laidLooks := .later }
def LatticeTrueUptoCardSaid : Prop := Claim7.holds Tryd.pinned (.plain (OpenSpec.upto latticeTrueSpec)) latticeTrueUptoCard

/-- THE SECOND FORM's CARD OF 'hypercubelaw8.LatticeKnown'. -/
def latticeKnownUptoCard : Claim7 := { stood := { row := latticeKnownUptoRow, standIns := [], harness := (true, "0bf2122da7bae2b4ad46a27dbdcd6c33fb95b971aa30c4e57827fc35aeb6ded1"), looks := false }, kinds := [], alts := [], laidByText := true, laidKinds := [.data, .data], laidTests := true, laidLooks := .later }
def LatticeKnownUptoCardSaid : Prop := Claim7.holds Tryd.pinned (.plain (OpenSpec.upto latticeKnownSpec)) latticeKnownUptoCard

/-- THE SECOND FORM's CARD OF 'hypercubelaw8.LatticeLevels'. -/
def latticeLevelsUptoCard : Claim7 := { stood := { row := latticeLevelsUptoRow, standIns := [], harness := (true, "0bf2122da7bae2b4ad46a27dbdcd6c33fb95b971aa30c4e57827fc35aeb6ded1"), looks := false }, kinds := [], alts := [], laidByText := true, laidKinds := [.data, .data], laidTests := true, laidLooks := .later }
def LatticeLevelsUptoCardSaid : Prop := Claim7.holds Tryd.pinned (.plain (OpenSpec.upto latticeLevelsSpec)) latticeLevelsUptoCard

/-- THE SECOND FORM's CARD OF 'hypercubelaw8.LatticeUp'. -/
def latticeUpUptoCard : Claim7 := { stood := { row := latticeUpUptoRow, standIns := [], harness := (true, "0bf2122da7bae2b4ad46a27dbdcd6c33fb95b971aa30c4e57827fc35aeb6ded1"), looks := false }, kinds := [], alts := [], laidByText := true, laidKinds := [.data, .data], laidTests := true, laidLooks := .later }
def LatticeUpUptoCardSaid : Prop := Claim7.holds Tryd.pinned (.plain (OpenSpec.upto latticeUpSpec)) latticeUpUptoCard

/-- THE SECOND FORM's CARD OF 'hypercubelaw8.LatticeCosts'. -/
def latticeCostsUptoCard : Claim7 := { stood := { row := latticeCostsUptoRow, standIns := [], harness := (true, "0bf2122da7bae2b4ad46a27dbdcd6c33fb95b971aa30c4e57827fc35aeb6ded1"), looks := false }, kinds := [], alts := [], laidByText := true, laidKinds := [.data, .data], laidTests := true, laidLooks := .later }
def LatticeCostsUptoCardSaid : Prop := Claim7.holds Tryd.pinned (.plain (OpenSpec.upto latticeCostsSpec)) latticeCostsUptoCard

/-- THE SECOND FORM's CARD OF 'hypercubelaw8.LatticeNone'. -/
def latticeNoneUptoCard : Claim7 := { stood := { row := latticeNoneUptoRow, standIns := [], harness := (true, "0bf2122da7bae2b4ad46a27dbdcd6c33fb95b971aa30c4e57827fc35aeb6ded1"), looks := false }, kinds := [], alts := [], laidByText := true, laidKinds := [.data, .data], laidTests := true, laidLooks := .later }
def LatticeNoneUptoCardSaid : Prop := Claim7.holds Tryd.pinned (.plain (OpenSpec.upto latticeNoneSpec)) latticeNoneUptoCard
end Rows
end Go.Proofs.YtaopanclnaimpaaDoor
