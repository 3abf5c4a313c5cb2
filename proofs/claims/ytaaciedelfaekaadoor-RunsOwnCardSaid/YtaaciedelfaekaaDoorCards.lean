/-
  DERIVED. GIVEN WITH THE SEED: THE CARDS: each row of YtaaciedelfaekaaDoorRows.lean that lists a variable, with what it lists TIED to the program's text (the seventh form; the later family's looks); each row that meets fmt, with fmt's text TOLD by the authors' own Lean function (tested against real Go, not proved from fmt's source: count such statements apart). THE CARD IS WHAT COUNTS. Prove the row's statement (the work); the ties are given (YtaaciedelfaekaaDoorTie.lean); close each card by the builder's one call (the guide's Derived/Test/ToyasCard.lean, 'card_holds'). Laid BY PROGRAM, IN A SANDBOX (cutbox-door.mjs). By AI agents, Wed Nov 11 2026. No macro, syntax, notation, axiom, sorry.
-/
import Derived.Test.YtaaciedelfaekaaDoorRows
import GoSem.ClaimSeven
namespace Go.Proofs.YtaaciedelfaekaaDoor
namespace Rows

/-- THE TIED CARD OF 'hypercubelaw5.RunsAll'. -/
def runsAllCard : Claim7 := { stood := { row := runsAllRow, standIns := [], harness := (true, "db112c3572eb313d65eae01efe4f4fe78c7f89053bc2d3de2909dc81747d80cd"), looks := false }, kinds := [], alts := [], laidByText := true, laidKinds := [.data, .data, .data], laidTests := true, laidLooks := .later }
def RunsAllCardSaid : Prop := Claim7.holds Tryd.pinned (.plain (OpenSpec.ofChange runsAllSpec)) runsAllCard

/-- THE TIED CARD OF 'hypercubelaw5.RunsBounds'. -/
def runsBoundsCard : Claim7 := { stood := { row := runsBoundsRow, standIns := [], harness := (true, "db112c3572eb313d65eae01efe4f4fe78c7f89053bc2d3de2909dc81747d80cd"), looks := false }, kinds := [], alts := [], laidByText := true, laidKinds := [.data, .data, .data], laidTests := true, laidLooks := .later }
def RunsBoundsCardSaid : Prop := Claim7.holds Tryd.pinned (.plain (OpenSpec.ofChange runsBoundsSpec)) runsBoundsCard

/-- THE TIED CARD OF 'hypercubelaw5.RunsTogether'. -/
def runsTogetherCard : Claim7 := { stood := { row := runsTogetherRow, standIns := [], harness := (true, "db112c3572eb313d65eae01efe4f4fe78c7f89053bc2d3de2909dc81747d80cd"), looks := false }, kinds := [], alts := [], laidByText := true, laidKinds := [.data, .data, .data], laidTests := true, laidLooks := .later }
def RunsTogetherCardSaid : Prop := Claim7.holds Tryd.pinned (.plain (OpenSpec.ofChange runsTogetherSpec)) runsTogetherCard

/-- THE TIED CARD OF 'hypercubelaw5.RunsOne'. -/
def runsOneCard : Claim7 := { stood := { row := runsOneRow, standIns := [], harness := (true, "db112c3572eb313d65eae01efe4f4fe78c7f89053bc2d3de2909dc81747d80cd"), looks := false }, kinds := [], alts := [], laidByText := true, laidKinds := [.data, .data, .data], laidTests := true, laidLooks := .later }
def RunsOneCardSaid : Prop := Claim7.holds Tryd.pinned (.plain (OpenSpec.ofChange runsOneSpec)) runsOneCard

/-- THE TIED CARD OF 'hypercubelaw5.RunsSorted'. -/
def runsSortedCard : Claim7 := { stood := { row := runsSortedRow, standIns := [], harness := (true, "db112c3572eb313d65eae01efe4f4fe78c7f89053bc2d3de2909dc81747d80cd"), looks := false }, kinds := [], alts := [], laidByText := true, laidKinds := [.data, .data, .data], laidTests := true, laidLooks := .later }
def RunsSortedCardSaid : Prop := Claim7.holds Tryd.pinned (.plain (OpenSpec.ofChange runsSortedSpec)) runsSortedCard

/-- THE TIED CARD OF 'hypercubelaw5.RunsOwn'. -/
def runsOwnCard : Claim7 := { stood := { row := runsOwnRow, standIns := [], harness := (true, "db112c3572eb313d65eae01efe4f4fe78c7f89053bc2d3de2909dc81747d80cd"), looks := false }, kinds := [], alts := [], laidByText := true, laidKinds := [.data, .data, .data], laidTests := true, laidLooks := .later }
def RunsOwnCardSaid : Prop := Claim7.holds Tryd.pinned (.plain (OpenSpec.ofChange runsOwnSpec)) runsOwnCard

/-- THE TIED CARD OF 'hypercubelaw5.RunsOnly'. -/
def runsOnlyCard : Claim7 := { stood := { row := runsOnlyRow, standIns := [], harness := (true, "db112c3572eb313d65eae01efe4f4fe78c7f89053bc2d3de2909dc81747d80cd"), looks := false }, kinds := [], alts := [], laidByText := true, laidKinds := [.data, .data, .data], laidTests := true, laidLooks := .later }
def RunsOnlyCardSaid : Prop := Claim7.holds Tryd.pinned (.plain (OpenSpec.ofChange runsOnlySpec)) runsOnlyCard

/-- THE TIED CARD OF 'hypercubelaw5.RunsMore'. -/
def runsMoreCard : Claim7 := { stood := { row := runsMoreRow, standIns := [], harness := (true, "db112c3572eb313d65eae01efe4f4fe78c7f89053bc2d3de2909dc81747d80cd"), looks := false }, kinds := [], alts := [], laidByText := true, laidKinds := [.data, .data, .data], laidTests := true, laidLooks := .later }
def RunsMoreCardSaid : Prop := Claim7.holds Tryd.pinned (.plain (OpenSpec.ofChange runsMoreSpec)) runsMoreCard

/-- THE TIED CARD OF 'hypercubelaw5.RunsCounts'. -/
def runsCountsCard : Claim7 := { stood := { row := runsCountsRow, standIns := [], harness := (true, "db112c3572eb313d65eae01efe4f4fe78c7f89053bc2d3de2909dc81747d80cd"), looks := false }, kinds := [], alts := [], laidByText := true, laidKinds := [.data, .data, .data], laidTests := true, laidLooks := .later }
def RunsCountsCardSaid : Prop := Claim7.holds Tryd.pinned (.plain (OpenSpec.ofChange runsCountsSpec)) runsCountsCard

/-- THE SECOND FORM's CARD OF 'hypercubelaw5.RunsAll'. -/
def runsAllUptoCard : Claim7 := { stood := { row := runsAllUptoRow, standIns := [], harness := (true, "db112c3572eb313d65eae01efe4f4fe78c7f89053bc2d3de2909dc81747d80cd"), looks := false }, kinds := [], alts := [], laidByText := true, laidKinds := [.data, .data, .data], laidTests := true, laidLooks := .later }
def RunsAllUptoCardSaid : Prop := Claim7.holds Tryd.pinned (.plain (OpenSpec.upto runsAllSpec)) runsAllUptoCard

/-- THE SECOND FORM's CARD OF 'hypercubelaw5.RunsBounds'. -/
def runsBoundsUptoCard : Claim7 := { stood := { row := runsBoundsUptoRow, standIns := [], harness := (true, "db112c3572eb313d65eae01efe4f4fe78c7f89053bc2d3de2909dc81747d80cd"), looks := false }, kinds := [], alts := [], laidByText := true, laidKinds := [.data, .data, .data], laidTests := true, laidLooks := .later }
def RunsBoundsUptoCardSaid : Prop := Claim7.holds Tryd.pinned (.plain (OpenSpec.upto runsBoundsSpec)) runsBoundsUptoCard

/-- THE SECOND FORM's CARD OF 'hypercubelaw5.RunsTogether'. -/
def runsTogetherUptoCard : Claim7 := { stood := { row := runsTogetherUptoRow, standIns := [], harness := (true, "db112c3572eb313d65eae01efe4f4fe78c7f89053bc2d3de2909dc81747d80cd"), looks := false }, kinds := [], alts := [], laidByText := true, laidKinds := [.data, .data, .data], laidTests := true, laidLooks := .later }
def RunsTogetherUptoCardSaid : Prop := Claim7.holds Tryd.pinned (.plain (OpenSpec.upto runsTogetherSpec)) runsTogetherUptoCard

/-- THE SECOND FORM's CARD OF 'hypercubelaw5.RunsOne'. -/
def runsOneUptoCard : Claim7 := { stood := { row := runsOneUptoRow, standIns := [], harness := (true, "db112c3572eb313d65eae01efe4f4fe78c7f89053bc2d3de2909dc81747d80cd"), looks := false }, kinds := [], alts := [], laidByText := true, laidKinds := [.data, .data, .data], laidTests := true, laidLooks := .later }
def RunsOneUptoCardSaid : Prop := Claim7.holds Tryd.pinned (.plain (OpenSpec.upto runsOneSpec)) runsOneUptoCard

/-- THE SECOND FORM's CARD OF 'hypercubelaw5.RunsSorted'. -/
def runsSortedUptoCard : Claim7 := { stood := { row := runsSortedUptoRow, standIns := [], harness := (true, "db112c3572eb313d65eae01efe4f4fe78c7f89053bc2d3de2909dc81747d80cd"), looks := false }, kinds := [], alts := [], laidByText := true, laidKinds := [.data, .data, .data], laidTests := true, laidLooks := .later }
def RunsSortedUptoCardSaid : Prop := Claim7.holds Tryd.pinned (.plain (OpenSpec.upto runsSortedSpec)) runsSortedUptoCard

/-- THE SECOND FORM's CARD OF 'hypercubelaw5.RunsOwn'. -/
def runsOwnUptoCard : Claim7 := { stood := { row := runsOwnUptoRow, standIns := [], harness := (true, "db112c3572eb313d65eae01efe4f4fe78c7f89053bc2d3de2909dc81747d80cd"), looks := false }, kinds := [], alts := [], laidByText := true, laidKinds := [.data, .data, .data], laidTests := true, laidLooks := .later }
def RunsOwnUptoCardSaid : Prop := Claim7.holds Tryd.pinned (.plain (OpenSpec.upto runsOwnSpec)) runsOwnUptoCard

/-- THE SECOND FORM's CARD OF 'hypercubelaw5.RunsOnly'. -/
def runsOnlyUptoCard : Claim7 := { stood := { row := runsOnlyUptoRow, standIns := [], harness := (true, "db112c3572eb313d65eae01efe4f4fe78c7f89053bc2d3de2909dc81747d80cd"), looks := false }, kinds := [], alts := [], laidByText := true, laidKinds := [.data, .data, .data], laidTests := true, laidLooks := .later }
def RunsOnlyUptoCardSaid : Prop := Claim7.holds Tryd.pinned (.plain (OpenSpec.upto runsOnlySpec)) runsOnlyUptoCard

/-- THE SECOND FORM's CARD OF 'hypercubelaw5.RunsMore'. -/
def runsMoreUptoCard : Claim7 := { stood := { row := runsMoreUptoRow, standIns := [], harness := (true, "db112c3572eb313d65eae01efe4f4fe78c7f89053bc2d3de2909dc81747d80cd"), looks := false }, kinds := [], alts := [], laidByText := true, laidKinds := [.data, .data, .data], laidTests := true, laidLooks := .later }
def RunsMoreUptoCardSaid : Prop := Claim7.holds Tryd.pinned (.plain (OpenSpec.upto runsMoreSpec)) runsMoreUptoCard

/-- THE SECOND FORM's CARD OF 'hypercubelaw5.RunsCounts'. -/
def runsCountsUptoCard : Claim7 := { stood := { row := runsCountsUptoRow, standIns := [], harness := (true, "db112c3572eb313d65eae01efe4f4fe78c7f89053bc2d3de2909dc81747d80cd"), looks := false }, kinds := [], alts := [], laidByText := true, laidKinds := [.data, .data, .data], laidTests := true, laidLooks := .later }
def RunsCountsUptoCardSaid : Prop := Claim7.holds Tryd.pinned (.plain (OpenSpec.upto runsCountsSpec)) runsCountsUptoCard
end Rows
end Go.Proofs.YtaaciedelfaekaaDoor
