/-
  DERIVED. GIVEN WITH THE SEED: THE CARDS: each row of YtnjlkhhcfiedbaaGreatDoorRows.lean that lists a variable, with what it lists TIED to the program's text (the seventh form; the later family's looks); each row that meets fmt, with fmt's text TOLD by the authors' own Lean function (tested against real Go, not proved from fmt's source: count such statements apart). THE CARD IS WHAT COUNTS. Prove the row's statement (the work); the ties are given (YtnjlkhhcfiedbaaGreatDoorTie.lean); close each card by the builder's one call (the guide's Derived/Test/ToyasCard.lean, 'card_holds'). Laid BY PROGRAM, IN A SANDBOX (cutbox-door.mjs). By AI agents, Wed Nov 11 2026. No macro, syntax, notation, axiom, sorry.
-/
import Derived.Test.YtnjlkhhcfiedbaaGreatDoorRows
import GoSem.ClaimSeven
namespace Go.Proofs.YtnjlkhhcfiedbaaGreatDoor
namespace Rows

/-- THE TIED CARD OF 'hypercubelaw12.ExecAll'. -/
def execAllCard : Claim7 := { stood := { row := execAllRow, standIns := [], harness := (true, "403d9919fa9b7095b2ffed4cae4d31bff5b98cc09819ec3504873af285b99c94"), looks := true }, kinds := [], alts := [], laidByText := true, laidKinds := [.data, .data, .data], laidTests := true, laidLooks := .later }
def ExecAllCardSaid : Prop := Claim7.holds Tryz.pinned (.plain (OpenSpec.ofChange execAllSpec)) execAllCard

/-- THE TIED CARD OF 'hypercubelaw12.ExecGroups'. -/
def execGroupsCard : Claim7 := { stood := { row := execGroupsRow, standIns := [], harness := (true, "403d9919fa9b7095b2ffed4cae4d31bff5b98cc09819ec3504873af285b99c94"), looks := true }, kinds := [], alts := [], laidByText := true, laidKinds := [.data, .data, .data], laidTests := true, laidLooks := .later }
def ExecGroupsCardSaid : Prop := Claim7.holds Tryz.pinned (.plain (OpenSpec.ofChange execGroupsSpec)) execGroupsCard

/-- THE TIED CARD OF 'hypercubelaw12.ExecBounds'. -/
def execBoundsCard : Claim7 := { stood := { row := execBoundsRow, standIns := [], harness := (true, "403d9919fa9b7095b2ffed4cae4d31bff5b98cc09819ec3504873af285b99c94"), looks := true }, kinds := [], alts := [], laidByText := true, laidKinds := [.data, .data, .data], laidTests := true, laidLooks := .later }
def ExecBoundsCardSaid : Prop := Claim7.holds Tryz.pinned (.plain (OpenSpec.ofChange execBoundsSpec)) execBoundsCard

/-- THE TIED CARD OF 'hypercubelaw12.ExecErrs'. -/
def execErrsCard : Claim7 := { stood := { row := execErrsRow, standIns := [], harness := (true, "403d9919fa9b7095b2ffed4cae4d31bff5b98cc09819ec3504873af285b99c94"), looks := true }, kinds := [], alts := [], laidByText := true, laidKinds := [.data, .data, .data], laidTests := true, laidLooks := .later }
def ExecErrsCardSaid : Prop := Claim7.holds Tryz.pinned (.plain (OpenSpec.ofChange execErrsSpec)) execErrsCard

/-- THE TIED CARD OF 'hypercubelaw12.ExecTwice'. -/
def execTwiceCard : Claim7 := { stood := { row := execTwiceRow, standIns := [], harness := (true, "403d9919fa9b7095b2ffed4cae4d31bff5b98cc09819ec3504873af285b99c94"), looks := true }, kinds := [], alts := [], laidByText := true, laidKinds := [.data, .data, .data], laidTests := true, laidLooks := .later }
def ExecTwiceCardSaid : Prop := Claim7.holds Tryz.pinned (.plain (OpenSpec.ofChange execTwiceSpec)) execTwiceCard

/-- THE TIED CARD OF 'hypercubelaw12.ExecOwn'. -/
def execOwnCard : Claim7 := { stood := { row := execOwnRow, standIns := [], harness := (true, "403d9919fa9b7095b2ffed4cae4d31bff5b98cc09819ec3504873af285b99c94"), looks := true }, kinds := [], alts := [], laidByText := true, laidKinds := [.data, .data, .data], laidTests := true, laidLooks := .later }
def ExecOwnCardSaid : Prop := Claim7.holds Tryz.pinned (.plain (OpenSpec.ofChange execOwnSpec)) execOwnCard

/-- THE TIED CARD OF 'hypercubelaw12.ExecAlike'. -/
def execAlikeCard : Claim7 := { stood := { row := execAlikeRow, standIns := [], harness := (true, "403d9919fa9b7095b2ffed4cae4d31bff5b98cc09819ec3504873af285b99c94"), looks := true }, kinds := [], alts := [], laidByText := true, laidKinds := [.data, .data, .data], laidTests := true, laidLooks := .later }
def ExecAlikeCardSaid : Prop := Claim7.holds Tryz.pinned (.plain (OpenSpec.ofChange execAlikeSpec)) execAlikeCard

/-- THE TIED CARD OF 'hypercubelaw12.ExecGreat'. -/
def execGreatCard : Claim7 := { stood := { row := execGreatRow, standIns := [], harness := (true, "403d9919fa9b7095b2ffed4cae4d31bff5b98cc09819ec3504873af285b99c94"), looks := true }, kinds := [], alts := [], laidByText := true, laidKinds := [.data, .data, .data], laidTests := true, laidLooks := .later }
def ExecGreatCardSaid : Prop := Claim7.holds Tryz.pinned (.plain (OpenSpec.ofChange execGreatSpec)) execGreatCard

/-- THE TIED CARD OF 'hypercubelaw12.ExecTotal'. -/
def execTotalCard : Claim7 := { stood := { row := execTotalRow, standIns := [], harness := (true, "403d9919fa9b7095b2ffed4cae4d31bff5b98cc09819ec3504873af285b99c94"), looks := true }, kinds := [], alts := [], laidByText := true, laidKinds := [.data, .data, .data], laidTests := true, laidLooks := .later }
def ExecTotalCardSaid : Prop := Claim7.holds Tryz.pinned (.plain (OpenSpec.ofChange execTotalSpec)) execTotalCard

/-- THE SECOND FORM's CARD OF 'hypercubelaw12.ExecAll'. -/
def execAllUptoCard : Claim7 := { stood := { row := execAllUptoRow, standIns := [], harness := (true, "403d9919fa9b7095b2ffed4cae4d31bff5b98cc09819ec3504873af285b99c94"), looks := true }, kinds := [], alts := [], laidByText := true, laidKinds := [.data, .data, .data], laidTests := true, laidLooks := .later }
def ExecAllUptoCardSaid : Prop := Claim7.holds Tryz.pinned (.plain (OpenSpec.upto execAllSpec)) execAllUptoCard

/-- THE SECOND FORM's CARD OF 'hypercubelaw12.ExecGroups'. -/
def execGroupsUptoCard : Claim7 := { stood := { row := execGroupsUptoRow, standIns := [], harness := (true, "403d9919fa9b7095b2ffed4cae4d31bff5b98cc09819ec3504873af285b99c94"), looks := true }, kinds := [], alts := [], laidByText := true, laidKinds := [.data, .data, .data], laidTests := true, laidLooks := .later }
def ExecGroupsUptoCardSaid : Prop := Claim7.holds Tryz.pinned (.plain (OpenSpec.upto execGroupsSpec)) execGroupsUptoCard

/-- THE SECOND FORM's CARD OF 'hypercubelaw12.ExecBounds'. -/
def execBoundsUptoCard : Claim7 := { stood := { row := execBoundsUptoRow, standIns := [], harness := (true, "403d9919fa9b7095b2ffed4cae4d31bff5b98cc09819ec3504873af285b99c94"), looks := true }, kinds := [], alts := [], laidByText := true, laidKinds := [.data, .data, .data], laidTests := true, laidLooks := .later }
def ExecBoundsUptoCardSaid : Prop := Claim7.holds Tryz.pinned (.plain (OpenSpec.upto execBoundsSpec)) execBoundsUptoCard

/-- THE SECOND FORM's CARD OF 'hypercubelaw12.ExecErrs'. -/
def execErrsUptoCard : Claim7 := { stood := { row := execErrsUptoRow, standIns := [], harness := (true, "403d9919fa9b7095b2ffed4cae4d31bff5b98cc09819ec3504873af285b99c94"), looks := true }, kinds := [], alts := [], laidByText := true, laidKinds := [.data, .data, .data], laidTests := true, laidLooks := .later }
def ExecErrsUptoCardSaid : Prop := Claim7.holds Tryz.pinned (.plain (OpenSpec.upto execErrsSpec)) execErrsUptoCard

/-- THE SECOND FORM's CARD OF 'hypercubelaw12.ExecTwice'. -/
def execTwiceUptoCard : Claim7 := { stood := { row := execTwiceUptoRow, standIns := [], harness := (true, "403d9919fa9b7095b2ffed4cae4d31bff5b98cc09819ec3504873af285b99c94"), looks := true }, kinds := [], alts := [], laidByText := true, laidKinds := [.data, .data, .data], laidTests := true, laidLooks := .later }
def ExecTwiceUptoCardSaid : Prop := Claim7.holds Tryz.pinned (.plain (OpenSpec.upto execTwiceSpec)) execTwiceUptoCard

/-- THE SECOND FORM's CARD OF 'hypercubelaw12.ExecOwn'. -/
def execOwnUptoCard : Claim7 := { stood := { row := execOwnUptoRow, standIns := [], harness := (true, "403d9919fa9b7095b2ffed4cae4d31bff5b98cc09819ec3504873af285b99c94"), looks := true }, kinds := [], alts := [], laidByText := true, laidKinds := [.data, .data, .data], laidTests := true, laidLooks := .later }
def ExecOwnUptoCardSaid : Prop := Claim7.holds Tryz.pinned (.plain (OpenSpec.upto execOwnSpec)) execOwnUptoCard

/-- THE SECOND FORM's CARD OF 'hypercubelaw12.ExecAlike'. -/
def execAlikeUptoCard : Claim7 := { stood := { row := execAlikeUptoRow, standIns := [], harness := (true, "403d9919fa9b7095b2ffed4cae4d31bff5b98cc09819ec3504873af285b99c94"), looks := true }, kinds := [], alts := [], laidByText := true, laidKinds := [.data, .data, .data], laidTests := true, laidLooks := .later }
def ExecAlikeUptoCardSaid : Prop := Claim7.holds Tryz.pinned (.plain (OpenSpec.upto execAlikeSpec)) execAlikeUptoCard

/-- THE SECOND FORM's CARD OF 'hypercubelaw12.ExecGreat'. -/
def execGreatUptoCard : Claim7 := { stood := { row := execGreatUptoRow, standIns := [], harness := (true, "403d9919fa9b7095b2ffed4cae4d31bff5b98cc09819ec3504873af285b99c94"), looks := true }, kinds := [], alts := [], laidByText := true, laidKinds := [.data, .data, .data], laidTests := true, laidLooks := .later }
def ExecGreatUptoCardSaid : Prop := Claim7.holds Tryz.pinned (.plain (OpenSpec.upto execGreatSpec)) execGreatUptoCard

/-- THE SECOND FORM's CARD OF 'hypercubelaw12.ExecTotal'. -/
def execTotalUptoCard : Claim7 := { stood := { row := execTotalUptoRow, standIns := [], harness := (true, "403d9919fa9b7095b2ffed4cae4d31bff5b98cc09819ec3504873af285b99c94"), looks := true }, kinds := [], alts := [], laidByText := true, laidKinds := [.data, .data, .data], laidTests := true, laidLooks := .later }
def ExecTotalUptoCardSaid : Prop := Claim7.holds Tryz.pinned (.plain (OpenSpec.upto execTotalSpec)) execTotalUptoCard
end Rows
end Go.Proofs.YtnjlkhhcfiedbaaGreatDoor
