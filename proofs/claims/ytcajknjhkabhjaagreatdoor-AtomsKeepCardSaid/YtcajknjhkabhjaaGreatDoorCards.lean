/-
  DERIVED. GIVEN WITH THE SEED: THE CARDS: each row of YtcajknjhkabhjaaGreatDoorRows.lean that lists a variable, with what it lists TIED to the program's text (the seventh form; the later family's looks); each row that meets fmt, with fmt's text TOLD by the authors' own Lean function (tested against real Go, not proved from fmt's source: count such statements apart). THE CARD IS WHAT COUNTS. Prove the row's statement (the work); the ties are given (YtcajknjhkabhjaaGreatDoorTie.lean); close each card by the builder's one call (the guide's Derived/Test/ToyasCard.lean, 'card_holds'). Laid BY PROGRAM, IN A SANDBOX (cutbox-door.mjs). By AI agents, Wed Nov 11 2026. No macro, syntax, notation, axiom, sorry.
-/
import Derived.Test.YtcajknjhkabhjaaGreatDoorRows
import GoSem.ClaimSeven
namespace Go.Proofs.YtcajknjhkabhjaaGreatDoor
namespace Rows

/-- THE TIED CARD OF 'kenninglaw12.AtomsCut'. -/
def atomsCutCard : Claim7 := { stood := { row := atomsCutRow, standIns := [], harness := (true, "0a23fc4c5438d9f8338ad77af90f5b44e0692312d155ab2c27cf7e33302e9a4e"), looks := true }, kinds := [], alts := [], laidByText := true, laidKinds := [.data, .data, .handle], laidTests := true, laidLooks := .later }
def AtomsCutCardSaid : Prop := Claim7.holds Tryz.pinned (.plain (OpenSpec.ofChange atomsCutSpec)) atomsCutCard

/-- THE TIED CARD OF 'kenninglaw12.AtomsPieces'. -/
def atomsPiecesCard : Claim7 := { stood := { row := atomsPiecesRow, standIns := [], harness := (true, "0a23fc4c5438d9f8338ad77af90f5b44e0692312d155ab2c27cf7e33302e9a4e"), looks := true }, kinds := [], alts := [], laidByText := true, laidKinds := [.data, .data, .handle], laidTests := true, laidLooks := .later }
def AtomsPiecesCardSaid : Prop := Claim7.holds Tryz.pinned (.plain (OpenSpec.ofChange atomsPiecesSpec)) atomsPiecesCard

/-- THE TIED CARD OF 'kenninglaw12.AtomsRefine'. -/
def atomsRefineCard : Claim7 := { stood := { row := atomsRefineRow, standIns := [], harness := (true, "0a23fc4c5438d9f8338ad77af90f5b44e0692312d155ab2c27cf7e33302e9a4e"), looks := true }, kinds := [], alts := [], laidByText := true, laidKinds := [.data, .data, .handle], laidTests := true, laidLooks := .later }
def AtomsRefineCardSaid : Prop := Claim7.holds Tryz.pinned (.plain (OpenSpec.ofChange atomsRefineSpec)) atomsRefineCard

/-- THE TIED CARD OF 'kenninglaw12.AtomsGroup'. -/
def atomsGroupCard : Claim7 := { stood := { row := atomsGroupRow, standIns := [], harness := (true, "0a23fc4c5438d9f8338ad77af90f5b44e0692312d155ab2c27cf7e33302e9a4e"), looks := true }, kinds := [], alts := [], laidByText := true, laidKinds := [.data, .data, .handle], laidTests := true, laidLooks := .later }
def AtomsGroupCardSaid : Prop := Claim7.holds Tryz.pinned (.plain (OpenSpec.ofChange atomsGroupSpec)) atomsGroupCard

/-- THE TIED CARD OF 'kenninglaw12.AtomsAgain'. -/
def atomsAgainCard : Claim7 := { stood := { row := atomsAgainRow, standIns := [], harness := (true, "0a23fc4c5438d9f8338ad77af90f5b44e0692312d155ab2c27cf7e33302e9a4e"), looks := true }, kinds := [], alts := [], laidByText := true, laidKinds := [.data, .data, .handle], laidTests := true, laidLooks := .later }
def AtomsAgainCardSaid : Prop := Claim7.holds Tryz.pinned (.plain (OpenSpec.ofChange atomsAgainSpec)) atomsAgainCard

/-- THE TIED CARD OF 'kenninglaw12.AtomsKeep'. -/
def atomsKeepCard : Claim7 := { stood := { row := atomsKeepRow, standIns := [], harness := (true, "0a23fc4c5438d9f8338ad77af90f5b44e0692312d155ab2c27cf7e33302e9a4e"), looks := true }, kinds := [], alts := [], laidByText := true, laidKinds := [.data, .data, .handle], laidTests := true, laidLooks := .later }
def AtomsKeepCardSaid : Prop := Claim7.holds Tryz.pinned (.plain (OpenSpec.ofChange atomsKeepSpec)) atomsKeepCard

/-- THE TIED CARD OF 'kenninglaw13.CanonChecks'. -/
def canonChecksCard : Claim7 := { stood := { row := canonChecksRow, standIns := [], harness := (true, "0a23fc4c5438d9f8338ad77af90f5b44e0692312d155ab2c27cf7e33302e9a4e"), looks := true }, kinds := [], alts := [], laidByText := true, laidKinds := [.data, .data, .handle], laidTests := true, laidLooks := .later }
def CanonChecksCardSaid : Prop := Claim7.holds Tryz.pinned (.plain (OpenSpec.ofChange canonChecksSpec)) canonChecksCard

/-- THE TIED CARD OF 'kenninglaw13.CanonMatches'. -/
def canonMatchesCard : Claim7 := { stood := { row := canonMatchesRow, standIns := [], harness := (true, "0a23fc4c5438d9f8338ad77af90f5b44e0692312d155ab2c27cf7e33302e9a4e"), looks := true }, kinds := [], alts := [], laidByText := true, laidKinds := [.data, .data, .handle], laidTests := true, laidLooks := .later }
def CanonMatchesCardSaid : Prop := Claim7.holds Tryz.pinned (.plain (OpenSpec.ofChange canonMatchesSpec)) canonMatchesCard

/-- THE TIED CARD OF 'kenninglaw13.CanonDenotes'. -/
def canonDenotesCard : Claim7 := { stood := { row := canonDenotesRow, standIns := [], harness := (true, "0a23fc4c5438d9f8338ad77af90f5b44e0692312d155ab2c27cf7e33302e9a4e"), looks := true }, kinds := [], alts := [], laidByText := true, laidKinds := [.data, .data, .handle], laidTests := true, laidLooks := .later }
def CanonDenotesCardSaid : Prop := Claim7.holds Tryz.pinned (.plain (OpenSpec.ofChange canonDenotesSpec)) canonDenotesCard

/-- THE TIED CARD OF 'kenninglaw13.CanonOrder'. -/
def canonOrderCard : Claim7 := { stood := { row := canonOrderRow, standIns := [], harness := (true, "0a23fc4c5438d9f8338ad77af90f5b44e0692312d155ab2c27cf7e33302e9a4e"), looks := true }, kinds := [], alts := [], laidByText := true, laidKinds := [.data, .data, .handle], laidTests := true, laidLooks := .later }
def CanonOrderCardSaid : Prop := Claim7.holds Tryz.pinned (.plain (OpenSpec.ofChange canonOrderSpec)) canonOrderCard

/-- THE TIED CARD OF 'kenninglaw13.CanonSegments'. -/
def canonSegmentsCard : Claim7 := { stood := { row := canonSegmentsRow, standIns := [], harness := (true, "0a23fc4c5438d9f8338ad77af90f5b44e0692312d155ab2c27cf7e33302e9a4e"), looks := true }, kinds := [], alts := [], laidByText := true, laidKinds := [.data, .data, .handle], laidTests := true, laidLooks := .later }
def CanonSegmentsCardSaid : Prop := Claim7.holds Tryz.pinned (.plain (OpenSpec.ofChange canonSegmentsSpec)) canonSegmentsCard

/-- THE TIED CARD OF 'kenninglaw13.CanonBuilds'. -/
def canonBuildsCard : Claim7 := { stood := { row := canonBuildsRow, standIns := [], harness := (true, "0a23fc4c5438d9f8338ad77af90f5b44e0692312d155ab2c27cf7e33302e9a4e"), looks := true }, kinds := [], alts := [], laidByText := true, laidKinds := [.data, .data, .handle], laidTests := true, laidLooks := .later }
def CanonBuildsCardSaid : Prop := Claim7.holds Tryz.pinned (.plain (OpenSpec.ofChange canonBuildsSpec)) canonBuildsCard

/-- THE SECOND FORM's CARD OF 'kenninglaw12.AtomsCut'. -/
def atomsCutUptoCard : Claim7 := { stood := { row := atomsCutUptoRow, standIns := [], harness := (true, "0a23fc4c5438d9f8338ad77af90f5b44e0692312d155ab2c27cf7e33302e9a4e"), looks := true }, kinds := [], alts := [], laidByText := true, laidKinds := [.data, .data, .handle], laidTests := true, laidLooks := .later }
def AtomsCutUptoCardSaid : Prop := Claim7.holds Tryz.pinned (.plain (OpenSpec.upto atomsCutSpec)) atomsCutUptoCard

/-- THE SECOND FORM's CARD OF 'kenninglaw12.AtomsPieces'. -/
def atomsPiecesUptoCard : Claim7 := { stood := { row := atomsPiecesUptoRow, standIns := [], harness := (true, "0a23fc4c5438d9f8338ad77af90f5b44e0692312d155ab2c27cf7e33302e9a4e"), looks := true }, kinds := [], alts := [], laidByText := true, laidKinds := [.data, .data, .handle], laidTests := true, laidLooks := .later }
def AtomsPiecesUptoCardSaid : Prop := Claim7.holds Tryz.pinned (.plain (OpenSpec.upto atomsPiecesSpec)) atomsPiecesUptoCard

/-- THE SECOND FORM's CARD OF 'kenninglaw12.AtomsRefine'. -/
def atomsRefineUptoCard : Claim7 := { stood := { row := atomsRefineUptoRow, standIns := [], harness := (true, "0a23fc4c5438d9f8338ad77af90f5b44e0692312d155ab2c27cf7e33302e9a4e"), looks := true }, kinds := [], alts := [], laidByText := true, laidKinds := [.data, .data, .handle], laidTests := true, laidLooks := .later }
def AtomsRefineUptoCardSaid : Prop := Claim7.holds Tryz.pinned (.plain (OpenSpec.upto atomsRefineSpec)) atomsRefineUptoCard

/-- THE SECOND FORM's CARD OF 'kenninglaw12.AtomsGroup'. -/
def atomsGroupUptoCard : Claim7 := { stood := { row := atomsGroupUptoRow, standIns := [], harness := (true, "0a23fc4c5438d9f8338ad77af90f5b44e0692312d155ab2c27cf7e33302e9a4e"), looks := true }, kinds := [], alts := [], laidByText := true, laidKinds := [.data, .data, .handle], laidTests := true, laidLooks := .later }
def AtomsGroupUptoCardSaid : Prop := Claim7.holds Tryz.pinned (.plain (OpenSpec.upto atomsGroupSpec)) atomsGroupUptoCard

/-- THE SECOND FORM's CARD OF 'kenninglaw12.AtomsAgain'. -/
def atomsAgainUptoCard : Claim7 := { stood := { row := atomsAgainUptoRow, standIns := [], harness := (true, "0a23fc4c5438d9f8338ad77af90f5b44e0692312d155ab2c27cf7e33302e9a4e"), looks := true }, kinds := [], alts := [], laidByText := true, laidKinds := [.data, .data, .handle], laidTests := true, laidLooks := .later }
def AtomsAgainUptoCardSaid : Prop := Claim7.holds Tryz.pinned (.plain (OpenSpec.upto atomsAgainSpec)) atomsAgainUptoCard

/-- THE SECOND FORM's CARD OF 'kenninglaw12.AtomsKeep'. -/
def atomsKeepUptoCard : Claim7 := { stood := { row := atomsKeepUptoRow, standIns := [], harness := (true, "0a23fc4c5438d9f8338ad77af90f5b44e0692312d155ab2c27cf7e33302e9a4e"), looks := true }, kinds := [], alts := [], laidByText := true, laidKinds := [.data, .data, .handle], laidTests := true, laidLooks := .later }
def AtomsKeepUptoCardSaid : Prop := Claim7.holds Tryz.pinned (.plain (OpenSpec.upto atomsKeepSpec)) atomsKeepUptoCard

/-- THE SECOND FORM's CARD OF 'kenninglaw13.CanonChecks'. -/
def canonChecksUptoCard : Claim7 := { stood := { row := canonChecksUptoRow, standIns := [], harness := (true, "0a23fc4c5438d9f8338ad77af90f5b44e0692312d155ab2c27cf7e33302e9a4e"), looks := true }, kinds := [], alts := [], laidByText := true, laidKinds := [.data, .data, .handle], laidTests := true, laidLooks := .later }
def CanonChecksUptoCardSaid : Prop := Claim7.holds Tryz.pinned (.plain (OpenSpec.upto canonChecksSpec)) canonChecksUptoCard

/-- THE SECOND FORM's CARD OF 'kenninglaw13.CanonMatches'. -/
def canonMatchesUptoCard : Claim7 := { stood := { row := canonMatchesUptoRow, standIns := [], harness := (true, "0a23fc4c5438d9f8338ad77af90f5b44e0692312d155ab2c27cf7e33302e9a4e"), looks := true }, kinds := [], alts := [], laidByText := true, laidKinds := [.data, .data, .handle], laidTests := true, laidLooks := .later }
def CanonMatchesUptoCardSaid : Prop := Claim7.holds Tryz.pinned (.plain (OpenSpec.upto canonMatchesSpec)) canonMatchesUptoCard

/-- THE SECOND FORM's CARD OF 'kenninglaw13.CanonDenotes'. -/
def canonDenotesUptoCard : Claim7 := { stood := { row := canonDenotesUptoRow, standIns := [], harness := (true, "0a23fc4c5438d9f8338ad77af90f5b44e0692312d155ab2c27cf7e33302e9a4e"), looks := true }, kinds := [], alts := [], laidByText := true, laidKinds := [.data, .data, .handle], laidTests := true, laidLooks := .later }
def CanonDenotesUptoCardSaid : Prop := Claim7.holds Tryz.pinned (.plain (OpenSpec.upto canonDenotesSpec)) canonDenotesUptoCard

/-- THE SECOND FORM's CARD OF 'kenninglaw13.CanonOrder'. -/
def canonOrderUptoCard : Claim7 := { stood := { row := canonOrderUptoRow, standIns := [], harness := (true, "0a23fc4c5438d9f8338ad77af90f5b44e0692312d155ab2c27cf7e33302e9a4e"), looks := true }, kinds := [], alts := [], laidByText := true, laidKinds := [.data, .data, .handle], laidTests := true, laidLooks := .later }
def CanonOrderUptoCardSaid : Prop := Claim7.holds Tryz.pinned (.plain (OpenSpec.upto canonOrderSpec)) canonOrderUptoCard

/-- THE SECOND FORM's CARD OF 'kenninglaw13.CanonSegments'. -/
def canonSegmentsUptoCard : Claim7 := { stood := { row := canonSegmentsUptoRow, standIns := [], harness := (true, "0a23fc4c5438d9f8338ad77af90f5b44e0692312d155ab2c27cf7e33302e9a4e"), looks := true }, kinds := [], alts := [], laidByText := true, laidKinds := [.data, .data, .handle], laidTests := true, laidLooks := .later }
def CanonSegmentsUptoCardSaid : Prop := Claim7.holds Tryz.pinned (.plain (OpenSpec.upto canonSegmentsSpec)) canonSegmentsUptoCard

/-- THE SECOND FORM's CARD OF 'kenninglaw13.CanonBuilds'. -/
def canonBuildsUptoCard : Claim7 := { stood := { row := canonBuildsUptoRow, standIns := [], harness := (true, "0a23fc4c5438d9f8338ad77af90f5b44e0692312d155ab2c27cf7e33302e9a4e"), looks := true }, kinds := [], alts := [], laidByText := true, laidKinds := [.data, .data, .handle], laidTests := true, laidLooks := .later }
def CanonBuildsUptoCardSaid : Prop := Claim7.holds Tryz.pinned (.plain (OpenSpec.upto canonBuildsSpec)) canonBuildsUptoCard
end Rows
end Go.Proofs.YtcajknjhkabhjaaGreatDoor
