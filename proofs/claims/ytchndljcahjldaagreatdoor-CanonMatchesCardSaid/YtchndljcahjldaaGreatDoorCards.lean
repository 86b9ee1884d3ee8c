/-
  DERIVED. GIVEN WITH THE SEED: THE CARDS: each row of YtchndljcahjldaaGreatDoorRows.lean that lists a variable, with what it lists TIED to the program's text (the seventh form; the later family's looks); each row that meets fmt, with fmt's text TOLD by the authors' own Lean function (tested against real Go, not proved from fmt's source: count such statements apart). THE CARD IS WHAT COUNTS. Prove the row's statement (the work); the ties are given (YtchndljcahjldaaGreatDoorTie.lean); close each card by the builder's one call (the guide's Derived/Test/ToyasCard.lean, 'card_holds'). Laid BY PROGRAM, IN A SANDBOX (cutbox-door.mjs). By AI agents, Wed Nov 11 2026. No macro, syntax, notation, axiom, sorry.
-/
import Derived.Test.YtchndljcahjldaaGreatDoorRows
import GoSem.ClaimSeven
namespace Go.Proofs.YtchndljcahjldaaGreatDoor
namespace Rows

/-- THE TIED CARD OF 'kenninglaw13.CanonChecks'. -/
def canonChecksCard : Claim7 := { stood := { row := canonChecksRow, standIns := [], harness := (true, "f0feda5c9016146141420a702d0e213a077698bd5156ed63becf7335939a5e89"), looks := true }, kinds := [], alts := [], laidByText := true, laidKinds := [.data, .data, .handle], laidTests := true, laidLooks := .later }
def CanonChecksCardSaid : Prop := Claim7.holds Tryz.pinned (.plain (OpenSpec.ofChange canonChecksSpec)) canonChecksCard

/-- THE TIED CARD OF 'kenninglaw13.CanonMatches'. -/
def canonMatchesCard : Claim7 := { stood := { row := canonMatchesRow, standIns := [], harness := (true, "f0feda5c9016146141420a702d0e213a077698bd5156ed63becf7335939a5e89"), looks := true }, kinds := [], alts := [], laidByText := true, laidKinds := [.data, .data, .handle], laidTests := true, laidLooks := .later }
def CanonMatchesCardSaid : Prop := Claim7.holds Tryz.pinned (.plain (OpenSpec.ofChange canonMatchesSpec)) canonMatchesCard

/-- THE TIED CARD OF 'kenninglaw13.CanonDenotes'. -/
def canonDenotesCard : Claim7 := { stood := { row := canonDenotesRow, standIns := [], harness := (true, "f0feda5c9016146141420a702d0e213a077698bd5156ed63becf7335939a5e89"), looks := true }, kinds := [], alts := [], laidByText := true, laidKinds := [.data, .data, .handle], laidTests := true, laidLooks := .later }
def CanonDenotesCardSaid : Prop := Claim7.holds Tryz.pinned (.plain (OpenSpec.ofChange canonDenotesSpec)) canonDenotesCard

/-- THE TIED CARD OF 'kenninglaw13.CanonOrder'. -/
def canonOrderCard : Claim7 := { stood := { row := canonOrderRow, standIns := [], harness := (true, "f0feda5c9016146141420a702d0e213a077698bd5156ed63becf7335939a5e89"), looks := true }, kinds := [], alts := [], laidByText := true, laidKinds := [.data, .data, .handle], laidTests := true, laidLooks := .later }
def CanonOrderCardSaid : Prop := Claim7.holds Tryz.pinned (.plain (OpenSpec.ofChange canonOrderSpec)) canonOrderCard

/-- THE TIED CARD OF 'kenninglaw13.CanonSegments'. -/
def canonSegmentsCard : Claim7 := { stood := { row := canonSegmentsRow, standIns := [], harness := (true, "f0feda5c9016146141420a702d0e213a077698bd5156ed63becf7335939a5e89"), looks := true }, kinds := [], alts := [], laidByText := true, laidKinds := [.data, .data, .handle], laidTests := true, laidLooks := .later }
def CanonSegmentsCardSaid : Prop := Claim7.holds Tryz.pinned (.plain (OpenSpec.ofChange canonSegmentsSpec)) canonSegmentsCard

/-- THE TIED CARD OF 'kenninglaw13.CanonBuilds'. -/
def canonBuildsCard : Claim7 := { stood := { row := canonBuildsRow, standIns := [], harness := (true, "f0feda5c9016146141420a702d0e213a077698bd5156ed63becf7335939a5e89"), looks := true }, kinds := [], alts := [], laidByText := true, laidKinds := [.data, .data, .handle], laidTests := true, laidLooks := .later }
def CanonBuildsCardSaid : Prop := Claim7.holds Tryz.pinned (.plain (OpenSpec.ofChange canonBuildsSpec)) canonBuildsCard

/-- THE SECOND FORM's CARD OF 'kenninglaw13.CanonChecks'. -/
def canonChecksUptoCard : Claim7 := { stood := { row := canonChecksUptoRow, standIns := [], harness := (true, "f0feda5c9016146141420a702d0e213a077698bd5156ed63becf7335939a5e89"), looks := true }, kinds := [], alts := [], laidByText := true, laidKinds := [.data, .data, .handle], laidTests := true, laidLooks := .later }
def CanonChecksUptoCardSaid : Prop := Claim7.holds Tryz.pinned (.plain (OpenSpec.upto canonChecksSpec)) canonChecksUptoCard

/-- THE SECOND FORM's CARD OF 'kenninglaw13.CanonMatches'. -/
def canonMatchesUptoCard : Claim7 := { stood := { row := canonMatchesUptoRow, standIns := [], harness := (true, "f0feda5c9016146141420a702d0e213a077698bd5156ed63becf7335939a5e89"), looks := true }, kinds := [], alts := [], laidByText := true, laidKinds := [.data, .data, .handle], laidTests := true, laidLooks := .later }
def CanonMatchesUptoCardSaid : Prop := Claim7.holds Tryz.pinned (.plain (OpenSpec.upto canonMatchesSpec)) canonMatchesUptoCard

/-- THE SECOND FORM's CARD OF 'kenninglaw13.CanonDenotes'. -/
def canonDenotesUptoCard : Claim7 := { stood := { row := canonDenotesUptoRow, standIns := [], harness := (true, "f0feda5c9016146141420a702d0e213a077698bd5156ed63becf7335939a5e89"), looks := true }, kinds := [], alts := [], laidByText := true, laidKinds := [.data, .data, .handle], laidTests := true, laidLooks := .later }
def CanonDenotesUptoCardSaid : Prop := Claim7.holds Tryz.pinned (.plain (OpenSpec.upto canonDenotesSpec)) canonDenotesUptoCard

/-- THE SECOND FORM's CARD OF 'kenninglaw13.CanonOrder'. -/
def canonOrderUptoCard : Claim7 := { stood := { row := canonOrderUptoRow, standIns := [], harness := (true, "f0feda5c9016146141420a702d0e213a077698bd5156ed63becf7335939a5e89"), looks := true }, kinds := [], alts := [], laidByText := true, laidKinds := [.data, .data, .handle], laidTests := true, laidLooks := .later }
def CanonOrderUptoCardSaid : Prop := Claim7.holds Tryz.pinned (.plain (OpenSpec.upto canonOrderSpec)) canonOrderUptoCard

/-- THE SECOND FORM's CARD OF 'kenninglaw13.CanonSegments'. -/
def canonSegmentsUptoCard : Claim7 := { stood := { row := canonSegmentsUptoRow, standIns := [], harness := (true, "f0feda5c9016146141420a702d0e213a077698bd5156ed63becf7335939a5e89"), looks := true }, kinds := [], alts := [], laidByText := true, laidKinds := [.data, .data, .handle], laidTests := true, laidLooks := .later }
def CanonSegmentsUptoCardSaid : Prop := Claim7.holds Tryz.pinned (.plain (OpenSpec.upto canonSegmentsSpec)) canonSegmentsUptoCard

/-- THE SECOND FORM's CARD OF 'kenninglaw13.CanonBuilds'. -/
def canonBuildsUptoCard : Claim7 := { stood := { row := canonBuildsUptoRow, standIns := [], harness := (true, "f0feda5c9016146141420a702d0e213a077698bd5156ed63becf7335939a5e89"), looks := true }, kinds := [], alts := [], laidByText := true, laidKinds := [.data, .data, .handle], laidTests := true, laidLooks := .later }
def CanonBuildsUptoCardSaid : Prop := Claim7.holds Tryz.pinned (.plain (OpenSpec.upto canonBuildsSpec)) canonBuildsUptoCard
end Rows
end Go.Proofs.YtchndljcahjldaaGreatDoor
