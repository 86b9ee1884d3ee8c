/-
  DERIVED. GIVEN WITH THE SEED: THE CARDS: each row of YtgcakgegboicjaaGreatDoorRows.lean that lists a variable, with what it lists TIED to the program's text (the seventh form; the later family's looks); each row that meets fmt, with fmt's text TOLD by the authors' own Lean function (tested against real Go, not proved from fmt's source: count such statements apart). THE CARD IS WHAT COUNTS. Prove the row's statement (the work); the ties are given (YtgcakgegboicjaaGreatDoorTie.lean); close each card by the builder's one call (the guide's Derived/Test/ToyasCard.lean, 'card_holds'). Laid BY PROGRAM, IN A SANDBOX (cutbox-door.mjs). By AI agents, Wed Nov 11 2026. No macro, syntax, notation, axiom, sorry.
-/
import Derived.Test.YtgcakgegboicjaaGreatDoorRows
import GoSem.ClaimSeven
namespace Go.Proofs.YtgcakgegboicjaaGreatDoor
namespace Rows

/-- THE TIED CARD OF 'kenninglaw13.CanonChecks'. -/
def canonChecksCard : Claim7 := { stood := { row := canonChecksRow, standIns := [], harness := (true, "456cca94edb7b29f6f66d1fcc1fca14c896b5d81b1186edd1f975102c6dcae34"), looks := true }, kinds := [], alts := [], laidByText := true, laidKinds := [.data, .data, .handle], laidTests := true, laidLooks := .later }
def CanonChecksCardSaid : Prop := Claim7.holds Tryz.pinned (.plain (OpenSpec.ofChange canonChecksSpec)) canonChecksCard

/-- THE TIED CARD OF 'kenninglaw13.CanonMatches'. -/
def canonMatchesCard : Claim7 := { stood := { row := canonMatchesRow, standIns := [], harness := (true, "456cca94edb7b29f6f66d1fcc1fca14c896b5d81b1186edd1f975102c6dcae34"), looks := true }, kinds := [], alts := [], laidByText := true, laidKinds := [.data, .data, .handle], laidTests := true, laidLooks := .later }
def CanonMatchesCardSaid : Prop := Claim7.holds Tryz.pinned (.plain (OpenSpec.ofChange canonMatchesSpec)) canonMatchesCard

/-- THE TIED CARD OF 'kenninglaw13.CanonDenotes'. -/
def canonDenotesCard : Claim7 := { stood := { row := canonDenotesRow, standIns := [], harness := (true, "456cca94edb7b29f6f66d1fcc1fca14c896b5d81b1186edd1f975102c6dcae34"), looks := true }, kinds := [], alts := [], laidByText := true, laidKinds := [.data, .data, .handle], laidTests := true, laidLooks := .later }
def CanonDenotesCardSaid : Prop := Claim7.holds Tryz.pinned (.plain (OpenSpec.ofChange canonDenotesSpec)) canonDenotesCard

/-- THE TIED CARD OF 'kenninglaw13.CanonOrder'. -/
def canonOrderCard : Claim7 := { stood := { row := canonOrderRow, standIns := [], harness := (true, "456cca94edb7b29f6f66d1fcc1fca14c896b5d81b1186edd1f975102c6dcae34"), looks := true }, kinds := [], alts := [], laidByText := true, laidKinds := [.data, .data, .handle], laidTests := true, laidLooks := .later }
def CanonOrderCardSaid : Prop := Claim7.holds Tryz.pinned (.plain (OpenSpec.ofChange canonOrderSpec)) canonOrderCard

/-- THE TIED CARD OF 'kenninglaw13.CanonSegments'. -/
def canonSegmentsCard : Claim7 := { stood := { row := canonSegmentsRow, standIns := [], harness := (true, "456cca94edb7b29f6f66d1fcc1fca14c896b5d81b1186edd1f975102c6dcae34"), looks := true }, kinds := [], alts := [], laidByText := true, laidKinds := [.data, .data, .handle], laidTests := true, laidLooks := .later }
def CanonSegmentsCardSaid : Prop := Claim7.holds Tryz.pinned (.plain (OpenSpec.ofChange canonSegmentsSpec)) canonSegmentsCard

/-- THE TIED CARD OF 'kenninglaw13.CanonBuilds'. -/
def canonBuildsCard : Claim7 := { stood := { row := canonBuildsRow, standIns := [], harness := (true, "456cca94edb7b29f6f66d1fcc1fca14c896b5d81b1186edd1f975102c6dcae34"), looks := true }, kinds := [], alts := [], laidByText := true, laidKinds := [.data, .data, .handle], laidTests := true, laidLooks := .later }
def CanonBuildsCardSaid : Prop := Claim7.holds Tryz.pinned (.plain (OpenSpec.ofChange canonBuildsSpec)) canonBuildsCard

/-- THE TIED CARD OF 'kenninglaw14.KnowMatches'. -/
def knowMatchesCard : Claim7 := { stood := { row := knowMatchesRow, standIns := [], harness := (true, "456cca94edb7b29f6f66d1fcc1fca14c896b5d81b1186edd1f975102c6dcae34"), looks := true }, kinds := [], alts := [], laidByText := true, laidKinds := [.data, .data, .handle], laidTests := true, laidLooks := .later }
def KnowMatchesCardSaid : Prop := Claim7.holds Tryz.pinned (.plain (OpenSpec.ofChange knowMatchesSpec)) knowMatchesCard

/-- THE TIED CARD OF 'kenninglaw14.KnowDenotes'. -/
def knowDenotesCard : Claim7 := { stood := { row := knowDenotesRow, standIns := [], harness := (true, "456cca94edb7b29f6f66d1fcc1fca14c896b5d81b1186edd1f975102c6dcae34"), looks := true }, kinds := [], alts := [], laidByText := true, laidKinds := [.data, .data, .handle], laidTests := true, laidLooks := .later }
def KnowDenotesCardSaid : Prop := Claim7.holds Tryz.pinned (.plain (OpenSpec.ofChange knowDenotesSpec)) knowDenotesCard

/-- THE TIED CARD OF 'kenninglaw14.KnowProjects'. -/
def knowProjectsCard : Claim7 := { stood := { row := knowProjectsRow, standIns := [], harness := (true, "456cca94edb7b29f6f66d1fcc1fca14c896b5d81b1186edd1f975102c6dcae34"), looks := true }, kinds := [], alts := [], laidByText := true, laidKinds := [.data, .data, .handle], laidTests := true, laidLooks := .later }
def KnowProjectsCardSaid : Prop := Claim7.holds Tryz.pinned (.plain (OpenSpec.ofChange knowProjectsSpec)) knowProjectsCard

/-- THE TIED CARD OF 'kenninglaw14.KnowInserts'. -/
def knowInsertsCard : Claim7 := { stood := { row := knowInsertsRow, standIns := [], harness := (true, "456cca94edb7b29f6f66d1fcc1fca14c896b5d81b1186edd1f975102c6dcae34"), looks := true }, kinds := [], alts := [], laidByText := true, laidKinds := [.data, .data, .handle], laidTests := true, laidLooks := .later }
def KnowInsertsCardSaid : Prop := Claim7.holds Tryz.pinned (.plain (OpenSpec.ofChange knowInsertsSpec)) knowInsertsCard

/-- THE TIED CARD OF 'kenninglaw14.KnowAlgebra'. -/
def knowAlgebraCard : Claim7 := { stood := { row := knowAlgebraRow, standIns := [], harness := (true, "456cca94edb7b29f6f66d1fcc1fca14c896b5d81b1186edd1f975102c6dcae34"), looks := true }, kinds := [], alts := [], laidByText := true, laidKinds := [.data, .data, .handle], laidTests := true, laidLooks := .later }
def KnowAlgebraCardSaid : Prop := Claim7.holds Tryz.pinned (.plain (OpenSpec.ofChange knowAlgebraSpec)) knowAlgebraCard

/-- THE TIED CARD OF 'kenninglaw14.KnowParts'. -/
def knowPartsCard : Claim7 := { stood := { row := knowPartsRow, standIns := [], harness := (true, "456cca94edb7b29f6f66d1fcc1fca14c896b5d81b1186edd1f975102c6dcae34"), looks := true }, kinds := [], alts := [], laidByText := true, laidKinds := [.data, .data, .handle], laidTests := true, laidLooks := .later }
def KnowPartsCardSaid : Prop := Claim7.holds Tryz.pinned (.plain (OpenSpec.ofChange knowPartsSpec)) knowPartsCard

/-- THE SECOND FORM's CARD OF 'kenninglaw13.CanonChecks'. -/
def canonChecksUptoCard : Claim7 := { stood := { row := canonChecksUptoRow, standIns := [], harness := (true, "456cca94edb7b29f6f66d1fcc1fca14c896b5d81b1186edd1f975102c6dcae34"), looks := true }, kinds := [], alts := [], laidByText := true, laidKinds := [.data, .data, .handle], laidTests := true, laidLooks := .later }
def CanonChecksUptoCardSaid : Prop := Claim7.holds Tryz.pinned (.plain (OpenSpec.upto canonChecksSpec)) canonChecksUptoCard

/-- THE SECOND FORM's CARD OF 'kenninglaw13.CanonMatches'. -/
def canonMatchesUptoCard : Claim7 := { stood := { row := canonMatchesUptoRow, standIns := [], harness := (true, "456cca94edb7b29f6f66d1fcc1fca14c896b5d81b1186edd1f975102c6dcae34"), looks := true }, kinds := [], alts := [], laidByText := true, laidKinds := [.data, .data, .handle], laidTests := true, laidLooks := .later }
def CanonMatchesUptoCardSaid : Prop := Claim7.holds Tryz.pinned (.plain (OpenSpec.upto canonMatchesSpec)) canonMatchesUptoCard

/-- THE SECOND FORM's CARD OF 'kenninglaw13.CanonDenotes'. -/
def canonDenotesUptoCard : Claim7 := { stood := { row := canonDenotesUptoRow, standIns := [], harness := (true, "456cca94edb7b29f6f66d1fcc1fca14c896b5d81b1186edd1f975102c6dcae34"), looks := true }, kinds := [], alts := [], laidByText := true, laidKinds := [.data, .data, .handle], laidTests := true, laidLooks := .later }
def CanonDenotesUptoCardSaid : Prop := Claim7.holds Tryz.pinned (.plain (OpenSpec.upto canonDenotesSpec)) canonDenotesUptoCard

/-- THE SECOND FORM's CARD OF 'kenninglaw13.CanonOrder'. -/
def canonOrderUptoCard : Claim7 := { stood := { row := canonOrderUptoRow, standIns := [], harness := (true, "456cca94edb7b29f6f66d1fcc1fca14c896b5d81b1186edd1f975102c6dcae34"), looks := true }, kinds := [], alts := [], laidByText := true, laidKinds := [.data, .data, .handle], laidTests := true, laidLooks := .later }
def CanonOrderUptoCardSaid : Prop := Claim7.holds Tryz.pinned (.plain (OpenSpec.upto canonOrderSpec)) canonOrderUptoCard

/-- THE SECOND FORM's CARD OF 'kenninglaw13.CanonSegments'. -/
def canonSegmentsUptoCard : Claim7 := { stood := { row := canonSegmentsUptoRow, standIns := [], harness := (true, "456cca94edb7b29f6f66d1fcc1fca14c896b5d81b1186edd1f975102c6dcae34"), looks := true }, kinds := [], alts := [], laidByText := true, laidKinds := [.data, .data, .handle], laidTests := true, laidLooks := .later }
def CanonSegmentsUptoCardSaid : Prop := Claim7.holds Tryz.pinned (.plain (OpenSpec.upto canonSegmentsSpec)) canonSegmentsUptoCard

/-- THE SECOND FORM's CARD OF 'kenninglaw13.CanonBuilds'. -/
def canonBuildsUptoCard : Claim7 := { stood := { row := canonBuildsUptoRow, standIns := [], harness := (true, "456cca94edb7b29f6f66d1fcc1fca14c896b5d81b1186edd1f975102c6dcae34"), looks := true }, kinds := [], alts := [], laidByText := true, laidKinds := [.data, .data, .handle], laidTests := true, laidLooks := .later }
def CanonBuildsUptoCardSaid : Prop := Claim7.holds Tryz.pinned (.plain (OpenSpec.upto canonBuildsSpec)) canonBuildsUptoCard

/-- THE SECOND FORM's CARD OF 'kenninglaw14.KnowMatches'. -/
def knowMatchesUptoCard : Claim7 := { stood := { row := knowMatchesUptoRow, standIns := [], harness := (true, "456cca94edb7b29f6f66d1fcc1fca14c896b5d81b1186edd1f975102c6dcae34"), looks := true }, kinds := [], alts := [], laidByText := true, laidKinds := [.data, .data, .handle], laidTests := true, laidLooks := .later }
def KnowMatchesUptoCardSaid : Prop := Claim7.holds Tryz.pinned (.plain (OpenSpec.upto knowMatchesSpec)) knowMatchesUptoCard

/-- THE SECOND FORM's CARD OF 'kenninglaw14.KnowDenotes'. -/
def knowDenotesUptoCard : Claim7 := { stood := { row := knowDenotesUptoRow, standIns := [], harness := (true, "456cca94edb7b29f6f66d1fcc1fca14c896b5d81b1186edd1f975102c6dcae34"), looks := true }, kinds := [], alts := [], laidByText := true, laidKinds := [.data, .data, .handle], laidTests := true, laidLooks := .later }
def KnowDenotesUptoCardSaid : Prop := Claim7.holds Tryz.pinned (.plain (OpenSpec.upto knowDenotesSpec)) knowDenotesUptoCard

/-- THE SECOND FORM's CARD OF 'kenninglaw14.KnowProjects'. -/
def knowProjectsUptoCard : Claim7 := { stood := { row := knowProjectsUptoRow, standIns := [], harness := (true, "456cca94edb7b29f6f66d1fcc1fca14c896b5d81b1186edd1f975102c6dcae34"), looks := true }, kinds := [], alts := [], laidByText := true, laidKinds := [.data, .data, .handle], laidTests := true, laidLooks := .later }
def KnowProjectsUptoCardSaid : Prop := Claim7.holds Tryz.pinned (.plain (OpenSpec.upto knowProjectsSpec)) knowProjectsUptoCard

/-- THE SECOND FORM's CARD OF 'kenninglaw14.KnowInserts'. -/
def knowInsertsUptoCard : Claim7 := { stood := { row := knowInsertsUptoRow, standIns := [], harness := (true, "456cca94edb7b29f6f66d1fcc1fca14c896b5d81b1186edd1f975102c6dcae34"), looks := true }, kinds := [], alts := [], laidByText := true, laidKinds := [.data, .data, .handle], laidTests := true, laidLooks := .later }
def KnowInsertsUptoCardSaid : Prop := Claim7.holds Tryz.pinned (.plain (OpenSpec.upto knowInsertsSpec)) knowInsertsUptoCard

/-- THE SECOND FORM's CARD OF 'kenninglaw14.KnowAlgebra'. -/
def knowAlgebraUptoCard : Claim7 := { stood := { row := knowAlgebraUptoRow, standIns := [], harness := (true, "456cca94edb7b29f6f66d1fcc1fca14c896b5d81b1186edd1f975102c6dcae34"), looks := true }, kinds := [], alts := [], laidByText := true, laidKinds := [.data, .data, .handle], laidTests := true, laidLooks := .later }
def KnowAlgebraUptoCardSaid : Prop := Claim7.holds Tryz.pinned (.plain (OpenSpec.upto knowAlgebraSpec)) knowAlgebraUptoCard

/-- THE SECOND FORM's CARD OF 'kenninglaw14.KnowParts'. -/
def knowPartsUptoCard : Claim7 := { stood := { row := knowPartsUptoRow, standIns := [], harness := (true, "456cca94edb7b29f6f66d1fcc1fca14c896b5d81b1186edd1f975102c6dcae34"), looks := true }, kinds := [], alts := [], laidByText := true, laidKinds := [.data, .data, .handle], laidTests := true, laidLooks := .later }
def KnowPartsUptoCardSaid : Prop := Claim7.holds Tryz.pinned (.plain (OpenSpec.upto knowPartsSpec)) knowPartsUptoCard
end Rows
end Go.Proofs.YtgcakgegboicjaaGreatDoor
