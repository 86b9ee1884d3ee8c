/-
  DERIVED. GIVEN WITH THE SEED: THE CARDS: each row of YtgeggdaokjimjaaDoorRows.lean that lists a variable, with what it lists TIED to the program's text (the seventh form; the later family's looks); each row that meets fmt, with fmt's text TOLD by the authors' own Lean function (tested against real Go, not proved from fmt's source: count such statements apart). THE CARD IS WHAT COUNTS. Prove the row's statement (the work); the ties are given (YtgeggdaokjimjaaDoorTie.lean); close each card by the builder's one call (the guide's Derived/Test/ToyasCard.lean, 'card_holds'). Laid BY PROGRAM, IN A SANDBOX (cutbox-door.mjs). By AI agents, Wed Nov 11 2026. No macro, syntax, notation, axiom, sorry.
-/
import Derived.Test.YtgeggdaokjimjaaDoorRows
import GoSem.ClaimSeven
namespace Go.Proofs.YtgeggdaokjimjaaDoor
namespace Rows

/-- THE TIED CARD OF 'kenninglaw09.VectorChecks'. -/
def vectorChecksCard : Claim7 := { stood := { row := vectorChecksRow, standIns := [], harness := (true, "2ae3104aed6676e6714f84dfc437547b5f4896b9577134b4e5f15e91c83e7680"), looks := true }, kinds := [], alts := [], laidByText := true, laidKinds := [.handle], laidTests := true, laidLooks := .later }
def VectorChecksCardSaid : Prop := Claim7.holds Tryd.pinned (.plain (OpenSpec.ofChange vectorChecksSpec)) vectorChecksCard

/-- THE TIED CARD OF 'kenninglaw09.VectorKnows'. -/
def vectorKnowsCard : Claim7 := { stood := { row := vectorKnowsRow, standIns := [], harness := (true, "2ae3104aed6676e6714f84dfc437547b5f4896b9577134b4e5f15e91c83e7680"), looks := true }, kinds := [], alts := [], laidByText := true, laidKinds := [.handle], laidTests := true, laidLooks := .later }
def VectorKnowsCardSaid : Prop := Claim7.holds Tryd.pinned (.plain (OpenSpec.ofChange vectorKnowsSpec)) vectorKnowsCard

/-- THE TIED CARD OF 'kenninglaw09.VectorNumbers'. -/
def vectorNumbersCard : Claim7 := { stood := { row := vectorNumbersRow, standIns := [], harness := (true, "2ae3104aed6676e6714f84dfc437547b5f4896b9577134b4e5f15e91c83e7680"), looks := true }, kinds := [], alts := [], laidByText := true, laidKinds := [.handle], laidTests := true, laidLooks := .later }
def VectorNumbersCardSaid : Prop := Claim7.holds Tryd.pinned (.plain (OpenSpec.ofChange vectorNumbersSpec)) vectorNumbersCard

/-- THE TIED CARD OF 'kenninglaw09.VectorOrder'. -/
def vectorOrderCard : Claim7 := { stood := { row := vectorOrderRow, standIns := [], harness := (true, "2ae3104aed6676e6714f84dfc437547b5f4896b9577134b4e5f15e91c83e7680"), looks := true }, kinds := [], alts := [], laidByText := true, laidKinds := [.handle], laidTests := true, laidLooks := .later }
def VectorOrderCardSaid : Prop := Claim7.holds Tryd.pinned (.plain (OpenSpec.ofChange vectorOrderSpec)) vectorOrderCard

/-- THE TIED CARD OF 'kenninglaw09.VectorKeeps'. -/
def vectorKeepsCard : Claim7 := { stood := { row := vectorKeepsRow, standIns := [], harness := (true, "2ae3104aed6676e6714f84dfc437547b5f4896b9577134b4e5f15e91c83e7680"), looks := true }, kinds := [], alts := [], laidByText := true, laidKinds := [.handle], laidTests := true, laidLooks := .later }
def VectorKeepsCardSaid : Prop := Claim7.holds Tryd.pinned (.plain (OpenSpec.ofChange vectorKeepsSpec)) vectorKeepsCard

/-- THE SECOND FORM's CARD OF 'kenninglaw09.VectorChecks'. -/
def vectorChecksUptoCard : Claim7 := { stood := { row := vectorChecksUptoRow, standIns := [], harness := (true, "2ae3104aed6676e6714f84dfc437547b5f4896b9577134b4e5f15e91c83e7680"), looks := true }, kinds := [], alts := [], laidByText := true, laidKinds := [.handle], laidTests := true, laidLooks := .later }
def VectorChecksUptoCardSaid : Prop := Claim7.holds Tryd.pinned (.plain (OpenSpec.upto vectorChecksSpec)) vectorChecksUptoCard

/-- THE SECOND FORM's CARD OF 'kenninglaw09.VectorKnows'. -/
def vectorKnowsUptoCard : Claim7 := { stood := { row := vectorKnowsUptoRow, standIns := [], harness := (true, "2ae3104aed6676e6714f84dfc437547b5f4896b9577134b4e5f15e91c83e7680"), looks := true }, kinds := [], alts := [], laidByText := true, laidKinds := [.handle], laidTests := true, laidLooks := .later }
def VectorKnowsUptoCardSaid : Prop := Claim7.holds Tryd.pinned (.plain (OpenSpec.upto vectorKnowsSpec)) vectorKnowsUptoCard

/-- THE SECOND FORM's CARD OF 'kenninglaw09.VectorNumbers'. -/
def vectorNumbersUptoCard : Claim7 := { stood := { row := vectorNumbersUptoRow, standIns := [], harness := (true, "2ae3104aed6676e6714f84dfc437547b5f4896b9577134b4e5f15e91c83e7680"), looks := true }, kinds := [], alts := [], laidByText := true, laidKinds := [.handle], laidTests := true, laidLooks := .later }
def VectorNumbersUptoCardSaid : Prop := Claim7.holds Tryd.pinned (.plain (OpenSpec.upto vectorNumbersSpec)) vectorNumbersUptoCard

/-- THE SECOND FORM's CARD OF 'kenninglaw09.VectorOrder'. -/
def vectorOrderUptoCard : Claim7 := { stood := { row := vectorOrderUptoRow, standIns := [], harness := (true, "2ae3104aed6676e6714f84dfc437547b5f4896b9577134b4e5f15e91c83e7680"), looks := true }, kinds := [], alts := [], laidByText := true, laidKinds := [.handle], laidTests := true, laidLooks := .later }
def VectorOrderUptoCardSaid : Prop := Claim7.holds Tryd.pinned (.plain (OpenSpec.upto vectorOrderSpec)) vectorOrderUptoCard

/-- THE SECOND FORM's CARD OF 'kenninglaw09.VectorKeeps'. -/
def vectorKeepsUptoCard : Claim7 := { stood := { row := vectorKeepsUptoRow, standIns := [], harness := (true, "2ae3104aed6676e6714f84dfc437547b5f4896b9577134b4e5f15e91c83e7680"), looks := true }, kinds := [], alts := [], laidByText := true, laidKinds := [.handle], laidTests := true, laidLooks := .later }
def VectorKeepsUptoCardSaid : Prop := Claim7.holds Tryd.pinned (.plain (OpenSpec.upto vectorKeepsSpec)) vectorKeepsUptoCard
end Rows
end Go.Proofs.YtgeggdaokjimjaaDoor
