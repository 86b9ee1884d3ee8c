/-
  DERIVED. GIVEN WITH THE SEED: THE CARDS: each row of YtdchddiilnhbcaaDoorRows.lean that lists a variable, with what it lists TIED to the program's text (the seventh form; the later family's looks); each row that meets fmt, with fmt's text TOLD by the authors' own Lean function (tested against real Go, not proved from fmt's source: count such statements apart). THE CARD IS WHAT COUNTS. Prove the row's statement (the work); the ties are given (YtdchddiilnhbcaaDoorTie.lean); close each card by the builder's one call (the guide's Derived/Test/ToyasCard.lean, 'card_holds'). Laid BY PROGRAM, IN A SANDBOX (cutbox-door.mjs). By AI agents, Wed Nov 11 2026. No macro, syntax, notation, axiom, sorry.
-/
import Derived.Test.YtdchddiilnhbcaaDoorRows
import GoSem.ClaimSeven
namespace Go.Proofs.YtdchddiilnhbcaaDoor
namespace Rows

/-- THE TIED CARD OF 'kenninglaw05.SetopsDenote'. -/
def setopsDenoteCard : Claim7 := { stood := { row := setopsDenoteRow, standIns := [], harness := (true, "0b34892d0c1db45723b27f9386a181567b7e01a6ef8a03fb8a1be812bad5e80c"), looks := true }, kinds := [], alts := [], laidByText := true, laidKinds := [.handle], laidTests := true, laidLooks := .later }
def SetopsDenoteCardSaid : Prop := Claim7.holds Tryd.pinned (.plain (OpenSpec.ofChange setopsDenoteSpec)) setopsDenoteCard

/-- THE SECOND FORM's CARD OF 'kenninglaw05.SetopsDenote'. -/
def setopsDenoteUptoCard : Claim7 := { stood := { row := setopsDenoteUptoRow, standIns := [], harness := (true, "0b34892d0c1db45723b27f9386a181567b7e01a6ef8a03fb8a1be812bad5e80c"), looks := true }, kinds := [], alts := [], laidByText := true, laidKinds := [.handle], laidTests := true, laidLooks := .later }
def SetopsDenoteUptoCardSaid : Prop := Claim7.holds Tryd.pinned (.plain (OpenSpec.upto setopsDenoteSpec)) setopsDenoteUptoCard
end Rows
end Go.Proofs.YtdchddiilnhbcaaDoor
