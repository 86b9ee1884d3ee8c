/-
  DERIVED. GIVEN WITH THE SEED: THE CARDS: each row of YtnlbohaealkelaaDoorRows.lean that lists a variable, with what it lists TIED to the program's text (the seventh form; the later family's looks); each row that meets fmt, with fmt's text TOLD by the authors' own Lean function (tested against real Go, not proved from fmt's source: count such statements apart). THE CARD IS WHAT COUNTS. Prove the row's statement (the work); the ties are given (YtnlbohaealkelaaDoorTie.lean); close each card by the builder's one call (the guide's Derived/Test/ToyasCard.lean, 'card_holds'). Laid BY PROGRAM, IN A SANDBOX (cutbox-door.mjs). By AI agents, Wed Nov 11 2026. No macro, syntax, notation, axiom, sorry.
-/
import Derived.Test.YtnlbohaealkelaaDoorRows
import GoSem.ClaimSeven
namespace Go.Proofs.YtnlbohaealkelaaDoor
namespace Rows

/-- THE TIED CARD OF 'kenninglaw08.JoinDenotes'. -/
def joinDenotesCard : Claim7 := { stood := { row := joinDenotesRow, standIns := [], harness := (true, "ebf70808a3340405e460a6b7c685f3cee20addd8063fa827d8bc355b29b0b24e"), looks := true }, kinds := [], alts := [], laidByText := true, laidKinds := [.handle], laidTests := true, laidLooks := .later }
def JoinDenotesCardSaid : Prop := Claim7.holds Tryd.pinned (.plain (OpenSpec.ofChange joinDenotesSpec)) joinDenotesCard

/-- THE SECOND FORM's CARD OF 'kenninglaw08.JoinDenotes'. -/
def joinDenotesUptoCard : Claim7 := { stood := { row := joinDenotesUptoRow, standIns := [], harness := (true, "ebf70808a3340405e460a6b7c685f3cee20addd8063fa827d8bc355b29b0b24e"), looks := true }, kinds := [], alts := [], laidByText := true, laidKinds := [.handle], laidTests := true, laidLooks := .later }
def JoinDenotesUptoCardSaid : Prop := Claim7.holds Tryd.pinned (.plain (OpenSpec.upto joinDenotesSpec)) joinDenotesUptoCard
end Rows
end Go.Proofs.YtnlbohaealkelaaDoor
