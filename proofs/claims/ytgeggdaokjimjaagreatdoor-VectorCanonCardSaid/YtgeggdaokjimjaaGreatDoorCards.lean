/-
  DERIVED. GIVEN WITH THE SEED: THE CARDS: each row of YtgeggdaokjimjaaGreatDoorRows.lean that lists a variable, with what it lists TIED to the program's text (the seventh form; the later family's looks); each row that meets fmt, with fmt's text TOLD by the authors' own Lean function (tested against real Go, not proved from fmt's source: count such statements apart). THE CARD IS WHAT COUNTS. Prove the row's statement (the work); the ties are given (YtgeggdaokjimjaaGreatDoorTie.lean); close each card by the builder's one call (the guide's Derived/Test/ToyasCard.lean, 'card_holds'). Laid BY PROGRAM, IN A SANDBOX (cutbox-door.mjs). By AI agents, Wed Nov 11 2026. No macro, syntax, notation, axiom, sorry.
-/
import Derived.Test.YtgeggdaokjimjaaGreatDoorRows
import GoSem.ClaimSeven
namespace Go.Proofs.YtgeggdaokjimjaaGreatDoor
namespace Rows

/-- THE TIED CARD OF 'kenninglaw09.VectorCanon'. -/
def vectorCanonCard : Claim7 := { stood := { row := vectorCanonRow, standIns := [], harness := (true, "6cfc258393508c6923239494a7b16e1f2a26c1b198901a5676818b313cdf4823"), looks := true }, kinds := [], alts := [], laidByText := true, laidKinds := [.handle], laidTests := true, laidLooks := .later }
def VectorCanonCardSaid : Prop := Claim7.holds Tryz.pinned (.plain (OpenSpec.ofChange vectorCanonSpec)) vectorCanonCard

/-- THE SECOND FORM's CARD OF 'kenninglaw09.VectorCanon'. -/
def vectorCanonUptoCard : Claim7 := { stood := { row := vectorCanonUptoRow, standIns := [], harness := (true, "6cfc258393508c6923239494a7b16e1f2a26c1b198901a5676818b313cdf4823"), looks := true }, kinds := [], alts := [], laidByText := true, laidKinds := [.handle], laidTests := true, laidLooks := .later }
def VectorCanonUptoCardSaid : Prop := Claim7.holds Tryz.pinned (.plain (OpenSpec.upto vectorCanonSpec)) vectorCanonUptoCard
end Rows
end Go.Proofs.YtgeggdaokjimjaaGreatDoor
