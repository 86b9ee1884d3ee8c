/-
  DERIVED. GIVEN WITH THE SEED: THE CARDS: each row of YtjnpcpcgigdngaaDoorRows.lean that lists a variable, with what it lists TIED to the program's text (the seventh form; the later family's looks); each row that meets fmt, with fmt's text TOLD by the authors' own Lean function (tested against real Go, not proved from fmt's source: count such statements apart). THE CARD IS WHAT COUNTS. Prove the row's statement (the work); the ties are given (YtjnpcpcgigdngaaDoorTie.lean); close each card by the builder's one call (the guide's Derived/Test/ToyasCard.lean, 'card_holds'). Laid BY PROGRAM, IN A SANDBOX (cutbox-door.mjs). By AI agents, Wed Nov 11 2026. No macro, syntax, notation, axiom, sorry.
-/
import Derived.Test.YtjnpcpcgigdngaaDoorRows
import GoSem.ClaimSeven
namespace Go.Proofs.YtjnpcpcgigdngaaDoor
namespace Rows

/-- THE TIED CARD OF 'kenninglaw07.EntryChecks'. -/
def entryChecksCard : Claim7 := { stood := { row := entryChecksRow, standIns := [], harness := (true, "9e2a30c05cfb6ee7e592ec8aa0080ecb41b1af28637b2917853f227ddeda5044"), looks := true }, kinds := [], alts := [], laidByText := true, laidKinds := [.handle], laidTests := true, laidLooks := .later }
def EntryChecksCardSaid : Prop := Claim7.holds Tryd.pinned (.plain (OpenSpec.ofChange entryChecksSpec)) entryChecksCard

/-- THE TIED CARD OF 'kenninglaw07.EntryKnows'. -/
def entryKnowsCard : Claim7 := { stood := { row := entryKnowsRow, standIns := [], harness := (true, "9e2a30c05cfb6ee7e592ec8aa0080ecb41b1af28637b2917853f227ddeda5044"), looks := true }, kinds := [], alts := [], laidByText := true, laidKinds := [.handle], laidTests := true, laidLooks := .later }
def EntryKnowsCardSaid : Prop := Claim7.holds Tryd.pinned (.plain (OpenSpec.ofChange entryKnowsSpec)) entryKnowsCard

/-- THE TIED CARD OF 'kenninglaw07.EntryOf'. -/
def entryOfCard : Claim7 := { stood := { row := entryOfRow, standIns := [], harness := (true, "9e2a30c05cfb6ee7e592ec8aa0080ecb41b1af28637b2917853f227ddeda5044"), looks := true }, kinds := [], alts := [], laidByText := true, laidKinds := [.handle], laidTests := true, laidLooks := .later }
def EntryOfCardSaid : Prop := Claim7.holds Tryd.pinned (.plain (OpenSpec.ofChange entryOfSpec)) entryOfCard

/-- THE TIED CARD OF 'kenninglaw07.EntryCanon'. -/
def entryCanonCard : Claim7 := { stood := { row := entryCanonRow, standIns := [], harness := (true, "9e2a30c05cfb6ee7e592ec8aa0080ecb41b1af28637b2917853f227ddeda5044"), looks := true }, kinds := [], alts := [], laidByText := true, laidKinds := [.handle], laidTests := true, laidLooks := .later }
def EntryCanonCardSaid : Prop := Claim7.holds Tryd.pinned (.plain (OpenSpec.ofChange entryCanonSpec)) entryCanonCard

/-- THE TIED CARD OF 'kenninglaw07.EntrySame'. -/
def entrySameCard : Claim7 := { stood := { row := entrySameRow, standIns := [], harness := (true, "9e2a30c05cfb6ee7e592ec8aa0080ecb41b1af28637b2917853f227ddeda5044"), looks := true }, kinds := [], alts := [], laidByText := true, laidKinds := [.handle], laidTests := true, laidLooks := .later }
def EntrySameCardSaid : Prop := Claim7.holds Tryd.pinned (.plain (OpenSpec.ofChange entrySameSpec)) entrySameCard

/-- THE TIED CARD OF 'kenninglaw07.EntryKeeps'. -/
def entryKeepsCard : Claim7 := { stood := { row := entryKeepsRow, standIns := [], harness := (true, "9e2a30c05cfb6ee7e592ec8aa0080ecb41b1af28637b2917853f227ddeda5044"), looks := true }, kinds := [], alts := [], laidByText := true, laidKinds := [.handle], laidTests := true, laidLooks := .later }
def EntryKeepsCardSaid : Prop := Claim7.holds Tryd.pinned (.plain (OpenSpec.ofChange entryKeepsSpec)) entryKeepsCard

/-- THE SECOND FORM's CARD OF 'kenninglaw07.EntryChecks'. -/
def entryChecksUptoCard : Claim7 := { stood := { row := entryChecksUptoRow, standIns := [], harness := (true, "9e2a30c05cfb6ee7e592ec8aa0080ecb41b1af28637b2917853f227ddeda5044"), looks := true }, kinds := [], alts := [], laidByText := true, laidKinds := [.handle], laidTests := true, laidLooks := .later }
def EntryChecksUptoCardSaid : Prop := Claim7.holds Tryd.pinned (.plain (OpenSpec.upto entryChecksSpec)) entryChecksUptoCard

/-- THE SECOND FORM's CARD OF 'kenninglaw07.EntryKnows'. -/
def entryKnowsUptoCard : Claim7 := { stood := { row := entryKnowsUptoRow, standIns := [], harness := (true, "9e2a30c05cfb6ee7e592ec8aa0080ecb41b1af28637b2917853f227ddeda5044"), looks := true }, kinds := [], alts := [], laidByText := true, laidKinds := [.handle], laidTests := true, laidLooks := .later }
def EntryKnowsUptoCardSaid : Prop := Claim7.holds Tryd.pinned (.plain (OpenSpec.upto entryKnowsSpec)) entryKnowsUptoCard

/-- THE SECOND FORM's CARD OF 'kenninglaw07.EntryOf'. -/
def entryOfUptoCard : Claim7 := { stood := { row := entryOfUptoRow, standIns := [], harness := (true, "9e2a30c05cfb6ee7e592ec8aa0080ecb41b1af28637b2917853f227ddeda5044"), looks := true }, kinds := [], alts := [], laidByText := true, laidKinds := [.handle], laidTests := true, laidLooks := .later }
def EntryOfUptoCardSaid : Prop := Claim7.holds Tryd.pinned (.plain (OpenSpec.upto entryOfSpec)) entryOfUptoCard

/-- THE SECOND FORM's CARD OF 'kenninglaw07.EntryCanon'. -/
def entryCanonUptoCard : Claim7 := { stood := { row := entryCanonUptoRow, standIns := [], harness := (true, "9e2a30c05cfb6ee7e592ec8aa0080ecb41b1af28637b2917853f227ddeda5044"), looks := true }, kinds := [], alts := [], laidByText := true, laidKinds := [.handle], laidTests := true, laidLooks := .later }
def EntryCanonUptoCardSaid : Prop := Claim7.holds Tryd.pinned (.plain (OpenSpec.upto entryCanonSpec)) entryCanonUptoCard

/-- THE SECOND FORM's CARD OF 'kenninglaw07.EntrySame'. -/
def entrySameUptoCard : Claim7 := { stood := { row := entrySameUptoRow, standIns := [], harness := (true, "9e2a30c05cfb6ee7e592ec8aa0080ecb41b1af28637b2917853f227ddeda5044"), looks := true }, kinds := [], alts := [], laidByText := true, laidKinds := [.handle], laidTests := true, laidLooks := .later }
def EntrySameUptoCardSaid : Prop := Claim7.holds Tryd.pinned (.plain (OpenSpec.upto entrySameSpec)) entrySameUptoCard

/-- THE SECOND FORM's CARD OF 'kenninglaw07.EntryKeeps'. -/
def entryKeepsUptoCard : Claim7 := { stood := { row := entryKeepsUptoRow, standIns := [], harness := (true, "9e2a30c05cfb6ee7e592ec8aa0080ecb41b1af28637b2917853f227ddeda5044"), looks := true }, kinds := [], alts := [], laidByText := true, laidKinds := [.handle], laidTests := true, laidLooks := .later }
def EntryKeepsUptoCardSaid : Prop := Claim7.holds Tryd.pinned (.plain (OpenSpec.upto entryKeepsSpec)) entryKeepsUptoCard
end Rows
end Go.Proofs.YtjnpcpcgigdngaaDoor
