/-
  DERIVED. GIVEN WITH THE SEED: THE CARDS: each row of YtemhbmcgnmfoaaaGreatDoorRows.lean that lists a variable, with what it lists TIED to the program's text (the seventh form; the later family's looks); each row that meets fmt, with fmt's text TOLD by the authors' own Lean function (tested against real Go, not proved from fmt's source: count such statements apart). THE CARD IS WHAT COUNTS. Prove the row's statement (the work); the ties are given (YtemhbmcgnmfoaaaGreatDoorTie.lean); close each card by the builder's one call (the guide's Derived/Test/ToyasCard.lean, 'card_holds'). Laid BY PROGRAM, IN A SANDBOX (cutbox-door.mjs). By AI agents, Wed Nov 11 2026. No macro, syntax, notation, axiom, sorry.
-/
import Derived.Test.YtemhbmcgnmfoaaaGreatDoorRows
import GoSem.ClaimSeven
namespace Go.Proofs.YtemhbmcgnmfoaaaGreatDoor
namespace Rows

/-- THE TIED CARD OF 'kenninglaw11.ScopeChecks'. -/
def scopeChecksCard : Claim7 := { stood := { row := scopeChecksRow, standIns := [], harness := (true, "0a9a812ee02f61a6fabfe6b10d7abc56187557032c072a1eb1a7e17a397f5199"), looks := true }, kinds := [], alts := [], laidByText := true, laidKinds := [.data, .data, .handle], laidTests := true, laidLooks := .later }
def ScopeChecksCardSaid : Prop := Claim7.holds Tryz.pinned (.plain (OpenSpec.ofChange scopeChecksSpec)) scopeChecksCard

/-- THE TIED CARD OF 'kenninglaw11.ScopeKnows'. -/
def scopeKnowsCard : Claim7 := { stood := { row := scopeKnowsRow, standIns := [], harness := (true, "0a9a812ee02f61a6fabfe6b10d7abc56187557032c072a1eb1a7e17a397f5199"), looks := true }, kinds := [], alts := [], laidByText := true, laidKinds := [.data, .data, .handle], laidTests := true, laidLooks := .later }
def ScopeKnowsCardSaid : Prop := Claim7.holds Tryz.pinned (.plain (OpenSpec.ofChange scopeKnowsSpec)) scopeKnowsCard

/-- THE TIED CARD OF 'kenninglaw11.ScopeAt'. -/
def scopeAtCard : Claim7 := { stood := { row := scopeAtRow, standIns := [], harness := (true, "0a9a812ee02f61a6fabfe6b10d7abc56187557032c072a1eb1a7e17a397f5199"), looks := true }, kinds := [], alts := [], laidByText := true, laidKinds := [.data, .data, .handle], laidTests := true, laidLooks := .later }
def ScopeAtCardSaid : Prop := Claim7.holds Tryz.pinned (.plain (OpenSpec.ofChange scopeAtSpec)) scopeAtCard

/-- THE TIED CARD OF 'kenninglaw11.ScopeItems'. -/
def scopeItemsCard : Claim7 := { stood := { row := scopeItemsRow, standIns := [], harness := (true, "0a9a812ee02f61a6fabfe6b10d7abc56187557032c072a1eb1a7e17a397f5199"), looks := true }, kinds := [], alts := [], laidByText := true, laidKinds := [.data, .data, .handle], laidTests := true, laidLooks := .later }
def ScopeItemsCardSaid : Prop := Claim7.holds Tryz.pinned (.plain (OpenSpec.ofChange scopeItemsSpec)) scopeItemsCard

/-- THE TIED CARD OF 'kenninglaw11.ScopeSame'. -/
def scopeSameCard : Claim7 := { stood := { row := scopeSameRow, standIns := [], harness := (true, "0a9a812ee02f61a6fabfe6b10d7abc56187557032c072a1eb1a7e17a397f5199"), looks := true }, kinds := [], alts := [], laidByText := true, laidKinds := [.data, .data, .handle], laidTests := true, laidLooks := .later }
def ScopeSameCardSaid : Prop := Claim7.holds Tryz.pinned (.plain (OpenSpec.ofChange scopeSameSpec)) scopeSameCard

/-- THE TIED CARD OF 'kenninglaw11.ScopeClones'. -/
def scopeClonesCard : Claim7 := { stood := { row := scopeClonesRow, standIns := [], harness := (true, "0a9a812ee02f61a6fabfe6b10d7abc56187557032c072a1eb1a7e17a397f5199"), looks := true }, kinds := [], alts := [], laidByText := true, laidKinds := [.data, .data, .handle], laidTests := true, laidLooks := .later }
def ScopeClonesCardSaid : Prop := Claim7.holds Tryz.pinned (.plain (OpenSpec.ofChange scopeClonesSpec)) scopeClonesCard

/-- THE SECOND FORM's CARD OF 'kenninglaw11.ScopeChecks'. -/
def scopeChecksUptoCard : Claim7 := { stood := { row := scopeChecksUptoRow, standIns := [], harness := (true, "0a9a812ee02f61a6fabfe6b10d7abc56187557032c072a1eb1a7e17a397f5199"), looks := true }, kinds := [], alts := [], laidByText := true, laidKinds := [.data, .data, .handle], laidTests := true, laidLooks := .later }
def ScopeChecksUptoCardSaid : Prop := Claim7.holds Tryz.pinned (.plain (OpenSpec.upto scopeChecksSpec)) scopeChecksUptoCard

/-- THE SECOND FORM's CARD OF 'kenninglaw11.ScopeKnows'. -/
def scopeKnowsUptoCard : Claim7 := { stood := { row := scopeKnowsUptoRow, standIns := [], harness := (true, "0a9a812ee02f61a6fabfe6b10d7abc56187557032c072a1eb1a7e17a397f5199"), looks := true }, kinds := [], alts := [], laidByText := true, laidKinds := [.data, .data, .handle], laidTests := true, laidLooks := .later }
def ScopeKnowsUptoCardSaid : Prop := Claim7.holds Tryz.pinned (.plain (OpenSpec.upto scopeKnowsSpec)) scopeKnowsUptoCard

/-- THE SECOND FORM's CARD OF 'kenninglaw11.ScopeAt'. -/
def scopeAtUptoCard : Claim7 := { stood := { row := scopeAtUptoRow, standIns := [], harness := (true, "0a9a812ee02f61a6fabfe6b10d7abc56187557032c072a1eb1a7e17a397f5199"), looks := true }, kinds := [], alts := [], laidByText := true, laidKinds := [.data, .data, .handle], laidTests := true, laidLooks := .later }
def ScopeAtUptoCardSaid : Prop := Claim7.holds Tryz.pinned (.plain (OpenSpec.upto scopeAtSpec)) scopeAtUptoCard

/-- THE SECOND FORM's CARD OF 'kenninglaw11.ScopeItems'. -/
def scopeItemsUptoCard : Claim7 := { stood := { row := scopeItemsUptoRow, standIns := [], harness := (true, "0a9a812ee02f61a6fabfe6b10d7abc56187557032c072a1eb1a7e17a397f5199"), looks := true }, kinds := [], alts := [], laidByText := true, laidKinds := [.data, .data, .handle], laidTests := true, laidLooks := .later }
def ScopeItemsUptoCardSaid : Prop := Claim7.holds Tryz.pinned (.plain (OpenSpec.upto scopeItemsSpec)) scopeItemsUptoCard

/-- THE SECOND FORM's CARD OF 'kenninglaw11.ScopeSame'. -/
def scopeSameUptoCard : Claim7 := { stood := { row := scopeSameUptoRow, standIns := [], harness := (true, "0a9a812ee02f61a6fabfe6b10d7abc56187557032c072a1eb1a7e17a397f5199"), looks := true }, kinds := [], alts := [], laidByText := true, laidKinds := [.data, .data, .handle], laidTests := true, laidLooks := .later }
def ScopeSameUptoCardSaid : Prop := Claim7.holds Tryz.pinned (.plain (OpenSpec.upto scopeSameSpec)) scopeSameUptoCard

/-- THE SECOND FORM's CARD OF 'kenninglaw11.ScopeClones'. -/
def scopeClonesUptoCard : Claim7 := { stood := { row := scopeClonesUptoRow, standIns := [], harness := (true, "0a9a812ee02f61a6fabfe6b10d7abc56187557032c072a1eb1a7e17a397f5199"), looks := true }, kinds := [], alts := [], laidByText := true, laidKinds := [.data, .data, .handle], laidTests := true, laidLooks := .later }
def ScopeClonesUptoCardSaid : Prop := Claim7.holds Tryz.pinned (.plain (OpenSpec.upto scopeClonesSpec)) scopeClonesUptoCard
end Rows
end Go.Proofs.YtemhbmcgnmfoaaaGreatDoor
