/- The law EntryKeeps in every state, out of what package entry says. Conditions: the contracts of package entry, and the fixed value of errors.errorType. -/
import Derived.Test.YtefiobfljhmkkaaGreatDoorNRef
import Derived.Test.YtefiobfljhmkkaaGreatDoorRRef2
namespace Go.Proofs.YtefiobfljhmkkaaGreatDoor
open Go.RowKit
theorem sane_row {W : World} {B : Nat} {v : Value} {L : List Iv} (h : OwnL W B v L) : SaneE v := by
  have hrow : W.ownsRow B 67 2 v L.length (ivC L) := h
  rcases hrow.2 with ⟨h1, _⟩ | ⟨g, cap, cur, h1, _, _, hnc, _⟩
  · refine ⟨fun n c e => ?_, fun a n c e => ?_⟩
    · rw [e] at h1; cases h1; exact ⟨rfl, rfl⟩
    · rw [e] at h1; cases h1
  · refine ⟨fun n c e => ?_, fun a n c e => ?_⟩
    · rw [e] at h1; cases h1
    · rw [e] at h1; cases h1; exact hnc
end Go.Proofs.YtefiobfljhmkkaaGreatDoor
