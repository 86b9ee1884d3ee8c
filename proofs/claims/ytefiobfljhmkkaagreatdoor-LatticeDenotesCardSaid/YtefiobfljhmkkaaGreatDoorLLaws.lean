/- The laws of layer 10 in every state, out of what packages lattice and vector say. Conditions: their contracts, and that of the reference's operations. -/
import Derived.Test.YtefiobfljhmkkaaGreatDoorLRef
import Derived.Test.YtefiobfljhmkkaaGreatDoorMCount
namespace Go.Proofs.YtefiobfljhmkkaaGreatDoor
open Go.RowKit
def pickV2 (a b : Value) : Nat → Value | 0 => a | _ => b
/-- A count in memory. -/
structure C2 (w : World) (b : Nat) (x y : Int) : Prop where
  c0 : w.cell? ⟨b, 0, none⟩ = some (.int .u64 x)
  c1 : w.cell? ⟨b, 1, none⟩ = some (.int .u64 y)
theorem C2.call {w w' : World} {b : Nat} {x y : Int} (h : C2 w b x y) (hb : Below w.heap.size w w') : C2 w' b x y := ⟨keep_cell h.c0 hb, keep_cell h.c1 hb⟩
theorem C2.new {w w' : World} {x y : Int} {t : TypeId} (hw : w.alloc (.cells #[.int .u64 x, .int .u64 y] t) = w') : C2 w' w.heap.size x y := by
  subst hw; exact ⟨by simp, by simp⟩
end Go.Proofs.YtefiobfljhmkkaaGreatDoor
