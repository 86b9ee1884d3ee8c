/- The reference's calculations with entries of one replica: Subset, Add, Next. Conditions: as each theorem says. -/
import Derived.Test.YtnlbohaealkelaaDoorJRef
namespace Go.Proofs.YtnlbohaealkelaaDoor
open Go.RowKit
theorem SoftE.call {w w' : World} {B : Nat} {v : Value} {n : Nat} (h : SoftE w B v n) (hb : Below w.heap.size w w') : SoftE w' B v n := by
  obtain ⟨p, cap, h1, h2, h3⟩ := h
  refine ⟨p, cap, h1, h2, fun hn => ?_⟩
  obtain ⟨g, o, e, hB, h7⟩ := h3 hn
  refine ⟨g, o, e, hB, fun i hi => ?_⟩
  obtain ⟨⟨⟨z, hz⟩, hf⟩, ⟨y, hy⟩, hg⟩ := h7 i hi
  exact ⟨⟨⟨z, keep_cell hz hb⟩, keep_free hf (World.block_lt_of_cell? w _ hz) hb⟩, ⟨y, keep_cell hy hb⟩, keep_free hg (World.block_lt_of_cell? w _ hy) hb⟩
/-- The counter behind all that are known. -/
def nextN (K : List Iv) : Int := if K = [] then 0 else if topL K = UM then 0 else topL K + 1
def nextB (K : List Iv) : Bool := decide (K = []) || !decide (topL K = UM)
/-- A call that returns a number and whether there is one. -/
def IsNB8 (n : Int) (b : Bool) (w : World) (e : Ending) (w' : World) : Prop := e = .returned (.tuple #[.int .u64 n, .bool b]) ∧ Below w.heap.size w w'
end Go.Proofs.YtnlbohaealkelaaDoor
