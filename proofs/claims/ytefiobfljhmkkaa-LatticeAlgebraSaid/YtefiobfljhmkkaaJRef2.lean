/- The reference's calculations with entries of one replica: Subset, Add, Next. Conditions: as each theorem says. -/
import Derived.Test.YtefiobfljhmkkaaNRef
import Derived.Test.YtefiobfljhmkkaaOAlg
import Derived.Test.YtefiobfljhmkkaaCells
namespace Go.Proofs.Ytefiobfljhmkkaa
open Go.RowKit
theorem SoftE.call {w w' : World} {B : Nat} {v : Value} {n : Nat} (h : SoftE w B v n) (hb : Below w.heap.size w w') : SoftE w' B v n := by
  obtain ⟨p, cap, h1, h2, h3⟩ := h
  refine ⟨p, cap, h1, h2, fun hn => ?_⟩
  obtain ⟨g, o, e, hB, h7⟩ := h3 hn
  refine ⟨g, o, e, hB, fun i hi => ?_⟩
  obtain ⟨⟨⟨z, hz⟩, hf⟩, ⟨y, hy⟩, hg⟩ := h7 i hi
  exact ⟨⟨⟨z, keep_cell hz hb⟩, keep_free hf (World.block_lt_of_cell? w _ hz) hb⟩, ⟨y, keep_cell hy hb⟩, keep_free hg (World.block_lt_of_cell? w _ hy) hb⟩
end Go.Proofs.Ytefiobfljhmkkaa
