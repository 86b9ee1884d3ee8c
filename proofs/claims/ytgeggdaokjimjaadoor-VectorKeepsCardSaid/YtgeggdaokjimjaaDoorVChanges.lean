/- The range-function of package setops that yields the changes of two lists. Conditions: the lists are correct, kept in memory between two rounds. -/
import Derived.Test.YtgeggdaokjimjaaDoorORef
import Derived.Test.YtgeggdaokjimjaaDoorRIv
import Derived.Test.YtgeggdaokjimjaaDoorVMath
import Derived.Test.YtgeggdaokjimjaaDoorVApart
import Derived.Shelf.Abstract
import Derived.Shelf.RegionOpen
import Derived.WalkKit
import Derived.OwnWalkIn
import Derived.TacticsInMore
import Derived.LoopNIn
import Derived.LoopIn
import Derived.WalkLawsBesides
namespace Go.Proofs.YtgeggdaokjimjaaDoor
open Go.RowKit Go.Shelf
attribute [local go_sem] Oper.semAt_some
/-- The block of a list is kept. -/
def KeptL (keep : Nat → Prop) (s : Value) (l : List Iv) : Prop := l ≠ [] → ∀ b o n cap, s = .slice (some ⟨b, o, none⟩) n cap → keep b
theorem OpAt.apart {A B : World} {s : Value} {l : List Iv} {keep : Nat → Prop} (h : OpAt A s l) (hk : KeptL keep s l) (hb : Apart (fun k => ¬ keep k) A B) : OpAt B s l := by
  refine ⟨?_, h.good, h.len⟩
  obtain ⟨p, cap, h1, h2, h3⟩ := h.at'
  refine ⟨p, cap, h1, h2, fun hne => ?_⟩
  obtain ⟨b, o, rfl, h6⟩ := h3 hne
  have hkb := hk hne b o _ _ h1
  exact ⟨b, o, rfl, fun i x hi => ⟨hb.cell (h6 i x hi).1 fun hn => hn hkb, hb.cell (h6 i x hi).2 fun hn => hn hkb⟩⟩
theorem KeptL.of {w : World} {s : Value} {l : List Iv} {keep : Nat → Prop} (h : OpAt w s l) (hk : ∀ k, k < w.heap.size → keep k) : KeptL keep s l := by
  intro hne b o n cap e
  obtain ⟨p, cap', h1, h2, h3⟩ := h.at'
  obtain ⟨b', o', rfl, h6⟩ := h3 hne
  rw [h1] at e
  cases e
  obtain ⟨x, r, rfl⟩ := List.exists_cons_of_ne_nil hne
  exact hk b (World.block_lt_of_cell? w _ (h6 0 x rfl).1)
end Go.Proofs.YtgeggdaokjimjaaDoor
