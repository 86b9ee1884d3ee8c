/- Put of the reference: an interval behind all others is added, and joined to the last one if they touch. Conditions: the ends are numbers of 64 bits. -/
import Derived.Test.YtnihmmhmndgagaaROwn
import Derived.Test.YtnihmmhmndgagaaRIv
import Derived.Deep.DrawnRows
import Derived.StillTailTactics
import Derived.RegionTactic
import Derived.Deep.RegionWith
import Derived.Deep.RegionLaw
import Derived.Deep.RegionHeld3
namespace Go.Proofs.Ytnihmmhmndgagaa
open Go.RowKit
attribute [local go_sem ↓] Go.wp_at_zero Go.wp_at_succ
/-- A slice made of nothing. -/
theorem own_none (w : World) (k : Nat) (hk : k = w.heap.size) (B : Nat) (hB : B ≤ w.heap.size) : (w.alloc (.cells #[] 37)).ownsRow B 37 2 (.slice (some ⟨k, 0, none⟩) 0 0) 0 [] := by
  subst hk
  exact World.ownsRow_lit w #[] 0 hB (Nat.zero_le _) rfl
end Go.Proofs.Ytnihmmhmndgagaa
