/- What the laws of layer 5 ask of package setops, and their example out of it. No conditions of its own. -/
import Derived.Test.YtnihmmhmndgagaaORight
import Derived.Test.YtnihmmhmndgagaaRIv
namespace Go.Proofs.Ytnihmmhmndgagaa
open Go.RowKit
theorem ex_good1 : GoodL [(2, 3), (9, 9)] := good_of ((canon_iff _).1 (by decide)) (by intro x hx; simp at hx; rcases hx with rfl | rfl <;> exact ⟨⟨by decide, by decide⟩, by decide, by decide⟩)
theorem two_new (w : World) (x y u z : Int) (t : TypeId) (k : Nat) (hk : k = w.heap.size) (h : GoodL [(x, y), (u, z)]) : OpAt (w.alloc (.cells #[.int .u64 x, .int .u64 y, .int .u64 u, .int .u64 z] t)) (.slice (some ⟨k, 0, none⟩) 2 2) [(x, y), (u, z)] := by
  subst hk
  exact ⟨⟨_, _, rfl, by simp, fun _ => ⟨w.heap.size, 0, rfl, fun i p hp => by
    match i, hp with
    | 0, hp => simp at hp; subst hp; simp
    | 1, hp => simp at hp; subst hp; simp
    | i + 2, hp => simp at hp⟩⟩, h, by simp⟩
end Go.Proofs.Ytnihmmhmndgagaa
