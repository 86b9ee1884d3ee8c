/- What the laws of layer 5 ask of package setops, and their example out of it. No conditions of its own. -/
import Derived.Test.YtjnpcpcgigdngaaDoorORight
import Derived.Test.YtjnpcpcgigdngaaDoorRIv
namespace Go.Proofs.YtjnpcpcgigdngaaDoor
open Go.RowKit
theorem subL_len (a b : List Iv) : (subL a b).length ≤ 1 + 2 * (a.length + b.length) := by
  have h1 := op_len fSub a b
  have h2 := starts_len UM (a ++ b)
  rw [List.length_append] at h2
  unfold subL
  omega
theorem two_new (w : World) (x y u z : Int) (t : TypeId) (k : Nat) (hk : k = w.heap.size) (h : GoodL [(x, y), (u, z)]) : OpAt (w.alloc (.cells #[.int .u64 x, .int .u64 y, .int .u64 u, .int .u64 z] t)) (.slice (some ⟨k, 0, none⟩) 2 2) [(x, y), (u, z)] := by
  subst hk
  exact ⟨⟨_, _, rfl, by simp, fun _ => ⟨w.heap.size, 0, rfl, fun i p hp => by
    match i, hp with
    | 0, hp => simp at hp; subst hp; simp
    | 1, hp => simp at hp; subst hp; simp
    | i + 2, hp => simp at hp⟩⟩, h, by simp⟩
end Go.Proofs.YtjnpcpcgigdngaaDoor
