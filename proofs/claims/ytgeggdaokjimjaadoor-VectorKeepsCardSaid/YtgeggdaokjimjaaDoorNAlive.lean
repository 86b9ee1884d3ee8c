/- The example of layer 7 out of what package entry says. Conditions: the contracts of package entry, and the fixed value of errors.errorType. -/
import Derived.Test.YtgeggdaokjimjaaDoorNSet
namespace Go.Proofs.YtgeggdaokjimjaaDoor
open Go.RowKit
theorem iv_one (w : World) (a b : Int) (t : TypeId) (k : Nat) (hk : k = w.heap.size) : IvsAt (w.alloc (.cells #[.int .u64 a, .int .u64 b] t)) (.slice (some ⟨k, 0, none⟩) 1 1) [(a, b)] := by
  subst hk
  refine ⟨_, _, rfl, by simp, fun _ => ⟨w.heap.size, 0, rfl, fun i p hp => ?_⟩⟩
  match i, hp with
  | 0, hp => simp at hp; subst hp; simp
  | i + 1, hp => simp at hp
theorem one_all {a b : Int} (h : 0 ≤ a ∧ a ≤ 18446744073709551615) (h' : 0 ≤ b ∧ b ≤ 18446744073709551615) : All64 [(a, b)] := fun x hx => by rw [List.mem_singleton.1 hx]; exact ⟨h, h'⟩
end Go.Proofs.YtgeggdaokjimjaaDoor
