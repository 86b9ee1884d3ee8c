/- The reference's canonical form of a vector: entries appended to a row of the call's own. Conditions: the vector is correct, its lists have at most 1000 intervals. -/
import Derived.Test.YtgeggdaokjimjaaDoorPMath
import Derived.Test.YtgeggdaokjimjaaDoorPOut
namespace Go.Proofs.YtgeggdaokjimjaaDoor
open Go.RowKit
theorem infoE : (Tryd.prog.info? 47).map (fun i => (i.zero, i.size, i.bytes)) = some (some (.agg #[.int .u64 0, .int .u64 0, .slice none 0 0]), 3, 40) := by kernel_rfl
theorem cell_three9 (w : World) (x y z : Value) (t : TypeId) (k : Nat) (hk : k = w.heap.size) : ∀ j u, [x, y, z][j]? = some u → (w.alloc (.cells #[x, y, z] t)).cell? ((⟨k, 0, none⟩ : Addr).add j) = some u := by
  subst hk
  intro j u h
  match j, h with
  | 0, h => simp at h; subst h; simp [Addr.add]
  | 1, h => simp at h; subst h; simp [Addr.add]
  | 2, h => simp at h; subst h; simp [Addr.add]
theorem some9_of {L : List Iv} (h : L ≠ []) : someE L = true := by unfold someE; cases L <;> simp at *
theorem canonV_snoc {V : List (Int × Int × List Iv)} {k : Nat} {r m : Int} {H : List Iv} (h : V[k]? = some (r, m, H)) :
    canonV (V.take (k + 1)) = if knownL m H = [] then canonV (V.take k) else canonV (V.take k) ++ [(repE r (knownL m H), topL (knownL m H), holesL (knownL m H))] := by
  unfold canonV
  rw [take_snoc9 h, List.filterMap_append]
  by_cases hk : knownL m H = []
  · rw [if_pos hk]
    have : canE (r, m, H) = none := by unfold canE; rw [if_pos hk]
    rw [List.filterMap_cons_none this]; simp
  · rw [if_neg hk]
    have : canE (r, m, H) = some (r, topL (knownL m H), holesL (knownL m H)) := by unfold canE; rw [if_neg hk]
    rw [List.filterMap_cons_some this]
    unfold repE
    rw [if_neg hk]; rfl
end Go.Proofs.YtgeggdaokjimjaaDoor
