/- The reference's numbers of a vector. Conditions: as each theorem says. -/
import Derived.Test.YtgeggdaokjimjaaDoorPRef
import Derived.Test.YtgeggdaokjimjaaDoorRNums
import Derived.Test.YtgeggdaokjimjaaDoorRFind
import Derived.Test.YtgeggdaokjimjaaDoorRIv
import Derived.Deep.RegionLaw
import Derived.Deep.RegionHeld3
namespace Go.Proofs.YtgeggdaokjimjaaDoor
open Go.RowKit
/-- The numbers of an entry, of a vector. -/
def ivN (H : List Iv) : List Int := H.flatMap fun y => [y.1, y.2]
def entN (x : Int × Int × List Iv) : List Int := [x.1, x.2.1, (x.2.2.length : Int)] ++ ivN x.2.2
def numsV (V : List (Int × Int × List Iv)) : List Int := (V.length : Int) :: V.flatMap entN
theorem take_snoc9 {α : Type} {l : List α} {k : Nat} {x : α} (h : l[k]? = some x) : l.take (k + 1) = l.take k ++ [x] := by rw [List.take_add_one, h]; rfl
theorem ivN_len (H : List Iv) : (ivN H).length = 2 * H.length := by
  unfold ivN
  induction H with
  | nil => rfl
  | cons y H ih => rw [List.flatMap_cons, List.length_append, ih]; simp; omega
theorem entN_len (x : Int × Int × List Iv) : (entN x).length = 3 + 2 * x.2.2.length := by unfold entN; rw [List.length_append, ivN_len]; rfl
theorem flat_len : ∀ (l : List (Int × Int × List Iv)), (∀ x ∈ l, x.2.2.length ≤ 5000) → (l.flatMap entN).length ≤ l.length * 10003
  | [], _ => by simp
  | x :: l, h => by
    have h1 := flat_len l fun y hy => h y (by simp [hy])
    have h2 := h x (by simp)
    rw [List.flatMap_cons, List.length_append, entN_len, List.length_cons]
    omega
theorem nmC_app (a b : List Int) : nmC (a ++ b) = nmC a ++ nmC b := by simp [nmC]
end Go.Proofs.YtgeggdaokjimjaaDoor

/- The reference's order of vectors. Conditions: as each theorem says. -/
namespace Go.Proofs.YtgeggdaokjimjaaDoor
open Go.RowKit
/-- The order of lists of numbers. -/
def cmpL : List Int → List Int → Int
  | [], [] => 0
  | [], _ :: _ => -1
  | _ :: _, [] => 1
  | x :: a, y :: b => if x < y then -1 else if y < x then 1 else cmpL a b
theorem nums_len {V : List (Int × Int × List Iv)} {w : World} {v : Value} (hv : VecM w v V) : 0 < (numsV V).length ∧ (numsV V).length ≤ 1000300001 := by
  have h := flat_len V fun x hx => by
    obtain ⟨i, hi⟩ := List.mem_iff_getElem?.1 hx
    obtain ⟨_, _, _, _, _, _, _, _, _, _, ha⟩ := hv.elem (r := x.1) (m := x.2.1) (H := x.2.2) hi
    exact ha.len
  have := hv.len
  unfold numsV
  rw [List.length_cons]
  omega
theorem nm_at {L : List Int} {i : Nat} {x : Int} (h : L[i]? = some x) : (nmC L)[i]? = some (.int .u64 x) := by unfold nmC; rw [List.getElem?_map, h]; rfl
end Go.Proofs.YtgeggdaokjimjaaDoor
