/- Counts of package word and of the reference (stage 2's texts under other names). Conditions: the parts are numbers of 64 bits. -/
import Derived.Test.YtgeggdaokjimjaaDoorLaw
import Derived.Laws.Externs
import Derived.Outline
import Derived.LoopTactic
import Derived.Deep.RegionHeld3
namespace Go.Proofs.YtgeggdaokjimjaaDoor
open Go.RowKit Go.ChangeShapes Go.WideShapes
/-- -1, 0 or 1. -/
def w_cmpI (a b : Int) : Int := if a < b then -1 else if b < a then 1 else 0
theorem w_nan_any (x : Int) (w : World) : Calls Tryd.prog 78 #[.int .u64 x] w fun e w' => e = .returned (.bool false) ∧ w' = w := by
  go_enter Tryd.func78, Tryd.ntmps78
  go_wp2_with fail
  go_ret
  exact ⟨by simp, rfl⟩
theorem w_cmp_any (a b : Int) (w : World) : Calls Tryd.prog 59 #[.int .u64 a, .int .u64 b] w fun e w' => e = .returned (.int .i64 (w_cmpI a b)) ∧ w' = w := by
  have K := Lib.hid w_nan_any
  have hlt : a < b ∨ ¬ a < b := Decidable.em _
  rcases hlt with h | h
  · have HC := Lib.hid (show w_cmpI a b = -1 by unfold w_cmpI; rw [if_pos h])
    go_enter Tryd.func59, Tryd.ntmps59
    go_wp2_with fail
    refine (K.out a w).mono ?_
    rintro e w' ⟨rfl, rfl⟩
    go_wp2_with fail
    refine (K.out b w').mono ?_
    rintro e w' ⟨rfl, rfl⟩
    go_wp2_with fail
    go_ret
    exact ⟨by rw [HC.out]; rfl, rfl⟩
  · by_cases h2 : b < a
    · have HC := Lib.hid (show w_cmpI a b = 1 by unfold w_cmpI; rw [if_neg h, if_pos h2])
      go_enter Tryd.func59, Tryd.ntmps59
      go_wp2_with fail
      refine (K.out a w).mono ?_
      rintro e w' ⟨rfl, rfl⟩
      go_wp2_with fail
      refine (K.out b w').mono ?_
      rintro e w' ⟨rfl, rfl⟩
      go_wp2_with fail
      go_ret
      exact ⟨by rw [HC.out]; rfl, rfl⟩
    · have HC := Lib.hid (show w_cmpI a b = 0 by unfold w_cmpI; rw [if_neg h, if_neg h2])
      go_enter Tryd.func59, Tryd.ntmps59
      go_wp2_with fail
      refine (K.out a w).mono ?_
      rintro e w' ⟨rfl, rfl⟩
      go_wp2_with fail
      refine (K.out b w').mono ?_
      rintro e w' ⟨rfl, rfl⟩
      go_wp2_with fail
      go_ret
      exact ⟨by rw [HC.out]; rfl, rfl⟩
theorem w_cmpI_eq {a : Int} : w_cmpI a a = 0 := by unfold w_cmpI; simp
end Go.Proofs.YtgeggdaokjimjaaDoor
