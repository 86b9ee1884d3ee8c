/- Counts of package word and of the reference (stage 2's texts under other names). Conditions: the parts are numbers of 64 bits. -/
import Derived.Test.YtemhbmcgnmfoaaaGreatDoorLaw
import Derived.Laws.Externs
import Derived.Outline
import Derived.LoopTactic
import Derived.Deep.RegionHeld3
import Derived.Test.YtemhbmcgnmfoaaaGreatDoorRStarts
import Derived.Test.YtemhbmcgnmfoaaaGreatDoorOAlg
import Derived.Test.YtemhbmcgnmfoaaaGreatDoorROwn
import Derived.Test.YtemhbmcgnmfoaaaGreatDoorVApart
import Derived.Test.YtemhbmcgnmfoaaaGreatDoorVEdge
import Derived.Shelf.Abstract
import Derived.Shelf.RegionOpen
import Derived.WalkKit
import Derived.OwnWalkIn
import Derived.TacticsInMore
import Derived.LoopNIn
import Derived.LoopIn
import Derived.WalkLawsBesides
namespace Go.Proofs.YtemhbmcgnmfoaaaGreatDoor
open Go.RowKit Go.ChangeShapes Go.WideShapes
/-- -1, 0 or 1. -/
def w_cmpI (a b : Int) : Int := if a < b then -1 else if b < a then 1 else 0
def w_orI (a b : Int) : Int := if a = 0 then b else a
def w_cmpC (a b c d : Int) : Int := w_orI (w_cmpI a c) (w_cmpI b d)
theorem w_nan_any (x : Int) (w : World) : Calls Tryz.prog 119 #[.int .u64 x] w fun e w' => e = .returned (.bool false) ∧ w' = w := by
  go_enter Tryz.func119, Tryz.ntmps119
  go_wp2_with fail
  go_ret
  exact ⟨by simp, rfl⟩
theorem w_cmp_any (a b : Int) (w : World) : Calls Tryz.prog 89 #[.int .u64 a, .int .u64 b] w fun e w' => e = .returned (.int .i64 (w_cmpI a b)) ∧ w' = w := by
  have K := Lib.hid w_nan_any
  have hlt : a < b ∨ ¬ a < b := Decidable.em _
  rcases hlt with h | h
  · have HC := Lib.hid (show w_cmpI a b = -1 by unfold w_cmpI; rw [if_pos h])
    go_enter Tryz.func89, Tryz.ntmps89
    go_wp2_with fail
    refine (K.out a w).mono ?_
    rintro e w' ⟨rfl, rfl⟩
    go_wp2_with fail
    refine (K.out b w').mono ?_
    rintro e w' ⟨rfl, rfl⟩
    go_wp2_with fail
    go_ret
    exact ⟨by rw [HC.out]; rfl, rfl⟩
  · by_cases h2 : b < a
    · have HC := Lib.hid (show w_cmpI a b = 1 by unfold w_cmpI; rw [if_neg h, if_pos h2])
      go_enter Tryz.func89, Tryz.ntmps89
      go_wp2_with fail
      refine (K.out a w).mono ?_
      rintro e w' ⟨rfl, rfl⟩
      go_wp2_with fail
      refine (K.out b w').mono ?_
      rintro e w' ⟨rfl, rfl⟩
      go_wp2_with fail
      go_ret
      exact ⟨by rw [HC.out]; rfl, rfl⟩
    · have HC := Lib.hid (show w_cmpI a b = 0 by unfold w_cmpI; rw [if_neg h, if_neg h2])
      go_enter Tryz.func89, Tryz.ntmps89
      go_wp2_with fail
      refine (K.out a w).mono ?_
      rintro e w' ⟨rfl, rfl⟩
      go_wp2_with fail
      refine (K.out b w').mono ?_
      rintro e w' ⟨rfl, rfl⟩
      go_wp2_with fail
      go_ret
      exact ⟨by rw [HC.out]; rfl, rfl⟩
theorem w_cmpI_eq {a : Int} : w_cmpI a a = 0 := by unfold w_cmpI; simp
end Go.Proofs.YtemhbmcgnmfoaaaGreatDoor

/- The intervals of a list with their ranks, as package measure walks over them: counts of package word, and the iterator parts. Conditions: the list is correct, at most 20000 intervals, kept in memory between two rounds. -/
namespace Go.Proofs.YtemhbmcgnmfoaaaGreatDoor
open Go.RowKit Go.Shelf
attribute [local go_sem] Oper.semAt_some
/-- What Compare says of a number and a count. -/
def cV (n r : Int) : Int := w_cmpC 0 n (r / 18446744073709551616) (r % 18446744073709551616)
end Go.Proofs.YtemhbmcgnmfoaaaGreatDoor
