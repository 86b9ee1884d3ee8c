/- Slices of numbers that a call has made itself. No conditions. -/
import Derived.Test.YtnlbohaealkelaaDoorROwn
import Derived.Test.YtnlbohaealkelaaDoorRIv
import Derived.Deep.DrawnRows
import Derived.StillTailTactics
import Derived.RegionTactic
import Derived.Deep.RegionWith
import Derived.Deep.RegionLaw
import Derived.Deep.RegionHeld3
namespace Go.Proofs.YtnlbohaealkelaaDoor
open Go.RowKit
theorem raw_len (U : Int) (l : List Iv) : (rawS U l).length ≤ 1 + 2 * l.length := by
  unfold rawS
  rw [List.length_cons]
  have : (l.flatMap fun y => if y.2 < U then [y.1, y.2 + 1] else [y.1]).length ≤ 2 * l.length := by
    induction l with
    | nil => simp
    | cons y l ih =>
      rw [List.flatMap_cons, List.length_append, List.length_cons]
      have h2 : (if y.2 < U then [y.1, y.2 + 1] else [y.1]).length ≤ 2 := by split <;> simp
      omega
  omega
theorem ins_len (S : List Int) (x : Int) : (insI S x).length ≤ S.length + 1 := by
  unfold insI
  simp only
  split
  · simp
  · split
    · omega
    · rw [List.length_append, List.length_cons, List.length_take, List.length_drop]; omega
theorem fold_len : ∀ (R S : List Int), (R.foldl insI S).length ≤ S.length + R.length
  | [], S => by simp
  | x :: R, S => by have := fold_len R (insI S x); have := ins_len S x; rw [List.foldl_cons, List.length_cons]; omega
theorem starts_len (U : Int) (l : List Iv) : (startsL U l).length ≤ 1 + 2 * l.length := by
  have := fold_len (rawS U l) []; have := raw_len U l; unfold startsL; simp at *; omega
end Go.Proofs.YtnlbohaealkelaaDoor
