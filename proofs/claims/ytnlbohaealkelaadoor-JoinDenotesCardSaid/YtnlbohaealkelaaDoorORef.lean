/- The reference's union, meet, difference, complement and subset. Conditions: correct lists of at most 20000 intervals. -/
import Derived.Test.YtnlbohaealkelaaDoorRNums
import Derived.Test.YtnlbohaealkelaaDoorRRef2
import Derived.Test.YtnlbohaealkelaaDoorOAlg
namespace Go.Proofs.YtnlbohaealkelaaDoor
open Go.RowKit
/-- A list in memory that is correct and not too long. -/
structure OpAt (w : World) (s : Value) (l : List Iv) : Prop where
  at' : IvsAt w s l
  good : GoodL l
  len : l.length ≤ 20000
theorem OpAt.call {w w' : World} {s : Value} {l : List Iv} (h : OpAt w s l) (hb : Below w.heap.size w w') : OpAt w' s l := ⟨h.at'.call hb, h.good, h.len⟩
/-- A literal list of one interval. -/
theorem one_new (w : World) (x y : Int) (t : TypeId) : IvsAt (w.alloc (.cells #[.int .u64 x, .int .u64 y] t)) (.slice (some ⟨w.heap.size, 0, none⟩) 1 1) [(x, y)] :=
  ⟨_, _, rfl, by simp, fun _ => ⟨w.heap.size, 0, rfl, fun i z hz => by
    match i, hz with
    | 0, hz => simp at hz; subst hz; simp
    | i + 1, hz => simp at hz⟩⟩
theorem one_op (w : World) (x y : Int) (t : TypeId) (h : GoodL [(x, y)]) : OpAt (w.alloc (.cells #[.int .u64 x, .int .u64 y] t)) (.slice (some ⟨w.heap.size, 0, none⟩) 1 1) [(x, y)] := ⟨one_new w x y t, h, by simp⟩
end Go.Proofs.YtnlbohaealkelaaDoor
