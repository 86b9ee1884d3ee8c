/- The reference's union, meet, difference, complement and subset. Conditions: correct lists of at most 20000 intervals. -/
import Derived.Test.YtgeggdaokjimjaaDoorRNums
import Derived.Test.YtgeggdaokjimjaaDoorRIv
import Derived.Test.YtgeggdaokjimjaaDoorOAlg
namespace Go.Proofs.YtgeggdaokjimjaaDoor
open Go.RowKit
/-- A list in memory that is correct and not too long. -/
structure OpAt (w : World) (s : Value) (l : List Iv) : Prop where
  at' : IvsAt w s l
  good : GoodL l
  len : l.length ≤ 20000
theorem OpAt.call {w w' : World} {s : Value} {l : List Iv} (h : OpAt w s l) (hb : Below w.heap.size w w') : OpAt w' s l := ⟨h.at'.call hb, h.good, h.len⟩
end Go.Proofs.YtgeggdaokjimjaaDoor
