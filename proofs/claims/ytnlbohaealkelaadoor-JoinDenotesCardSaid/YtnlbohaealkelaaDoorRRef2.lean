/- Put and Normal of the reference. Conditions: the intervals are right, their ends numbers of 64 bits, at most 1048576 of them. -/
import Derived.Test.YtnlbohaealkelaaDoorRNums
import Derived.Test.YtnlbohaealkelaaDoorRIv
namespace Go.Proofs.YtnlbohaealkelaaDoor
open Go.RowKit
def IsOwnR (L : List Iv) (w : World) (e : Ending) (w' : World) : Prop := ∃ v, e = .returned v ∧ OwnL w' w.heap.size v L ∧ Below w.heap.size w w'
end Go.Proofs.YtnlbohaealkelaaDoor
