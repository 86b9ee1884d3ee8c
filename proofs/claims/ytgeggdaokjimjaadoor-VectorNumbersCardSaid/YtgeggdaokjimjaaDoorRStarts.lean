/- Starts of the reference, of one list: the numbers at which something may change, rising, each once. Conditions: the ends are numbers of 64 bits, at most 1048576 intervals. -/
import Derived.Test.YtgeggdaokjimjaaDoorRPut
namespace Go.Proofs.YtgeggdaokjimjaaDoor
open Go.RowKit
attribute [local go_sem ↓] Go.wp_at_zero Go.wp_at_succ
def IsNums (L : List Int) (w : World) (e : Ending) (w' : World) : Prop := ∃ v, e = .returned v ∧ OwnN w' w.heap.size v L ∧ Below w.heap.size w w'
end Go.Proofs.YtgeggdaokjimjaaDoor
