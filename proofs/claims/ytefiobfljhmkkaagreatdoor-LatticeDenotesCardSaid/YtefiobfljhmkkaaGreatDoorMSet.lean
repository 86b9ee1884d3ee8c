/- What the laws of layer 6 ask of package measure, and their example out of it. No conditions of its own. -/
import Derived.Test.YtefiobfljhmkkaaGreatDoorRRef2
import Derived.Test.YtefiobfljhmkkaaGreatDoorOAlg
import Derived.Test.YtefiobfljhmkkaaGreatDoorMCount
import Derived.Test.YtefiobfljhmkkaaGreatDoorROwn
namespace Go.Proofs.YtefiobfljhmkkaaGreatDoor
open Go.RowKit
/-- A call that returns a count. -/
def IsC (n : Int) (w : World) (e : Ending) (w' : World) : Prop := e = .returned (.agg #[.int .u64 (n / 18446744073709551616), .int .u64 (n % 18446744073709551616)]) ∧ Below w.heap.size w w'
end Go.Proofs.YtefiobfljhmkkaaGreatDoor
