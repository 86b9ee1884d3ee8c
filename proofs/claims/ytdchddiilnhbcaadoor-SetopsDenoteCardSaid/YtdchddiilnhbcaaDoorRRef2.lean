/- Put and Normal of the reference. Conditions: the intervals are right, their ends numbers of 64 bits, at most 1048576 of them. -/
import Derived.Test.YtdchddiilnhbcaaDoorRNums
import Derived.Test.YtdchddiilnhbcaaDoorRIv
namespace Go.Proofs.YtdchddiilnhbcaaDoor
open Go.RowKit
def IsOwnR (L : List Iv) (w : World) (e : Ending) (w' : World) : Prop := ∃ v, e = .returned v ∧ OwnL w' w.heap.size v L ∧ Below w.heap.size w w'
theorem hasLR (l : List Iv) (s : Value) (x : Int) (r : Bool) (w : World) (hl : IvsAt w s l) (h : hasL l x = r) :
    Calls Tryd.prog 10 #[s, .int .u64 x] w (IsEnd r w) := by
  subst h; exact refHasL_any l s x w hl
end Go.Proofs.YtdchddiilnhbcaaDoor
