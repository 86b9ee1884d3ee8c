/- What the laws of layer 5 ask of package setops, and their example out of it. No conditions of its own. -/
import Derived.Test.YtgeggdaokjimjaaGreatDoorORef
import Derived.Test.YtgeggdaokjimjaaGreatDoorRIv
namespace Go.Proofs.YtgeggdaokjimjaaGreatDoor
open Go.RowKit
theorem subL_len (a b : List Iv) : (subL a b).length ≤ 1 + 2 * (a.length + b.length) := by
  have h1 := op_len fSub a b
  have h2 := starts_len UM (a ++ b)
  rw [List.length_append] at h2
  unfold subL
  omega
end Go.Proofs.YtgeggdaokjimjaaGreatDoor
