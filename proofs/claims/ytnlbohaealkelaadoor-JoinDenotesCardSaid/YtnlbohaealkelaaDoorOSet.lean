/- What the laws of layer 5 ask of package setops, and their example out of it. No conditions of its own. -/
import Derived.Test.YtnlbohaealkelaaDoorORef
import Derived.Test.YtnlbohaealkelaaDoorRIv
namespace Go.Proofs.YtnlbohaealkelaaDoor
open Go.RowKit
theorem orL_len (a b : List Iv) : (orL a b).length ≤ 1 + 2 * (a.length + b.length) := by
  have h1 := op_len fOr a b
  have h2 := starts_len UM (a ++ b)
  rw [List.length_append] at h2
  unfold orL
  omega
theorem andL_len (a b : List Iv) : (andL a b).length ≤ 1 + 2 * (a.length + b.length) := by
  have h1 := op_len fAnd a b
  have h2 := starts_len UM (a ++ b)
  rw [List.length_append] at h2
  unfold andL
  omega
theorem subL_len (a b : List Iv) : (subL a b).length ≤ 1 + 2 * (a.length + b.length) := by
  have h1 := op_len fSub a b
  have h2 := starts_len UM (a ++ b)
  rw [List.length_append] at h2
  unfold subL
  omega
end Go.Proofs.YtnlbohaealkelaaDoor
