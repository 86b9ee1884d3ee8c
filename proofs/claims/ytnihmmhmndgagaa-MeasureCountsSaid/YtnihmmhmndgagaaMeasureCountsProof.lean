/- For every input MeasureCounts returns true, and the input reads as it did. Condition: none beyond what the given statement says. -/
import Derived.Test.YtnihmmhmndgagaaMLaws
import Derived.Test.YtnihmmhmndgagaaRow
import Derived.Test.YtnihmmhmndgagaaMSetC
import Derived.Test.YtnihmmhmndgagaaOOpen
namespace Go.Proofs.Ytnihmmhmndgagaa
open Go.ChangeShapes Go.WideShapes Go.RowKit

set_option maxRecDepth 100000 in
theorem measureCounts_lifted (os : Os) (started : os.Started) (H : Type) (enc : TypeId × Value → H) :
    ReturnsInHanded {} Try.checked os 3 .any (Rows.measureCountsSpec.pre6 enc Try.prog Try.f3 Rows.measureCountsRow.domain false) (Rows.measureCountsSpec.post enc Try.prog Try.f3 false true false false) := by
  refine lift_plain (tb := 4) os started H enc Try.func3 (by kernel_rfl) rfl (by kernel_rfl) (by kernel_rfl) Try.underlying4 ?_
    (ChangeSpec.witness6 (enc := enc) (C := Try.checked) false ⟨#[], #[.slice none 0 0, .int .u64 0], []⟩ 8 (by kernel_rfl) (by kernel_rfl) (by kernel_rfl) (by kernel_rfl)) ?_
  · intro ds hl
    rw [Try.params3] at hl
    match ds, hl with
    | [d1, d2], _ => simp [Rows.measureCountsSpec]
  · intro W base args ds p hval hA _
    rw [Try.params3] at hA hval
    obtain ⟨v0, v1, d0, d1, p0, p1, rfl, rfl, rfl, h0, h1⟩ := trodAll_two hA
    have ha0 := arg_open (hval 0 23 v0 rfl rfl) h0
    obtain ⟨x1, rfl, rfl, rfl, w1⟩ := open_int Try.underlying24 (hval 1 24 v1 rfl rfl) h1
    have b1 := bounds_u64 w1
    exact lawCounts6_any measC _ _ b1.1 b1.2 W ha0

theorem MeasureCounts_holds : Rows.MeasureCountsSaid :=
  OpenClaim.holds_of_wide 3 Try.f3 rfl rfl rfl rfl rfl rfl rfl ⟨rfl, rfl, rfl, rfl, rfl⟩ rfl rfl rfl rfl rfl (by kernel_rfl) Try.func3 (by kernel_rfl)
    (of_decide_eq_true (by kernel_rfl)) (by unfold Func.isWrapper; rw [if_neg (of_decide_eq_false (by kernel_rfl))]; exact ⟨rfl, rfl⟩)
    (fun os started H enc _ => measureCounts_lifted os started H enc)
end Go.Proofs.Ytnihmmhmndgagaa
