/- For every input MeasureNth returns true, and the input reads as it did. Condition: none beyond what the given statement says. -/
import Derived.Test.YtnihmmhmndgagaaMLaws
import Derived.Test.YtnihmmhmndgagaaRow
import Derived.Test.YtnihmmhmndgagaaMSetC
import Derived.Test.YtnihmmhmndgagaaOOpen
namespace Go.Proofs.Ytnihmmhmndgagaa
open Go.ChangeShapes Go.WideShapes Go.RowKit

set_option maxRecDepth 100000 in
theorem measureNth_lifted (os : Os) (started : os.Started) (H : Type) (enc : TypeId × Value → H) :
    ReturnsInHanded {} Try.checked os 5 .any (Rows.measureNthSpec.pre6 enc Try.prog Try.f5 Rows.measureNthRow.domain false) (Rows.measureNthSpec.post enc Try.prog Try.f5 false true false false) := by
  refine lift_plain (tb := 4) os started H enc Try.func5 (by kernel_rfl) rfl (by kernel_rfl) (by kernel_rfl) Try.underlying4 ?_
    (ChangeSpec.witness6 (enc := enc) (C := Try.checked) false ⟨#[], #[.slice none 0 0, .int .u64 0], []⟩ 8 (by kernel_rfl) (by kernel_rfl) (by kernel_rfl) (by kernel_rfl)) ?_
  · intro ds hl
    rw [Try.params5] at hl
    match ds, hl with
    | [d1, d2], _ => simp [Rows.measureNthSpec]
  · intro W base args ds p hval hA _
    rw [Try.params5] at hA hval
    obtain ⟨v0, v1, d0, d1, p0, p1, rfl, rfl, rfl, h0, h1⟩ := trodAll_two hA
    have ha0 := arg_open (hval 0 23 v0 rfl rfl) h0
    obtain ⟨x1, rfl, rfl, rfl, w1⟩ := open_int Try.underlying24 (hval 1 24 v1 rfl rfl) h1
    have b1 := bounds_u64 w1
    exact lawNth6_any measC _ _ b1.1 b1.2 W ha0

theorem MeasureNth_holds : Rows.MeasureNthSaid :=
  OpenClaim.holds_of_wide 5 Try.f5 rfl rfl rfl rfl rfl rfl rfl ⟨rfl, rfl, rfl, rfl, rfl⟩ rfl rfl rfl rfl rfl (by kernel_rfl) Try.func5 (by kernel_rfl)
    (of_decide_eq_true (by kernel_rfl)) (by unfold Func.isWrapper; rw [if_neg (of_decide_eq_false (by kernel_rfl))]; exact ⟨rfl, rfl⟩)
    (fun os started H enc _ => measureNth_lifted os started H enc)
end Go.Proofs.Ytnihmmhmndgagaa
