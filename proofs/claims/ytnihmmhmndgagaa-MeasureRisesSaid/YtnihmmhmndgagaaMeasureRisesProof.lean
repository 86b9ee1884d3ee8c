/- For every input MeasureRises returns true, and the input reads as it did. Condition: none beyond what the given statement says. -/
import Derived.Test.YtnihmmhmndgagaaMLaws
import Derived.Test.YtnihmmhmndgagaaRow
import Derived.Test.YtnihmmhmndgagaaMSetC
import Derived.Test.YtnihmmhmndgagaaOOpen
namespace Go.Proofs.Ytnihmmhmndgagaa
open Go.ChangeShapes Go.WideShapes Go.RowKit

set_option maxRecDepth 100000 in
theorem measureRises_lifted (os : Os) (started : os.Started) (H : Type) (enc : TypeId × Value → H) :
    ReturnsInHanded {} Try.checked os 8 .any (Rows.measureRisesSpec.pre6 enc Try.prog Try.f8 Rows.measureRisesRow.domain false) (Rows.measureRisesSpec.post enc Try.prog Try.f8 false true false false) := by
  refine lift_plain (tb := 4) os started H enc Try.func8 (by kernel_rfl) rfl (by kernel_rfl) (by kernel_rfl) Try.underlying4 ?_
    (ChangeSpec.witness6 (enc := enc) (C := Try.checked) false ⟨#[], #[.slice none 0 0, .int .u64 0], []⟩ 8 (by kernel_rfl) (by kernel_rfl) (by kernel_rfl) (by kernel_rfl)) ?_
  · intro ds hl
    rw [Try.params8] at hl
    match ds, hl with
    | [d1, d2], _ => simp [Rows.measureRisesSpec]
  · intro W base args ds p hval hA _
    rw [Try.params8] at hA hval
    obtain ⟨v0, v1, d0, d1, p0, p1, rfl, rfl, rfl, h0, h1⟩ := trodAll_two hA
    have ha0 := arg_open (hval 0 23 v0 rfl rfl) h0
    obtain ⟨x1, rfl, rfl, rfl, w1⟩ := open_int Try.underlying24 (hval 1 24 v1 rfl rfl) h1
    have b1 := bounds_u64 w1
    exact lawRises6_any measC _ _ b1.1 b1.2 W ha0

theorem MeasureRises_holds : Rows.MeasureRisesSaid :=
  OpenClaim.holds_of_wide 8 Try.f8 rfl rfl rfl rfl rfl rfl rfl ⟨rfl, rfl, rfl, rfl, rfl⟩ rfl rfl rfl rfl rfl (by kernel_rfl) Try.func8 (by kernel_rfl)
    (of_decide_eq_true (by kernel_rfl)) (by unfold Func.isWrapper; rw [if_neg (of_decide_eq_false (by kernel_rfl))]; exact ⟨rfl, rfl⟩)
    (fun os started H enc _ => measureRises_lifted os started H enc)
end Go.Proofs.Ytnihmmhmndgagaa
