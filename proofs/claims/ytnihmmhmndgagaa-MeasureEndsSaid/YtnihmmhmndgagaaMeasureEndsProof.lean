/- For every input MeasureEnds returns true, and the input reads as it did. Condition: none beyond what the given statement says. -/
import Derived.Test.YtnihmmhmndgagaaMLaws
import Derived.Test.YtnihmmhmndgagaaRow
import Derived.Test.YtnihmmhmndgagaaMSetC
import Derived.Test.YtnihmmhmndgagaaOOpen
namespace Go.Proofs.Ytnihmmhmndgagaa
open Go.ChangeShapes Go.WideShapes Go.RowKit

set_option maxRecDepth 100000 in
theorem measureEnds_lifted (os : Os) (started : os.Started) (H : Type) (enc : TypeId × Value → H) :
    ReturnsInHanded {} Try.checked os 4 .any (Rows.measureEndsSpec.pre6 enc Try.prog Try.f4 Rows.measureEndsRow.domain false) (Rows.measureEndsSpec.post enc Try.prog Try.f4 false true false false) := by
  refine lift_plain (tb := 4) os started H enc Try.func4 (by kernel_rfl) rfl (by kernel_rfl) (by kernel_rfl) Try.underlying4 ?_
    (ChangeSpec.witness6 (enc := enc) (C := Try.checked) false ⟨#[], #[.slice none 0 0], []⟩ 8 (by kernel_rfl) (by kernel_rfl) (by kernel_rfl) (by kernel_rfl)) ?_
  · intro ds hl
    rw [Try.params4] at hl
    match ds, hl with
    | [d], _ => simp [Rows.measureEndsSpec]
  · intro W base args ds p hval hA _
    rw [Try.params4] at hA hval
    obtain ⟨v0, d0, rfl, rfl, h0⟩ := trodAll_one hA
    have ha0 := arg_open (hval 0 23 v0 rfl rfl) h0
    exact lawEnds6_any measC _ W ha0

theorem MeasureEnds_holds : Rows.MeasureEndsSaid :=
  OpenClaim.holds_of_wide 4 Try.f4 rfl rfl rfl rfl rfl rfl rfl ⟨rfl, rfl, rfl, rfl, rfl⟩ rfl rfl rfl rfl rfl (by kernel_rfl) Try.func4 (by kernel_rfl)
    (of_decide_eq_true (by kernel_rfl)) (by unfold Func.isWrapper; rw [if_neg (of_decide_eq_false (by kernel_rfl))]; exact ⟨rfl, rfl⟩)
    (fun os started H enc _ => measureEnds_lifted os started H enc)
end Go.Proofs.Ytnihmmhmndgagaa
