/- For every input MeasureParts returns true, and the input reads as it did. Condition: none beyond what the given statement says. -/
import Derived.Test.YtnihmmhmndgagaaMParts
import Derived.Test.YtnihmmhmndgagaaRow
import Derived.Test.YtnihmmhmndgagaaMSetC
import Derived.Test.YtnihmmhmndgagaaOOpen
namespace Go.Proofs.Ytnihmmhmndgagaa
open Go.ChangeShapes Go.WideShapes Go.RowKit

set_option maxRecDepth 100000 in
theorem measureParts_lifted (os : Os) (started : os.Started) (H : Type) (enc : TypeId × Value → H) :
    ReturnsInHanded {} Try.checked os 7 .any (Rows.measurePartsSpec.pre6 enc Try.prog Try.f7 Rows.measurePartsRow.domain false) (Rows.measurePartsSpec.post enc Try.prog Try.f7 false true false false) := by
  refine lift_plain (tb := 4) os started H enc Try.func7 (by kernel_rfl) rfl (by kernel_rfl) (by kernel_rfl) Try.underlying4 ?_
    (ChangeSpec.witness6 (enc := enc) (C := Try.checked) false ⟨#[], #[.slice none 0 0, .int .u64 0], []⟩ 8 (by kernel_rfl) (by kernel_rfl) (by kernel_rfl) (by kernel_rfl)) ?_
  · intro ds hl
    rw [Try.params7] at hl
    match ds, hl with
    | [d1, d2], _ => simp [Rows.measurePartsSpec]
  · intro W base args ds p hval hA _
    rw [Try.params7] at hA hval
    obtain ⟨v0, v1, d0, d1, p0, p1, rfl, rfl, rfl, h0, h1⟩ := trodAll_two hA
    have ha0 := arg_open (hval 0 23 v0 rfl rfl) h0
    obtain ⟨x1, rfl, rfl, rfl, w1⟩ := open_int Try.underlying24 (hval 1 24 v1 rfl rfl) h1
    have b1 := bounds_u64 w1
    exact lawParts6_any measC _ _ b1.1 b1.2 W (sane6_open (hval 0 23 v0 rfl rfl)) ha0

theorem MeasureParts_holds : Rows.MeasurePartsSaid :=
  OpenClaim.holds_of_wide 7 Try.f7 rfl rfl rfl rfl rfl rfl rfl ⟨rfl, rfl, rfl, rfl, rfl⟩ rfl rfl rfl rfl rfl (by kernel_rfl) Try.func7 (by kernel_rfl)
    (of_decide_eq_true (by kernel_rfl)) (by unfold Func.isWrapper; rw [if_neg (of_decide_eq_false (by kernel_rfl))]; exact ⟨rfl, rfl⟩)
    (fun os started H enc _ => measureParts_lifted os started H enc)
end Go.Proofs.Ytnihmmhmndgagaa
