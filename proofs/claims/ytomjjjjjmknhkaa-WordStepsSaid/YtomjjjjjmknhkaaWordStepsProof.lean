/- For every input WordSteps returns true, and the input reads as it did. Condition: none beyond what the given statement says. -/
import Derived.Test.YtomjjjjjmknhkaaWLaws
import Derived.Test.YtomjjjjjmknhkaaRow
namespace Go.Proofs.Ytomjjjjjmknhkaa
open Go.ChangeShapes Go.WideShapes Go.RowKit

set_option maxRecDepth 100000 in
theorem wordSteps_lifted (os : Os) (started : os.Started) (H : Type) (enc : TypeId × Value → H) :
    ReturnsInHanded {} Try.checked os 3 .any (Rows.wordStepsSpec.pre6 enc Try.prog Try.f3 Rows.wordStepsRow.domain false) (Rows.wordStepsSpec.post enc Try.prog Try.f3 false true false false) := by
  refine lift_plain (tb := 4) os started H enc Try.func3 (by kernel_rfl) rfl (by kernel_rfl) (by kernel_rfl) Try.underlying4 ?_
    (ChangeSpec.witness6 (enc := enc) (C := Try.checked) false ⟨#[], #[.int .u64 0], []⟩ 8 (by kernel_rfl) (by kernel_rfl) (by kernel_rfl) (by kernel_rfl)) ?_
  · intro ds hl
    rw [Try.params3] at hl
    match ds, hl with
    | [d], _ => simp [Rows.wordStepsSpec]
  · intro W base args ds p hval hA _
    rw [Try.params3] at hA hval
    obtain ⟨v0, d0, rfl, rfl, h0⟩ := trodAll_one hA
    obtain ⟨x0, rfl, rfl, rfl, w0⟩ := open_int Try.underlying22 (hval 0 22 v0 rfl rfl) h0
    have b0 := bounds_u64 w0
    exact steps_any x0 W b0

theorem WordSteps_holds : Rows.WordStepsSaid :=
  OpenClaim.holds_of_wide 3 Try.f3 rfl rfl rfl rfl rfl rfl rfl ⟨rfl, rfl, rfl, rfl, rfl⟩ rfl rfl rfl rfl rfl (by kernel_rfl) Try.func3 (by kernel_rfl)
    (of_decide_eq_true (by kernel_rfl)) (by unfold Func.isWrapper; rw [if_neg (of_decide_eq_false (by kernel_rfl))]; exact ⟨rfl, rfl⟩)
    (fun os started H enc _ => wordSteps_lifted os started H enc)
end Go.Proofs.Ytomjjjjjmknhkaa
