/- For every input WordWidths returns true, and the input reads as it did. Condition: none beyond what the given statement says. -/
import Derived.Test.YtomjjjjjmknhkaaWLaws
import Derived.Test.YtomjjjjjmknhkaaRow
namespace Go.Proofs.Ytomjjjjjmknhkaa
open Go.ChangeShapes Go.WideShapes Go.RowKit

set_option maxRecDepth 100000 in
theorem wordWidths_lifted (os : Os) (started : os.Started) (H : Type) (enc : TypeId × Value → H) :
    ReturnsInHanded {} Try.checked os 6 .any (Rows.wordWidthsSpec.pre6 enc Try.prog Try.f6 Rows.wordWidthsRow.domain false) (Rows.wordWidthsSpec.post enc Try.prog Try.f6 false true false false) := by
  refine lift_plain (tb := 4) os started H enc Try.func6 (by kernel_rfl) rfl (by kernel_rfl) (by kernel_rfl) Try.underlying4 ?_
    (ChangeSpec.witness6 (enc := enc) (C := Try.checked) false ⟨#[], #[.int .u64 0, .int .u64 0], []⟩ 8 (by kernel_rfl) (by kernel_rfl) (by kernel_rfl) (by kernel_rfl)) ?_
  · intro ds hl
    rw [Try.params6] at hl
    match ds, hl with
    | [d1, d2], _ => simp [Rows.wordWidthsSpec]
  · intro W base args ds p hval hA _
    rw [Try.params6] at hA hval
    obtain ⟨v0, v1, d0, d1, p0, p1, rfl, rfl, rfl, h0, h1⟩ := trodAll_two hA
    obtain ⟨x0, rfl, rfl, rfl, w0⟩ := open_int Try.underlying22 (hval 0 22 v0 rfl rfl) h0
    have b0 := bounds_u64 w0
    obtain ⟨x1, rfl, rfl, rfl, w1⟩ := open_int Try.underlying22 (hval 1 22 v1 rfl rfl) h1
    have b1 := bounds_u64 w1
    exact widths_any x0 x1 W b0 b1

theorem WordWidths_holds : Rows.WordWidthsSaid :=
  OpenClaim.holds_of_wide 6 Try.f6 rfl rfl rfl rfl rfl rfl rfl ⟨rfl, rfl, rfl, rfl, rfl⟩ rfl rfl rfl rfl rfl (by kernel_rfl) Try.func6 (by kernel_rfl)
    (of_decide_eq_true (by kernel_rfl)) (by unfold Func.isWrapper; rw [if_neg (of_decide_eq_false (by kernel_rfl))]; exact ⟨rfl, rfl⟩)
    (fun os started H enc _ => wordWidths_lifted os started H enc)
end Go.Proofs.Ytomjjjjjmknhkaa
