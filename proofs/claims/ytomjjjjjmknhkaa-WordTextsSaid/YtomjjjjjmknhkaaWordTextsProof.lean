/- For every input WordTexts returns true, and the input reads as it did. Condition: none beyond what the given statement says. -/
import Derived.Test.YtomjjjjjmknhkaaWTexts
import Derived.Test.YtomjjjjjmknhkaaRow
namespace Go.Proofs.Ytomjjjjjmknhkaa
open Go.ChangeShapes Go.WideShapes Go.RowKit

set_option maxRecDepth 100000 in
theorem wordTexts_lifted (os : Os) (started : os.Started) (H : Type) (enc : TypeId × Value → H) :
    ReturnsInHanded {} Try.checked os 8 .any (Rows.wordTextsSpec.pre6 enc Try.prog Try.f8 Rows.wordTextsRow.domain false) (Rows.wordTextsSpec.post enc Try.prog Try.f8 false true false false) := by
  refine lift_plain (tb := 4) os started H enc Try.func8 (by kernel_rfl) rfl (by kernel_rfl) (by kernel_rfl) Try.underlying4 ?_
    (ChangeSpec.witness6 (enc := enc) (C := Try.checked) false ⟨#[], #[.agg #[.int .u64 0, .int .u64 0]], []⟩ 8 (by kernel_rfl) (by kernel_rfl) (by kernel_rfl) (by kernel_rfl)) ?_
  · intro ds hl
    rw [Try.params8] at hl
    match ds, hl with
    | [d], _ => simp [Rows.wordTextsSpec]
  · intro W base args ds p hval hA _
    rw [Try.params8] at hA hval
    obtain ⟨v0, d0, rfl, rfl, h0⟩ := trodAll_one hA
    obtain ⟨a, b, rfl, ha, hb⟩ := count_open (hval 0 34 v0 rfl rfl) h0
    exact texts_any a b W ha hb

theorem WordTexts_holds : Rows.WordTextsSaid :=
  OpenClaim.holds_of_wide 8 Try.f8 rfl rfl rfl rfl rfl rfl rfl ⟨rfl, rfl, rfl, rfl, rfl⟩ rfl rfl rfl rfl rfl (by kernel_rfl) Try.func8 (by kernel_rfl)
    (of_decide_eq_true (by kernel_rfl)) (by unfold Func.isWrapper; rw [if_neg (of_decide_eq_false (by kernel_rfl))]; exact ⟨rfl, rfl⟩)
    (fun os started H enc _ => wordTexts_lifted os started H enc)
end Go.Proofs.Ytomjjjjjmknhkaa
