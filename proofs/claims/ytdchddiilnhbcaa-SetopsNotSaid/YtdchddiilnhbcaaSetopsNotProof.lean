/- For every input SetopsNot returns true, and the input reads as it did. Condition: none beyond what the given statement says. -/
import Derived.Test.YtdchddiilnhbcaaOLaws
import Derived.Test.YtdchddiilnhbcaaRow
import Derived.Test.YtdchddiilnhbcaaOSetC
import Derived.Test.YtdchddiilnhbcaaOOpen
namespace Go.Proofs.Ytdchddiilnhbcaa
open Go.ChangeShapes Go.WideShapes Go.RowKit

set_option maxRecDepth 100000 in
theorem setopsNot_lifted (os : Os) (started : os.Started) (H : Type) (enc : TypeId × Value → H) :
    ReturnsInHanded {} Try.checked os 4 .any (Rows.setopsNotSpec.pre6 enc Try.prog Try.f4 Rows.setopsNotRow.domain false) (Rows.setopsNotSpec.post enc Try.prog Try.f4 false true false false) := by
  refine lift_plain (tb := 4) os started H enc Try.func4 (by kernel_rfl) rfl (by kernel_rfl) (by kernel_rfl) Try.underlying4 ?_
    (ChangeSpec.witness6 (enc := enc) (C := Try.checked) false ⟨#[], #[.slice none 0 0, .agg #[.int .u64 0, .int .u64 0]], []⟩ 8 (by kernel_rfl) (by kernel_rfl) (by kernel_rfl) (by kernel_rfl)) ?_
  · intro ds hl
    rw [Try.params4] at hl
    match ds, hl with
    | [d1, d2], _ => simp [Rows.setopsNotSpec]
  · intro W base args ds p hval hA _
    rw [Try.params4] at hA hval
    obtain ⟨v0, v1, d0, d1, p0, p1, rfl, rfl, rfl, h0, h1⟩ := trodAll_two hA
    have ha0 := arg_open (hval 0 23 v0 rfl rfl) h0
    obtain ⟨x, y, rfl, hx, hy⟩ := iv_open5 (hval 1 30 v1 rfl rfl) h1
    exact lawNot_any setC _ x y W ha0 hx hy

theorem SetopsNot_holds : Rows.SetopsNotSaid :=
  OpenClaim.holds_of_wide 4 Try.f4 rfl rfl rfl rfl rfl rfl rfl ⟨rfl, rfl, rfl, rfl, rfl⟩ rfl rfl rfl rfl rfl (by kernel_rfl) Try.func4 (by kernel_rfl)
    (of_decide_eq_true (by kernel_rfl)) (by unfold Func.isWrapper; rw [if_neg (of_decide_eq_false (by kernel_rfl))]; exact ⟨rfl, rfl⟩)
    (fun os started H enc _ => setopsNot_lifted os started H enc)
end Go.Proofs.Ytdchddiilnhbcaa
