/- For every input SetopsAlgebra returns true, and the input reads as it did. Condition: none beyond what the given statement says. -/
import Derived.Test.YtdchddiilnhbcaaOLaws
import Derived.Test.YtdchddiilnhbcaaRow
import Derived.Test.YtdchddiilnhbcaaOSetC
import Derived.Test.YtdchddiilnhbcaaOOpen
namespace Go.Proofs.Ytdchddiilnhbcaa
open Go.ChangeShapes Go.WideShapes Go.RowKit

set_option maxRecDepth 100000 in
theorem setopsAlgebra_lifted (os : Os) (started : os.Started) (H : Type) (enc : TypeId × Value → H) :
    ReturnsInHanded {} Try.checked os 6 .any (Rows.setopsAlgebraSpec.pre6 enc Try.prog Try.f6 Rows.setopsAlgebraRow.domain false) (Rows.setopsAlgebraSpec.post enc Try.prog Try.f6 false true false false) := by
  refine lift_plain (tb := 4) os started H enc Try.func6 (by kernel_rfl) rfl (by kernel_rfl) (by kernel_rfl) Try.underlying4 ?_
    (ChangeSpec.witness6 (enc := enc) (C := Try.checked) false ⟨#[], #[.slice none 0 0, .slice none 0 0, .slice none 0 0], []⟩ 8 (by kernel_rfl) (by kernel_rfl) (by kernel_rfl) (by kernel_rfl)) ?_
  · intro ds hl
    rw [Try.params6] at hl
    match ds, hl with
    | [d1, d2, d3], _ => simp [Rows.setopsAlgebraSpec]
  · intro W base args ds p hval hA _
    rw [Try.params6] at hA hval
    obtain ⟨v0, v1, v2, d0, d1, d2, p0, p1, p2, rfl, rfl, rfl, h0, h1, h2⟩ := trodAll_three hA
    have ha0 := arg_open (hval 0 23 v0 rfl rfl) h0
    have ha1 := arg_open (hval 1 23 v1 rfl rfl) h1
    have ha2 := arg_open (hval 2 23 v2 rfl rfl) h2
    exact lawAlgebra_any setC _ _ _ W ha0 ha1 ha2

theorem SetopsAlgebra_holds : Rows.SetopsAlgebraSaid :=
  OpenClaim.holds_of_wide 6 Try.f6 rfl rfl rfl rfl rfl rfl rfl ⟨rfl, rfl, rfl, rfl, rfl⟩ rfl rfl rfl rfl rfl (by kernel_rfl) Try.func6 (by kernel_rfl)
    (of_decide_eq_true (by kernel_rfl)) (by unfold Func.isWrapper; rw [if_neg (of_decide_eq_false (by kernel_rfl))]; exact ⟨rfl, rfl⟩)
    (fun os started H enc _ => setopsAlgebra_lifted os started H enc)
end Go.Proofs.Ytdchddiilnhbcaa
