/- For all vectors, three at a time, LatticeAlgebra returns true. Condition: none beyond what the given statement says. -/
import Derived.Test.YtefiobfljhmkkaaLLaws
import Derived.Test.YtefiobfljhmkkaaRow
import Derived.Test.YtefiobfljhmkkaaPAlive
import Derived.Test.YtefiobfljhmkkaaLDo
import Derived.Test.YtefiobfljhmkkaaLCodeB
namespace Go.Proofs.Ytefiobfljhmkkaa
open Go.ChangeShapes Go.WideShapes Go.RowKit

set_option maxRecDepth 100000 in
theorem latticeAlgebra_lifted (os : Os) (started : os.Started) (H : Type) (enc : TypeId × Value → H) :
    ReturnsInHanded {} Try.checked os 6 .any (Rows.latticeAlgebraSpec.pre6 enc Try.prog Try.f6 Rows.latticeAlgebraRow.domain false) (Rows.latticeAlgebraSpec.post enc Try.prog Try.f6 false true false false) := by
  refine lift_plain (tb := 4) os started H enc Try.func6 (by kernel_rfl) rfl (by kernel_rfl) (by kernel_rfl) Try.underlying4 ?_
    (ChangeSpec.witness6 (enc := enc) (C := Try.checked) false ⟨#[], #[.slice none 0 0, .slice none 0 0, .slice none 0 0], []⟩ 8 (by kernel_rfl) (by kernel_rfl) (by kernel_rfl) (by kernel_rfl)) ?_
  · intro ds hl
    rw [Try.params6] at hl
    match ds, hl with
    | [d1, d2, d3], _ => simp [Rows.latticeAlgebraSpec]
  · intro W base args ds p hval hA _
    rw [Try.params6] at hA hval
    obtain ⟨v0, v1, v2, d0, d1, d2, p0, p1, p2, rfl, rfl, rfl, h0, h1, h2⟩ := trodAll_three hA
    obtain ha0 := vec_arg (hval 0 23 v0 rfl rfl) h0
    obtain ha1 := vec_arg (hval 1 23 v1 rfl rfl) h1
    obtain ha2 := vec_arg (hval 2 23 v2 rfl rfl) h2
    exact lawAlgebra10_any latC (fun V v w hv hg => vCanon_any V v w hv hg) v0 v1 v2 W ha0 ha1 ha2

theorem LatticeAlgebra_holds : Rows.LatticeAlgebraSaid :=
  OpenClaim.holds_of_wide 6 Try.f6 rfl rfl rfl rfl rfl rfl rfl ⟨rfl, rfl, rfl, rfl, rfl⟩ rfl rfl rfl rfl rfl (by kernel_rfl) Try.func6 (by kernel_rfl)
    (of_decide_eq_true (by kernel_rfl)) (by unfold Func.isWrapper; rw [if_neg (of_decide_eq_false (by kernel_rfl))]; exact ⟨rfl, rfl⟩)
    (fun os started H enc _ => latticeAlgebra_lifted os started H enc)
end Go.Proofs.Ytefiobfljhmkkaa
