/- For all pairs of vectors, LatticeSubset returns true. Condition: none beyond what the given statement says. -/
import Derived.Test.YtefiobfljhmkkaaLLaws
import Derived.Test.YtefiobfljhmkkaaRow
import Derived.Test.YtefiobfljhmkkaaPAlive
import Derived.Test.YtefiobfljhmkkaaLDo
import Derived.Test.YtefiobfljhmkkaaLCodeB
namespace Go.Proofs.Ytefiobfljhmkkaa
open Go.ChangeShapes Go.WideShapes Go.RowKit

set_option maxRecDepth 100000 in
theorem latticeSubset_lifted (os : Os) (started : os.Started) (H : Type) (enc : TypeId × Value → H) :
    ReturnsInHanded {} Try.checked os 4 .any (Rows.latticeSubsetSpec.pre6 enc Try.prog Try.f4 Rows.latticeSubsetRow.domain false) (Rows.latticeSubsetSpec.post enc Try.prog Try.f4 false true false false) := by
  refine lift_plain (tb := 4) os started H enc Try.func4 (by kernel_rfl) rfl (by kernel_rfl) (by kernel_rfl) Try.underlying4 ?_
    (ChangeSpec.witness6 (enc := enc) (C := Try.checked) false ⟨#[], #[.slice none 0 0, .slice none 0 0], []⟩ 8 (by kernel_rfl) (by kernel_rfl) (by kernel_rfl) (by kernel_rfl)) ?_
  · intro ds hl
    rw [Try.params4] at hl
    match ds, hl with
    | [d1, d2], _ => simp [Rows.latticeSubsetSpec]
  · intro W base args ds p hval hA _
    rw [Try.params4] at hA hval
    obtain ⟨v0, v1, d0, d1, p0, p1, rfl, rfl, rfl, h0, h1⟩ := trodAll_two hA
    obtain ha0 := vec_arg (hval 0 23 v0 rfl rfl) h0
    obtain ha1 := vec_arg (hval 1 23 v1 rfl rfl) h1
    exact lawSubset10_any latC refDo10_any v0 v1 W ha0 ha1

theorem LatticeSubset_holds : Rows.LatticeSubsetSaid :=
  OpenClaim.holds_of_wide 4 Try.f4 rfl rfl rfl rfl rfl rfl rfl ⟨rfl, rfl, rfl, rfl, rfl⟩ rfl rfl rfl rfl rfl (by kernel_rfl) Try.func4 (by kernel_rfl)
    (of_decide_eq_true (by kernel_rfl)) (by unfold Func.isWrapper; rw [if_neg (of_decide_eq_false (by kernel_rfl))]; exact ⟨rfl, rfl⟩)
    (fun os started H enc _ => latticeSubset_lifted os started H enc)
end Go.Proofs.Ytefiobfljhmkkaa
