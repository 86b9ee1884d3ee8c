/- For all pairs of vectors, LatticeCounts returns true. Condition: none beyond what the given statement says. -/
import Derived.Test.YtefiobfljhmkkaaLLaws
import Derived.Test.YtefiobfljhmkkaaRow
import Derived.Test.YtefiobfljhmkkaaPAlive
import Derived.Test.YtefiobfljhmkkaaLDo
import Derived.Test.YtefiobfljhmkkaaLCodeB
namespace Go.Proofs.Ytefiobfljhmkkaa
open Go.ChangeShapes Go.WideShapes Go.RowKit

set_option maxRecDepth 100000 in
theorem latticeCounts_lifted (os : Os) (started : os.Started) (H : Type) (enc : TypeId × Value → H) :
    ReturnsInHanded {} Try.checked os 5 .any (Rows.latticeCountsSpec.pre6 enc Try.prog Try.f5 Rows.latticeCountsRow.domain false) (Rows.latticeCountsSpec.post enc Try.prog Try.f5 false true false false) := by
  refine lift_plain (tb := 4) os started H enc Try.func5 (by kernel_rfl) rfl (by kernel_rfl) (by kernel_rfl) Try.underlying4 ?_
    (ChangeSpec.witness6 (enc := enc) (C := Try.checked) false ⟨#[], #[.slice none 0 0, .slice none 0 0], []⟩ 8 (by kernel_rfl) (by kernel_rfl) (by kernel_rfl) (by kernel_rfl)) ?_
  · intro ds hl
    rw [Try.params5] at hl
    match ds, hl with
    | [d1, d2], _ => simp [Rows.latticeCountsSpec]
  · intro W base args ds p hval hA _
    rw [Try.params5] at hA hval
    obtain ⟨v0, v1, d0, d1, p0, p1, rfl, rfl, rfl, h0, h1⟩ := trodAll_two hA
    obtain ha0 := vec_arg (hval 0 23 v0 rfl rfl) h0
    obtain ha1 := vec_arg (hval 1 23 v1 rfl rfl) h1
    exact lawCounts10_any latC v0 v1 W ha0 ha1

theorem LatticeCounts_holds : Rows.LatticeCountsSaid :=
  OpenClaim.holds_of_wide 5 Try.f5 rfl rfl rfl rfl rfl rfl rfl ⟨rfl, rfl, rfl, rfl, rfl⟩ rfl rfl rfl rfl rfl (by kernel_rfl) Try.func5 (by kernel_rfl)
    (of_decide_eq_true (by kernel_rfl)) (by unfold Func.isWrapper; rw [if_neg (of_decide_eq_false (by kernel_rfl))]; exact ⟨rfl, rfl⟩)
    (fun os started H enc _ => latticeCounts_lifted os started H enc)
end Go.Proofs.Ytefiobfljhmkkaa
