/- For all vectors and versions, LatticeAdds returns true. Condition: none beyond what the given statement says. -/
import Derived.Test.YtefiobfljhmkkaaGreatLLaws
import Derived.Test.YtefiobfljhmkkaaGreatRow
import Derived.Test.YtefiobfljhmkkaaGreatPAlive
import Derived.Test.YtefiobfljhmkkaaGreatLDo
import Derived.Test.YtefiobfljhmkkaaGreatLCodeB
namespace Go.Proofs.YtefiobfljhmkkaaGreat
open Go.ChangeShapes Go.WideShapes Go.RowKit

set_option maxRecDepth 100000 in
theorem latticeAdds_lifted (os : Os) (started : os.Started) (H : Type) (enc : TypeId × Value → H) :
    ReturnsInHanded {} Tryz.checked os 3 .any (Rows.latticeAddsSpec.pre6 enc Tryz.prog Tryz.f3 Rows.latticeAddsRow.domain false) (Rows.latticeAddsSpec.post enc Tryz.prog Tryz.f3 false true false false) := by
  refine lift_plain (tb := 4) os started H enc Tryz.func3 (by kernel_rfl) rfl (by kernel_rfl) (by kernel_rfl) Tryz.underlying4 ?_
    (ChangeSpec.witness6 (enc := enc) (C := Tryz.checked) false ⟨#[], #[.slice none 0 0, .int .u64 0, .int .u64 0], []⟩ 8 (by kernel_rfl) (by kernel_rfl) (by kernel_rfl) (by kernel_rfl)) ?_
  · intro ds hl
    rw [Tryz.params3] at hl
    match ds, hl with
    | [d1, d2, d3], _ => simp [Rows.latticeAddsSpec]
  · intro W base args ds p hval hA _
    rw [Tryz.params3] at hA hval
    obtain ⟨v0, v1, v2, d0, d1, d2, p0, p1, p2, rfl, rfl, rfl, h0, h1, h2⟩ := trodAll_three hA
    obtain ha0 := vec_arg (hval 0 23 v0 rfl rfl) h0
    obtain ⟨x1, rfl, rfl, rfl, w1⟩ := open_int Tryz.underlying24 (hval 1 24 v1 rfl rfl) h1
    have b1 := bounds_u64 w1
    obtain ⟨x2, rfl, rfl, rfl, w2⟩ := open_int Tryz.underlying24 (hval 2 24 v2 rfl rfl) h2
    have b2 := bounds_u64 w2
    exact lawAdds10_any latC refDo10_any (fun V v r c w hv hg h0 h1 h2 h3 => vHas_any V v r c w hv.m hg h2 h3) v0 x1 x2 W ha0 b1 b2

theorem LatticeAdds_holds : Rows.LatticeAddsSaid :=
  OpenClaim.holds_of_wide 3 Tryz.f3 rfl rfl rfl rfl rfl rfl rfl ⟨rfl, rfl, rfl, rfl, rfl⟩ rfl rfl rfl rfl rfl (by kernel_rfl) Tryz.func3 (by kernel_rfl)
    (of_decide_eq_true (by kernel_rfl)) (by unfold Func.isWrapper; rw [if_neg (of_decide_eq_false (by kernel_rfl))]; exact ⟨rfl, rfl⟩)
    (fun os started H enc _ => latticeAdds_lifted os started H enc)
end Go.Proofs.YtefiobfljhmkkaaGreat
