/- For all entries and counters, JoinAdds returns true. Condition: none beyond what the given statement says. -/
import Derived.Test.YtnlbohaealkelaaJLaws
import Derived.Test.YtnlbohaealkelaaRow
import Derived.Test.YtnlbohaealkelaaNOpen
import Derived.Test.YtnlbohaealkelaaJCode
namespace Go.Proofs.Ytnlbohaealkelaa
open Go.ChangeShapes Go.WideShapes Go.RowKit

set_option maxRecDepth 100000 in
theorem joinAdds_lifted (os : Os) (started : os.Started) (H : Type) (enc : TypeId × Value → H) :
    ReturnsInHanded {} Try.checked os 5 .any (Rows.joinAddsSpec.pre6 enc Try.prog Try.f5 Rows.joinAddsRow.domain false) (Rows.joinAddsSpec.post enc Try.prog Try.f5 false true false false) := by
  refine lift_plain (tb := 4) os started H enc Try.func5 (by kernel_rfl) rfl (by kernel_rfl) (by kernel_rfl) Try.underlying4 ?_
    (ChangeSpec.witness6 (enc := enc) (C := Try.checked) false ⟨#[], #[.agg #[.int .u64 0, .int .u64 0, .slice none 0 0], .int .u64 0], []⟩ 8 (by kernel_rfl) (by kernel_rfl) (by kernel_rfl) (by kernel_rfl)) ?_
  · intro ds hl
    rw [Try.params5] at hl
    match ds, hl with
    | [d1, d2], _ => simp [Rows.joinAddsSpec]
  · intro W base args ds p hval hA _
    rw [Try.params5] at hA hval
    obtain ⟨v0, v1, d0, d1, p0, p1, rfl, rfl, rfl, h0, h1⟩ := trodAll_two hA
    obtain ⟨r0, m0, s0, rfl, ha0⟩ := ent_open (hval 0 26 v0 rfl rfl) h0
    obtain ⟨x1, rfl, rfl, rfl, w1⟩ := open_int Try.underlying22 (hval 1 22 v1 rfl rfl) h1
    have b1 := bounds_u64 w1
    exact lawAdds8_any joinC r0 m0 s0 x1 b1 W ha0

theorem JoinAdds_holds : Rows.JoinAddsSaid :=
  OpenClaim.holds_of_wide 5 Try.f5 rfl rfl rfl rfl rfl rfl rfl ⟨rfl, rfl, rfl, rfl, rfl⟩ rfl rfl rfl rfl rfl (by kernel_rfl) Try.func5 (by kernel_rfl)
    (of_decide_eq_true (by kernel_rfl)) (by unfold Func.isWrapper; rw [if_neg (of_decide_eq_false (by kernel_rfl))]; exact ⟨rfl, rfl⟩)
    (fun os started H enc _ => joinAdds_lifted os started H enc)
end Go.Proofs.Ytnlbohaealkelaa
