/- For all entries, JoinNext returns true. Condition: none beyond what the given statement says. -/
import Derived.Test.YtnlbohaealkelaaJLaws
import Derived.Test.YtnlbohaealkelaaRow
import Derived.Test.YtnlbohaealkelaaNOpen
import Derived.Test.YtnlbohaealkelaaJCode
namespace Go.Proofs.Ytnlbohaealkelaa
open Go.ChangeShapes Go.WideShapes Go.RowKit

set_option maxRecDepth 100000 in
theorem joinNext_lifted (os : Os) (started : os.Started) (H : Type) (enc : TypeId × Value → H) :
    ReturnsInHanded {} Try.checked os 6 .any (Rows.joinNextSpec.pre6 enc Try.prog Try.f6 Rows.joinNextRow.domain false) (Rows.joinNextSpec.post enc Try.prog Try.f6 false true false false) := by
  refine lift_plain (tb := 4) os started H enc Try.func6 (by kernel_rfl) rfl (by kernel_rfl) (by kernel_rfl) Try.underlying4 ?_
    (ChangeSpec.witness6 (enc := enc) (C := Try.checked) false ⟨#[], #[.agg #[.int .u64 0, .int .u64 0, .slice none 0 0]], []⟩ 8 (by kernel_rfl) (by kernel_rfl) (by kernel_rfl) (by kernel_rfl)) ?_
  · intro ds hl
    rw [Try.params6] at hl
    match ds, hl with
    | [d], _ => simp [Rows.joinNextSpec]
  · intro W base args ds p hval hA _
    rw [Try.params6] at hA hval
    obtain ⟨v0, d0, rfl, rfl, h0⟩ := trodAll_one hA
    obtain ⟨r0, m0, s0, rfl, ha0⟩ := ent_open (hval 0 26 v0 rfl rfl) h0
    exact lawNext8_any joinC r0 m0 s0 W ha0

theorem JoinNext_holds : Rows.JoinNextSaid :=
  OpenClaim.holds_of_wide 6 Try.f6 rfl rfl rfl rfl rfl rfl rfl ⟨rfl, rfl, rfl, rfl, rfl⟩ rfl rfl rfl rfl rfl (by kernel_rfl) Try.func6 (by kernel_rfl)
    (of_decide_eq_true (by kernel_rfl)) (by unfold Func.isWrapper; rw [if_neg (of_decide_eq_false (by kernel_rfl))]; exact ⟨rfl, rfl⟩)
    (fun os started H enc _ => joinNext_lifted os started H enc)
end Go.Proofs.Ytnlbohaealkelaa
