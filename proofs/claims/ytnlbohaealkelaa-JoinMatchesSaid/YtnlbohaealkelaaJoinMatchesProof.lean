/- For all pairs of entries, JoinMatches returns true. Condition: none beyond what the given statement says. -/
import Derived.Test.YtnlbohaealkelaaJLaws
import Derived.Test.YtnlbohaealkelaaRow
import Derived.Test.YtnlbohaealkelaaNOpen
import Derived.Test.YtnlbohaealkelaaJCode
namespace Go.Proofs.Ytnlbohaealkelaa
open Go.ChangeShapes Go.WideShapes Go.RowKit

set_option maxRecDepth 100000 in
theorem joinMatches_lifted (os : Os) (started : os.Started) (H : Type) (enc : TypeId × Value → H) :
    ReturnsInHanded {} Try.checked os 3 .any (Rows.joinMatchesSpec.pre6 enc Try.prog Try.f3 Rows.joinMatchesRow.domain false) (Rows.joinMatchesSpec.post enc Try.prog Try.f3 false true false false) := by
  refine lift_plain (tb := 4) os started H enc Try.func3 (by kernel_rfl) rfl (by kernel_rfl) (by kernel_rfl) Try.underlying4 ?_
    (ChangeSpec.witness6 (enc := enc) (C := Try.checked) false ⟨#[], #[.agg #[.int .u64 0, .int .u64 0, .slice none 0 0], .agg #[.int .u64 0, .int .u64 0, .slice none 0 0]], []⟩ 8 (by kernel_rfl) (by kernel_rfl) (by kernel_rfl) (by kernel_rfl)) ?_
  · intro ds hl
    rw [Try.params3] at hl
    match ds, hl with
    | [d1, d2], _ => simp [Rows.joinMatchesSpec]
  · intro W base args ds p hval hA _
    rw [Try.params3] at hA hval
    obtain ⟨v0, v1, d0, d1, p0, p1, rfl, rfl, rfl, h0, h1⟩ := trodAll_two hA
    obtain ⟨r0, m0, s0, rfl, ha0⟩ := ent_open (hval 0 26 v0 rfl rfl) h0
    obtain ⟨r1, m1, s1, rfl, ha1⟩ := ent_open (hval 1 26 v1 rfl rfl) h1
    exact lawMatches8_any joinC r0 m0 r1 m1 s0 s1 W ha0 ha1

theorem JoinMatches_holds : Rows.JoinMatchesSaid :=
  OpenClaim.holds_of_wide 3 Try.f3 rfl rfl rfl rfl rfl rfl rfl ⟨rfl, rfl, rfl, rfl, rfl⟩ rfl rfl rfl rfl rfl (by kernel_rfl) Try.func3 (by kernel_rfl)
    (of_decide_eq_true (by kernel_rfl)) (by unfold Func.isWrapper; rw [if_neg (of_decide_eq_false (by kernel_rfl))]; exact ⟨rfl, rfl⟩)
    (fun os started H enc _ => joinMatches_lifted os started H enc)
end Go.Proofs.Ytnlbohaealkelaa
