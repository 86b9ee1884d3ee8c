/- The laws' example holds in every state. Condition: the variable errors.errorType holds the type error. -/
import Derived.Test.YtciinnkcjiibfaaDoorSShift
import Derived.Test.YtciinnkcjiibfaaDoorEFirst
namespace Go.Proofs.YtciinnkcjiibfaaDoor
open Go.RowKit

set_option maxRecDepth 100000 in
set_option maxHeartbeats 1000000 in
theorem alive_any (w : World) (hg : ErrT w) : Calls Tryd.prog 11 #[] w (IsEnd true w) := by
  have K1 := Lib.hid (fun w => join_yes 1 4 5 9 1 9 w (by simp) (by simp) (by omega) (by omega) (by omega) (by omega) (by decide) (by decide))
  have K2 := Lib.hid (fun w => shift_ok 4 2 1 7 8 w (by omega) (by omega) (by omega) (by omega) (by omega) (by omega) (by omega))
  have k3 := fun w => relate_any 1 4 5 9 w (by omega) (by omega) (by omega) (by omega)
  rw [show relN 1 4 5 9 = 1 from by decide] at k3
  have K3 := Lib.hid k3; clear k3
  have k4 := fun w => has_any 1 4 4 w
  rw [show hasB 1 4 4 = true from by decide] at k4
  have K4 := Lib.hid k4; clear k4
  have k5 := fun w => check_any 1 0 w
  rw [show errV (chkE 1 0) = .iface 30 (.int .i64 2) from rfl] at k5
  have K5 := Lib.hid k5; clear k5
  have k6 : ∀ w, ErrT w → Calls Tryd.prog 12 #[.iface 30 (.int .i64 2)] w (IntEnd 2 w) := fun w hg => Code_any (some (2, none)) w hg
  have K6 := Lib.hid k6; clear k6
  have Hg := Lib.hid hg; clear hg
  go_enter Tryd.func11, Tryd.ntmps11
  go_wp2_with fail
  refine (K1.out _).mono ?_
  rintro e w1 ⟨rfl, h1⟩
  have S1 := Lib.hid ((Kp.two w _ _ _ _ _ _).call h1); clear h1
  go_wp2_with fail
  refine (K2.out _).mono ?_
  rintro e w2 ⟨rfl, h2⟩
  have S2 := Lib.hid ((S1.out.new2 _ _ _ _ rfl).call h2); clear h2 S1
  have S3 := Lib.hid (S2.out.new2 (.int .u64 7) (.int .u64 8) 24 _ rfl); clear S2
  obtain ⟨_, s0, s1, j0, j1, b0, b1, a0, a1, _⟩ := S3.out
  go_wp2_with fail
  refine (K3.out _).mono ?_
  rintro e w3 ⟨rfl, h3⟩
  have S4 := Lib.hid (S3.out.call h3); clear h3 S3 s0 s1 j0 j1 b0 b1 a0 a1
  obtain ⟨_, s0, s1, j0, j1, b0, b1, a0, a1, _⟩ := S4.out
  go_wp2_with fail
  refine (K4.out _).mono ?_
  rintro e w4 ⟨rfl, h4⟩
  have S5 := Lib.hid (S4.out.call h4); clear h4 S4 s0 s1 j0 j1 b0 b1 a0 a1
  go_wp2_with fail
  refine (K5.out _).mono ?_
  rintro e w5 ⟨rfl, h5⟩
  have S6 := Lib.hid (S5.out.call h5); clear h5 S5
  go_wp2_with fail
  refine (K6.out _ (Hg.out.here S6.out.1)).mono ?_
  rintro e w6 ⟨rfl, h6⟩
  have S7 := Lib.hid (S6.out.call h6); clear h6 S6
  go_wp2_with fail
  go_ret
  exact ⟨rfl, S7.out.1⟩
end Go.Proofs.YtciinnkcjiibfaaDoor
