/- SpanRelates returns true for all intervals of numbers of 64 bits. Condition: the variable errors.errorType holds the type error. -/
import Derived.Test.YtciinnkcjiibfaaDoorSChecks
namespace Go.Proofs.YtciinnkcjiibfaaDoor
open Go.RowKit

theorem rel_swap {a b c d : Int} (h1 : a ≤ b) (h2 : c ≤ d) : relN c d a b = 4 - relN a b c d := by
  unfold relN
  repeat (first | omega | split)
theorem rel_range (a b c d : Int) : 0 ≤ relN a b c d ∧ relN a b c d ≤ 4 := by
  unfold relN
  repeat (first | omega | split)
theorem rel_self {a b : Int} (h1 : a ≤ b) : relN a b a b = 2 := rel2 (by omega) (by omega)

set_option maxRecDepth 100000 in
theorem relates_wrong1 (a b c d : Int) (w : World) (hg : ErrT w) (h : ¬ a ≤ b) :
    Calls Tryd.prog 4 #[.agg #[.int .u64 a, .int .u64 b], .agg #[.int .u64 c, .int .u64 d]] w (IsEnd true w) := by
  have k1 := fun w => right_any a b w
  rw [show decide (a ≤ b) = false from by simpa using h] at k1
  have K1 := Lib.hid k1; clear k1
  have K5 := Lib.hid alive_any
  have Hg := Lib.hid hg; clear hg h
  go_enter Tryd.func4, Tryd.ntmps4
  go_wp2_with fail
  refine (K1.out _).mono ?_
  rintro e w1 ⟨rfl, h1⟩
  have S1 := Lib.hid ((Kp.two w _ _ _ _ _ _).call h1); clear h1
  go_wp2_with fail
  refine (K5.out _ (Hg.out.here S1.out.1)).mono ?_
  rintro e w3 ⟨rfl, h3⟩
  have S3 := Lib.hid (S1.out.call h3); clear h3 S1
  go_wp2_with fail
  go_ret
  exact ⟨rfl, S3.out.1⟩

set_option maxRecDepth 100000 in
theorem relates_wrong2 (a b c d : Int) (w : World) (hg : ErrT w) (h1 : a ≤ b) (h : ¬ c ≤ d) :
    Calls Tryd.prog 4 #[.agg #[.int .u64 a, .int .u64 b], .agg #[.int .u64 c, .int .u64 d]] w (IsEnd true w) := by
  have k1 := fun w => right_any a b w
  rw [show decide (a ≤ b) = true from by simpa using h1] at k1
  have K1 := Lib.hid k1; clear k1
  have k2 := fun w => right_any c d w
  rw [show decide (c ≤ d) = false from by simpa using h] at k2
  have K2 := Lib.hid k2; clear k2
  have K5 := Lib.hid alive_any
  have Hg := Lib.hid hg; clear hg h h1
  go_enter Tryd.func4, Tryd.ntmps4
  go_wp2_with fail
  refine (K1.out _).mono ?_
  rintro e w1 ⟨rfl, h1⟩
  have S1 := Lib.hid ((Kp.two w _ _ _ _ _ _).call h1); clear h1
  obtain ⟨_, c0, c1, a0, a1, _⟩ := S1.out
  go_wp2_with fail
  refine (K2.out _).mono ?_
  rintro e w2 ⟨rfl, h2⟩
  have S2 := Lib.hid (S1.out.call h2); clear h2 S1 c0 c1 a0 a1
  go_wp2_with fail
  refine (K5.out _ (Hg.out.here S2.out.1)).mono ?_
  rintro e w3 ⟨rfl, h3⟩
  have S3 := Lib.hid (S2.out.call h3); clear h3 S2
  go_wp2_with fail
  go_ret
  exact ⟨rfl, S3.out.1⟩

set_option maxRecDepth 100000 in
set_option maxHeartbeats 1000000 in
theorem relates_right (a b c d : Int) (w : World) (hg : ErrT w) (ha : 0 ≤ a ∧ a ≤ 18446744073709551615) (hb : 0 ≤ b ∧ b ≤ 18446744073709551615) (hc : 0 ≤ c ∧ c ≤ 18446744073709551615) (hd : 0 ≤ d ∧ d ≤ 18446744073709551615) (h1 : a ≤ b) (h2 : c ≤ d) :
    Calls Tryd.prog 4 #[.agg #[.int .u64 a, .int .u64 b], .agg #[.int .u64 c, .int .u64 d]] w (IsEnd true w) := by
  have k1 := fun w => right_any a b w
  rw [show decide (a ≤ b) = true from by simpa using h1] at k1
  have K1 := Lib.hid k1; clear k1
  have k2 := fun w => right_any c d w
  rw [show decide (c ≤ d) = true from by simpa using h2] at k2
  have K2 := Lib.hid k2; clear k2
  have K5 := Lib.hid alive_any
  have k3 := fun w => relate_any a b c d w hb.1 hc.2 hd.1 ha.2
  have k4 := fun w => refRelate_any a b c d w hb.1 hc.2 hd.1 ha.2
  have k6 := fun w => relate_any c d a b w hd.1 ha.2 hb.1 hc.2
  have k7 := fun w => relate_any a b a b w hb.1 ha.2 hb.1 ha.2
  have hr := rel_range a b c d
  rw [rel_swap h1 h2] at k6
  rw [rel_self h1] at k7
  obtain ⟨r, hr'⟩ : ∃ r, relN a b c d = r := ⟨_, rfl⟩
  rw [hr'] at k3 k4 k6 hr
  have r0 := hr.1
  have r4 := hr.2
  have K3 := Lib.hid k3; clear k3
  have K4 := Lib.hid k4; clear k4
  have K6 := Lib.hid k6; clear k6
  have K7 := Lib.hid k7; clear k7
  have Hg := Lib.hid hg
  clear hg h1 h2 ha hb hc hd hr' hr
  go_enter Tryd.func4, Tryd.ntmps4
  go_wp2_with fail
  refine (K1.out _).mono ?_
  rintro e w1 ⟨rfl, h1⟩
  have S1 := Lib.hid ((Kp.two w _ _ _ _ _ _).call h1); clear h1
  obtain ⟨_, c0, c1, a0, a1, _⟩ := S1.out
  go_wp2_with fail
  refine (K2.out _).mono ?_
  rintro e w2 ⟨rfl, h2⟩
  have S2 := Lib.hid (S1.out.call h2); clear h2 S1 c0 c1 a0 a1
  obtain ⟨_, c0, c1, a0, a1, _⟩ := S2.out
  go_wp2_with fail
  refine (K3.out _).mono ?_
  rintro e w3 ⟨rfl, h3⟩
  have S3 := Lib.hid (S2.out.call h3); clear h3 S2 c0 c1 a0 a1
  go_wp2_with fail
  refine (K5.out _ (Hg.out.here S3.out.1)).mono ?_
  rintro e w4 ⟨rfl, h4⟩
  have S4 := Lib.hid (S3.out.call h4); clear h4 S3
  obtain ⟨_, c0, c1, a0, a1, _⟩ := S4.out
  go_wp2_with fail
  refine (K4.out _).mono ?_
  rintro e w5 ⟨rfl, h5⟩
  have S5 := Lib.hid (S4.out.call h5); clear h5 S4 c0 c1 a0 a1
  obtain ⟨_, c0, c1, a0, a1, _⟩ := S5.out
  go_wp2_with fail
  refine (K6.out _).mono ?_
  rintro e w6 ⟨rfl, h6⟩
  have S6 := Lib.hid (S5.out.call h6); clear h6 S5 c0 c1 a0 a1
  obtain ⟨_, c0, c1, a0, a1, _⟩ := S6.out
  go_wp2_with fail
  refine (K7.out _).mono ?_
  rintro e w7 ⟨rfl, h7⟩
  have S7 := Lib.hid (S6.out.call h7); clear h7 S6 c0 c1 a0 a1
  go_wp2_with fail
  go_ret
  exact ⟨rfl, S7.out.1⟩

theorem relates_any (a b c d : Int) (w : World) (hg : ErrT w) (ha : 0 ≤ a ∧ a ≤ 18446744073709551615) (hb : 0 ≤ b ∧ b ≤ 18446744073709551615) (hc : 0 ≤ c ∧ c ≤ 18446744073709551615) (hd : 0 ≤ d ∧ d ≤ 18446744073709551615) :
    Calls Tryd.prog 4 #[.agg #[.int .u64 a, .int .u64 b], .agg #[.int .u64 c, .int .u64 d]] w (IsEnd true w) := by
  by_cases h1 : a ≤ b
  · by_cases h2 : c ≤ d
    · exact relates_right a b c d w hg ha hb hc hd h1 h2
    · exact relates_wrong2 a b c d w hg h1 h2
  · exact relates_wrong1 a b c d w hg h1
end Go.Proofs.YtciinnkcjiibfaaDoor
