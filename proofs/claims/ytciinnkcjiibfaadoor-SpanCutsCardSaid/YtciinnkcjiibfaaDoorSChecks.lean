/- SpanChecks and SpanRelates return true for all intervals of numbers of 64 bits. Condition: the variable errors.errorType holds the type error. -/
import Derived.Test.YtciinnkcjiibfaaDoorSAlive
import Derived.Deep.RegionHeld3
namespace Go.Proofs.YtciinnkcjiibfaaDoor
open Go.RowKit

theorem has_lo {a b : Int} (h : a ≤ b) : hasB a b a = true := by unfold hasB; simp; exact h
theorem has_hi {a b : Int} (h : a ≤ b) : hasB a b b = true := by unfold hasB; simp; exact h

set_option maxRecDepth 100000 in
theorem checks_bad (a b x : Int) (w : World) (hg : ErrT w) (h : ¬ a ≤ b) :
    Calls Tryd.prog 3 #[.agg #[.int .u64 a, .int .u64 b], .int .u64 x] w (IsEnd true w) := by
  have k1 := fun w => check_any a b w
  rw [show errV (chkE a b) = .iface 30 (.int .i64 2) from by unfold chkE; rw [if_neg h]; rfl] at k1
  have K1 := Lib.hid k1; clear k1
  have k2 := fun w => right_any a b w
  rw [show decide (a ≤ b) = false from by simpa using h] at k2
  have K2 := Lib.hid k2; clear k2
  have k3 : ∀ w, ErrT w → Calls Tryd.prog 12 #[.iface 30 (.int .i64 2)] w (IntEnd 2 w) := fun w hg => Code_any (some (2, none)) w hg
  have K3 := Lib.hid k3; clear k3
  have k4 : ∀ w, ErrT w → Calls Tryd.prog 13 #[.iface 30 (.int .i64 2)] w (IntEnd (-1) w) := fun w hg => At_any (some (2, none)) w hg
  have K4 := Lib.hid k4; clear k4
  have K5 := Lib.hid alive_any
  have Hg := Lib.hid hg; clear hg h
  go_enter Tryd.func3, Tryd.ntmps3
  go_wp2_with fail
  refine (K1.out _).mono ?_
  rintro e w1 ⟨rfl, h1⟩
  have S1 := Lib.hid (((Kp.start w).new2 _ _ _ _ rfl).call h1); clear h1
  obtain ⟨_, a0, a1, _⟩ := S1.out
  go_wp2_with fail
  refine (K2.out _).mono ?_
  rintro e w2 ⟨rfl, h2⟩
  have S2 := Lib.hid (S1.out.call h2); clear h2 S1 a0 a1
  go_wp2_with fail
  refine (K5.out _ (Hg.out.here S2.out.1)).mono ?_
  rintro e w3 ⟨rfl, h3⟩
  have S3 := Lib.hid (S2.out.call h3); clear h3 S2
  go_wp2_with fail
  refine (K3.out _ (Hg.out.here S3.out.1)).mono ?_
  rintro e w4 ⟨rfl, h4⟩
  have S4 := Lib.hid (S3.out.call h4); clear h4 S3
  go_wp2_with fail
  refine (K4.out _ (Hg.out.here S4.out.1)).mono ?_
  rintro e w5 ⟨rfl, h5⟩
  have S5 := Lib.hid (S4.out.call h5); clear h5 S4
  go_wp2_with fail
  go_ret
  exact ⟨rfl, S5.out.1⟩

theorem keep_two {W w1 w2 : World} {k : Nat} {a b : Value} (h : Below W.heap.size W w1 ∧ w1.cell? ⟨k, 0, none⟩ = some a ∧ w1.cell? ⟨k, 1, none⟩ = some b) (hb : Hid (Below w1.heap.size w1 w2)) :
    Below W.heap.size W w2 ∧ w2.cell? ⟨k, 0, none⟩ = some a ∧ w2.cell? ⟨k, 1, none⟩ = some b := ⟨below_call h.1 hb.out, keep_cell h.2.1 hb.out, keep_cell h.2.2 hb.out⟩
theorem keep_two_drew {W w1 : World} {k : Nat} {a b : Value} (h : Below W.heap.size W w1 ∧ w1.cell? ⟨k, 0, none⟩ = some a ∧ w1.cell? ⟨k, 1, none⟩ = some b) :
    Below W.heap.size W w1.drew ∧ w1.drew.cell? ⟨k, 0, none⟩ = some a ∧ w1.drew.cell? ⟨k, 1, none⟩ = some b := keep_two h (Below.refl _ _).drew

set_option maxRecDepth 100000 in
set_option maxHeartbeats 1000000 in
theorem checks_ok (a b x : Int) (w : World) (hg : ErrT w) (h : a ≤ b) :
    Calls Tryd.prog 3 #[.agg #[.int .u64 a, .int .u64 b], .int .u64 x] w (IsEnd true w) := by
  have k1 := fun w => check_any a b w
  rw [show errV (chkE a b) = .nilIface from by unfold chkE; rw [if_pos h]; rfl] at k1
  have K1 := Lib.hid k1; clear k1
  have k2 := fun w => right_any a b w
  rw [show decide (a ≤ b) = true from by simpa using h] at k2
  have K2 := Lib.hid k2; clear k2
  have K3 := Lib.hid has_any
  have K4 := Lib.hid refHas_any
  have K5 := Lib.hid alive_any
  have e1 := has_lo h
  have e2 := has_hi h
  have Hg := Lib.hid hg; clear hg h
  go_enter Tryd.func3, Tryd.ntmps3
  go_wp2_with fail
  refine (K1.out _).mono ?_
  rintro e w1 ⟨rfl, h1⟩
  have S1 := Lib.hid (((Kp.start w).new2 _ _ _ _ rfl).call h1); clear h1
  obtain ⟨_, a0, a1, _⟩ := S1.out
  go_wp2_with fail
  refine (K2.out _).mono ?_
  rintro e w2 ⟨rfl, h2⟩
  have S2 := Lib.hid (S1.out.call h2); clear h2 S1 a0 a1
  have hs : Below w.heap.size w w2 ∧ w2.cell? ⟨w.heap.size, 0, none⟩ = some (.int .u64 a) ∧ w2.cell? ⟨w.heap.size, 1, none⟩ = some (.int .u64 b) := ⟨S2.out.1, S2.out.2.1, S2.out.2.2.1⟩
  go_wp2_with fail
  go_region_held3 (fun w' => Below w.heap.size w w' ∧ w'.cell? ⟨w.heap.size, 0, none⟩ = some (.int .u64 a) ∧ w'.cell? ⟨w.heap.size, 1, none⟩ = some (.int .u64 b))
    (first
      | exact keep_two (by assumption) (by assumption)
      | exact keep_two_drew (by assumption)
      | exact hs
      | assumption)
    (first
      | (go_at_call 11; refine (K5.out _ (Hg.out.here (by first | exact (‹Below w.heap.size w _ ∧ _›).1))).mono ?_; rintro en w' ⟨rfl, hb4'⟩; have hb4 := Lib.hid hb4'; clear hb4')
      | (go_at_call 14; refine (K3.out _ _ _ _).mono ?_; rintro en w' ⟨rfl, hb4'⟩; have hb4 := Lib.hid hb4'; clear hb4')
      | (go_at_call 15; refine (K4.out _ _ _ _).mono ?_; rintro en w' ⟨rfl, hb4'⟩; have hb4 := Lib.hid hb4'; clear hb4'))
  all_goals
    rename_i hE
    go_wp2_with fail
    go_ret
    exact ⟨rfl, hE.1⟩
end Go.Proofs.YtciinnkcjiibfaaDoor
