/- SpanShifts returns true for all numbers of 64 bits. Condition: the variable errors.errorType holds the type error. -/
import Derived.Test.YtciinnkcjiibfaaDoorSAlive
import Derived.Test.YtciinnkcjiibfaaDoorMapBool
namespace Go.Proofs.YtciinnkcjiibfaaDoor
open Go.RowKit

set_option maxRecDepth 100000 in
set_option maxHeartbeats 1000000 in
theorem shifts_no (x g n : Int) (w : World) (hg : ErrT w)
    (k1 : ∀ w, Calls Tryd.prog 25 #[.int .u64 x, .int .u64 g, .int .u64 n] w (IsIvE 0 0 (.iface 30 (.int .i64 8)) w))
    (k2 : ∀ w, Calls Tryd.prog 26 #[.int .u64 x, .int .u64 g, .int .u64 n] w (IsIvE 0 0 (.bool false) w)) :
    Calls Tryd.prog 8 #[.int .u64 x, .int .u64 g, .int .u64 n] w (IsEnd true w) := by
  have K1 := Lib.hid k1; clear k1
  have K2 := Lib.hid k2; clear k2
  have k3 : ∀ w, ErrT w → Calls Tryd.prog 12 #[.iface 30 (.int .i64 8)] w (IntEnd 8 w) := fun w hg => Code_any (some (8, none)) w hg
  have K3 := Lib.hid k3; clear k3
  have k4 : ∀ w, ErrT w → Calls Tryd.prog 13 #[.iface 30 (.int .i64 8)] w (IntEnd (-1) w) := fun w hg => At_any (some (8, none)) w hg
  have K4 := Lib.hid k4; clear k4
  have K5 := Lib.hid alive_any
  have Hg := Lib.hid hg; clear hg
  go_enter Tryd.func8, Tryd.ntmps8
  go_wp2_with fail
  refine (K1.out _).mono ?_
  rintro e w1 ⟨rfl, h1⟩
  have S1 := Lib.hid (((Kp.start w).call h1).new2 (.int .u64 0) (.int .u64 0) 24 _ rfl); clear h1
  go_wp2_with fail
  refine (K2.out _).mono ?_
  rintro e w2 ⟨rfl, h2⟩
  have S2 := Lib.hid ((S1.out.call h2).new2 (.int .u64 0) (.int .u64 0) 24 _ rfl); clear h2 S1
  go_wp2_with fail
  refine (K5.out _ (Hg.out.here S2.out.1)).mono ?_
  rintro e w3 ⟨rfl, h3⟩
  have S3 := Lib.hid (S2.out.call h3); clear h3 S2
  obtain ⟨_, t0, t1, s0, s1, _⟩ := S3.out
  go_wp2_with fail
  refine (K3.out _ (Hg.out.here S3.out.1)).mono ?_
  rintro e w4 ⟨rfl, h4⟩
  have S4 := Lib.hid (S3.out.call h4); clear h4 S3 t0 t1 s0 s1
  go_wp2_with fail
  refine (K4.out _ (Hg.out.here S4.out.1)).mono ?_
  rintro e w5 ⟨rfl, h5⟩
  have S5 := Lib.hid (S4.out.call h5); clear h5 S4
  go_wp2_with fail
  go_ret
  exact ⟨rfl, S5.out.1⟩

set_option maxRecDepth 100000 in
set_option maxHeartbeats 1000000 in
theorem shifts_ok (x g n lo hi : Int) (w : World) (hg : ErrT w) (r : Int) (gb : Bool) (hgb : (g == 0) = gb) (hr : r = if gb then 1 else 0)
    (k1 : ∀ w, Calls Tryd.prog 25 #[.int .u64 x, .int .u64 g, .int .u64 n] w (IsIvE lo hi .nilIface w))
    (k2 : ∀ w, Calls Tryd.prog 26 #[.int .u64 x, .int .u64 g, .int .u64 n] w (IsIvE lo hi (.bool true) w))
    (k3 : ∀ w, Calls Tryd.prog 16 #[.agg #[.int .u64 x, .int .u64 x], .agg #[.int .u64 lo, .int .u64 hi]] w (IsInt r w)) :
    Calls Tryd.prog 8 #[.int .u64 x, .int .u64 g, .int .u64 n] w (IsEnd true w) := by
  have K1 := Lib.hid k1; clear k1
  have K2 := Lib.hid k2; clear k2
  have K3 := Lib.hid k3; clear k3
  have K5 := Lib.hid alive_any
  have Hg := Lib.hid hg; clear hg
  have HR := Lib.hid hr; clear hr
  go_enter Tryd.func8, Tryd.ntmps8
  go_wp2_with fail
  refine (K1.out _).mono ?_
  rintro e w1 ⟨rfl, h1⟩
  have S1 := Lib.hid (((Kp.start w).call h1).new2 (.int .u64 lo) (.int .u64 hi) 24 _ rfl); clear h1
  go_wp2_with fail
  refine (K2.out _).mono ?_
  rintro e w2 ⟨rfl, h2⟩
  have S2 := Lib.hid ((S1.out.call h2).new2 (.int .u64 lo) (.int .u64 hi) 24 _ rfl); clear h2 S1
  obtain ⟨_, t0, t1, s0, s1, _⟩ := S2.out
  go_wp2_with fail
  refine (K3.out _).mono ?_
  rintro e w3 ⟨rfl, h3⟩
  have S3 := Lib.hid (S2.out.call h3); clear h3 S2 t0 t1 s0 s1
  go_wp2_with fail
  refine (K5.out _ (Hg.out.here S3.out.1)).mono ?_
  rintro e w4 ⟨rfl, h4⟩
  have S4 := Lib.hid (S3.out.call h4); clear h4 S3
  obtain ⟨_, t0, t1, s0, s1, _⟩ := S4.out
  have e0 := @run_makeMap Tryd.prog
  have e1 := run_put0 (w := w4.alloc (.map #[] 0)) (r := w4.heap.size) Tryd.underlying45 Tryd.underlying4 true (.int .i64 1) (alloc_map_at w4)
  have a1 := putMap_at (alloc_map_at w4) (.map #[{ key := .bool true, val := .int .i64 1, born := 0 }] 1)
  have e2 := run_put1 (w := putMap (w4.alloc (.map #[] 0)) w4.heap.size (.map #[{ key := .bool true, val := .int .i64 1, born := 0 }] 1)) (r := w4.heap.size) Tryd.underlying45 Tryd.underlying4 (.int .i64 1) (.int .i64 0) a1
  have e3 := run_look2 Tryd.underlying45 Tryd.underlying4 gb (.int .i64 1) (.int .i64 0) (putMap_at a1 (.map #[{ key := .bool true, val := .int .i64 1, born := 0 }, { key := .bool false, val := .int .i64 0, born := 1 }] 2))
  clear a1
  have hv : (if gb then Value.int .i64 1 else Value.int .i64 0) = .int .i64 r := by rw [HR.out]; cases gb <;> rfl
  rw [hv] at e3
  clear hv
  go_wp2_with fail
  go_ret
  exact ⟨rfl, putMap_below (putMap_below (below_alloc S4.out.1 _) S4.out.1.size _) S4.out.1.size _⟩

theorem shifts_any (x g n : Int) (w : World) (hg : ErrT w) (hx : 0 ≤ x ∧ x ≤ 18446744073709551615) (hgg : 0 ≤ g ∧ g ≤ 18446744073709551615) (hn : 0 ≤ n ∧ n ≤ 18446744073709551615) :
    Calls Tryd.prog 8 #[.int .u64 x, .int .u64 g, .int .u64 n] w (IsEnd true w) := by
  by_cases h1 : x + 1 + g ≤ 18446744073709551615
  · by_cases h2 : x + 1 + g + n ≤ 18446744073709551615
    · refine shifts_ok x g n (x + 1 + g) (x + 1 + g + n) w hg (if g == 0 then 1 else 0) (g == 0) rfl rfl
        (fun w => shift_ok x g n _ _ w hx hgg hn rfl h1 rfl h2) (fun w => refShift_ok x g n _ _ w hx hgg hn rfl h1 rfl h2) (fun w => ?_)
      have k := relate_any x x (x + 1 + g) (x + 1 + g + n) w hx.1 h1 (by omega) hx.2
      have e : relN x x (x + 1 + g) (x + 1 + g + n) = if g == 0 then 1 else 0 := by
        by_cases hz : g = 0
        · subst hz
          rw [rel1 (by omega)]; rfl
        · rw [rel0 (by omega) (by omega), if_neg (by simpa using hz)]
      rw [e] at k
      exact k
    · exact shifts_no x g n w hg (fun w => shift_no2 x g n _ w hx hgg hn rfl h1 (by omega)) (fun w => refShift_no2 x g n _ w hx hgg hn rfl h1 (by omega))
  · exact shifts_no x g n w hg (fun w => shift_no1 x g n w hx hgg (by omega)) (fun w => refShift_no1 x g n w hx hgg hn (by omega))
end Go.Proofs.YtciinnkcjiibfaaDoor
