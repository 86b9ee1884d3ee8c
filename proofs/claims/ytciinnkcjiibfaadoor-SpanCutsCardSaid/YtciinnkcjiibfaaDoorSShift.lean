/- Shift of package span and the reference's. Conditions: the arguments are numbers of 64 bits. -/
import Derived.Test.YtciinnkcjiibfaaDoorSum
import Derived.Test.YtciinnkcjiibfaaDoorSMeet
namespace Go.Proofs.YtciinnkcjiibfaaDoor
open Go.RowKit

/-- A call that returns an interval and an error. -/
def IsIvE (a b : Int) (r : Value) (w : World) (e : Ending) (w' : World) : Prop := e = .returned (.tuple #[.agg #[.int .u64 a, .int .u64 b], r]) ∧ Below w.heap.size w w'

theorem first_three (w : World) (v0 v1 : Value) (t : TypeId) (a b c : Value) (u : TypeId) : At ((w.alloc (.cells #[v0, v1] t)).alloc (.cells #[a, b, c] u)) [(w.heap.size + 1, 0, a), (w.heap.size + 1, 1, b), (w.heap.size + 1, 2, c), (w.heap.size, 0, v0), (w.heap.size, 1, v1)] :=
  At.new3 (At.new2 (w := w) (l := []) trivial _ _ _ w.heap.size rfl) _ _ _ _ (w.heap.size + 1) (by simp)

set_option maxRecDepth 100000 in
theorem shift_ok (x g n lo hi : Int) (w : World) (hx : 0 ≤ x ∧ x ≤ 18446744073709551615) (hg : 0 ≤ g ∧ g ≤ 18446744073709551615) (hn : 0 ≤ n ∧ n ≤ 18446744073709551615)
    (hlo : x + 1 + g = lo) (hl : lo ≤ 18446744073709551615) (hhi : lo + n = hi) (hh : hi ≤ 18446744073709551615) :
    Calls Tryd.prog 25 #[.int .u64 x, .int .u64 g, .int .u64 n] w (IsIvE lo hi .nilIface w) := by
  have K1 := Lib.hid (fun w s h => sum_ok [x, 1, g] s w lo h (by simp; omega) hl)
  have K2 := Lib.hid (fun w s h => sum_ok [lo, n] s w hi h (by simp; omega) hh)
  have HX := Lib.hid hx
  have HG := Lib.hid hg
  have HN := Lib.hid hn
  have HL := Lib.hid (show 0 ≤ lo ∧ lo ≤ 18446744073709551615 from ⟨by omega, hl⟩)
  clear hx hg hn hlo hl hhi hh
  go_enter Tryd.func25, Tryd.ntmps25
  go_wp2_with fail
  have h3 := first_three w (.int .u64 0) (.int .u64 0) 24 (.int .u64 x) (.int .u64 1) (.int .u64 g) 22
  have n3 := nums_three _ _ _ _ _ ⟨h3.1, h3.2.1, h3.2.2.1, trivial⟩ HX.out (by omega) HG.out
  have N3 := Lib.hid n3; clear n3
  have H3 := Lib.hid h3; clear h3
  refine (K1.out _ _ N3.out).mono ?_
  rintro e w1 ⟨rfl, h1⟩
  obtain ⟨_, _, _, r0, r1, _⟩ := At.call h1 H3.out
  obtain ⟨⟨f0, g0⟩, ⟨f1, _⟩, _⟩ := Free.call h1 (Free.alloc (Free.new2 (w := w) (l := []) trivial (.int .u64 0) (.int .u64 0) 24 w.heap.size rfl) _)
  have hb := below_call (below_alloc (below_new w _) _) h1
  have HB := Lib.hid hb; clear hb h1
  have n4 := nums_two (w1.alloc (.cells #[.int .u64 lo, .int .u64 n] 22)) w1.heap.size lo n (At.new2 (w := w1) (l := []) trivial _ _ _ w1.heap.size rfl) HL.out HN.out
  have N4 := Lib.hid n4; clear n4
  have R := Lib.hid (At.alloc (w := w1) (l := [(w.heap.size, 0, .int .u64 0), (w.heap.size, 1, .int .u64 0)]) ⟨r0, r1, trivial⟩ (.cells #[.int .u64 lo, .int .u64 n] 22))
  have F := Lib.hid (Free.alloc (w := w1) (l := [(w.heap.size, 0), (w.heap.size, 1)]) ⟨⟨f0, g0⟩, ⟨f1, g0⟩, trivial⟩ (.cells #[.int .u64 lo, .int .u64 n] 22))
  clear r0 r1 f0 f1 g0
  go_wp2_with fail
  refine (K2.out _ _ N4.out).mono ?_
  rintro e w2 ⟨rfl, h2⟩
  obtain ⟨r0, r1, _⟩ := At.call h2 R.out
  obtain ⟨⟨f0, _⟩, ⟨f1, _⟩, _⟩ := Free.call h2 F.out
  have hb := below_call (below_alloc HB.out _) h2
  have HB2 := Lib.hid hb; clear hb h2
  go_wp2_with fail
  obtain ⟨q0, q1, _⟩ := At.set2 r0 r1 (l := []) trivial (by simp) (.int .u64 lo) (.int .u64 hi)
  refine bodyPost_ret (v := .tuple #[.agg #[.int .u64 lo, .int .u64 hi], .nilIface]) (by simp [results, Tryd.results25, go_sem, q0, q1]) rfl ⟨rfl, ?_⟩
  exact below_set (below_set HB2.out (by omega) _ _) (by omega) _ _

set_option maxRecDepth 100000 in
theorem shift_no2 (x g n lo : Int) (w : World) (hx : 0 ≤ x ∧ x ≤ 18446744073709551615) (hg : 0 ≤ g ∧ g ≤ 18446744073709551615) (hn : 0 ≤ n ∧ n ≤ 18446744073709551615)
    (hlo : x + 1 + g = lo) (hl : lo ≤ 18446744073709551615) (hh : 18446744073709551615 < lo + n) :
    Calls Tryd.prog 25 #[.int .u64 x, .int .u64 g, .int .u64 n] w (IsIvE 0 0 (.iface 30 (.int .i64 8)) w) := by
  have K1 := Lib.hid (fun w s h => sum_ok [x, 1, g] s w lo h (by simp; omega) hl)
  have K2 := Lib.hid (fun w s h => sum_bad [lo, n] s w h (by simp; omega))
  have HX := Lib.hid hx
  have HG := Lib.hid hg
  have HN := Lib.hid hn
  have HL := Lib.hid (show 0 ≤ lo ∧ lo ≤ 18446744073709551615 from ⟨by omega, hl⟩)
  clear hx hg hn hlo hl hh
  go_enter Tryd.func25, Tryd.ntmps25
  go_wp2_with fail
  have h3 := first_three w (.int .u64 0) (.int .u64 0) 24 (.int .u64 x) (.int .u64 1) (.int .u64 g) 22
  have n3 := nums_three _ _ _ _ _ ⟨h3.1, h3.2.1, h3.2.2.1, trivial⟩ HX.out (by omega) HG.out
  have N3 := Lib.hid n3; clear n3
  have H3 := Lib.hid h3; clear h3
  refine (K1.out _ _ N3.out).mono ?_
  rintro e w1 ⟨rfl, h1⟩
  obtain ⟨_, _, _, r0, r1, _⟩ := At.call h1 H3.out
  obtain ⟨⟨f0, g0⟩, ⟨f1, _⟩, _⟩ := Free.call h1 (Free.alloc (Free.new2 (w := w) (l := []) trivial (.int .u64 0) (.int .u64 0) 24 w.heap.size rfl) _)
  have hb := below_call (below_alloc (below_new w _) _) h1
  have HB := Lib.hid hb; clear hb h1
  have n4 := nums_two (w1.alloc (.cells #[.int .u64 lo, .int .u64 n] 22)) w1.heap.size lo n (At.new2 (w := w1) (l := []) trivial _ _ _ w1.heap.size rfl) HL.out HN.out
  have N4 := Lib.hid n4; clear n4
  have R := Lib.hid (At.alloc (w := w1) (l := [(w.heap.size, 0, .int .u64 0), (w.heap.size, 1, .int .u64 0)]) ⟨r0, r1, trivial⟩ (.cells #[.int .u64 lo, .int .u64 n] 22))
  have F := Lib.hid (Free.alloc (w := w1) (l := [(w.heap.size, 0), (w.heap.size, 1)]) ⟨⟨f0, g0⟩, ⟨f1, g0⟩, trivial⟩ (.cells #[.int .u64 lo, .int .u64 n] 22))
  clear r0 r1 f0 f1 g0
  go_wp2_with fail
  refine (K2.out _ _ N4.out).mono ?_
  rintro e w2 ⟨rfl, h2⟩
  obtain ⟨r0, r1, _⟩ := At.call h2 R.out
  obtain ⟨⟨f0, _⟩, ⟨f1, _⟩, _⟩ := Free.call h2 F.out
  have hb := below_call (below_alloc HB.out _) h2
  have HB2 := Lib.hid hb; clear hb h2
  go_wp2_with fail
  obtain ⟨q0, q1, _⟩ := At.set2 r0 r1 (l := []) trivial (by simp) (.int .u64 0) (.int .u64 0)
  refine bodyPost_ret (v := .tuple #[.agg #[.int .u64 0, .int .u64 0], (.iface 30 (.int .i64 8))]) (by simp [results, Tryd.results25, go_sem, q0, q1]) rfl ⟨rfl, ?_⟩
  exact below_set (below_set HB2.out (by omega) _ _) (by omega) _ _

set_option maxRecDepth 100000 in
theorem shift_no1 (x g n : Int) (w : World) (hx : 0 ≤ x ∧ x ≤ 18446744073709551615) (hg : 0 ≤ g ∧ g ≤ 18446744073709551615) (hh : 18446744073709551615 < x + 1 + g) :
    Calls Tryd.prog 25 #[.int .u64 x, .int .u64 g, .int .u64 n] w (IsIvE 0 0 (.iface 30 (.int .i64 8)) w) := by
  have K1 := Lib.hid (fun w s h => sum_bad [x, 1, g] s w h (by simp; omega))
  have HX := Lib.hid hx
  have HG := Lib.hid hg
  clear hx hg hh
  go_enter Tryd.func25, Tryd.ntmps25
  go_wp2_with fail
  have h3 := first_three w (.int .u64 0) (.int .u64 0) 24 (.int .u64 x) (.int .u64 1) (.int .u64 g) 22
  have n3 := nums_three _ _ _ _ _ ⟨h3.1, h3.2.1, h3.2.2.1, trivial⟩ HX.out (by omega) HG.out
  have N3 := Lib.hid n3; clear n3
  have H3 := Lib.hid h3; clear h3
  refine (K1.out _ _ N3.out).mono ?_
  rintro e w1 ⟨rfl, h1⟩
  obtain ⟨_, _, _, r0, r1, _⟩ := At.call h1 H3.out
  obtain ⟨⟨f0, _⟩, ⟨f1, _⟩, _⟩ := Free.call h1 (Free.alloc (Free.new2 (w := w) (l := []) trivial (.int .u64 0) (.int .u64 0) 24 w.heap.size rfl) _)
  have hb := below_call (below_alloc (below_new w _) _) h1
  have HB := Lib.hid hb; clear hb h1
  go_wp2_with fail
  obtain ⟨q0, q1, _⟩ := At.set2 r0 r1 (l := []) trivial (by simp) (.int .u64 0) (.int .u64 0)
  refine bodyPost_ret (v := .tuple #[.agg #[.int .u64 0, .int .u64 0], (.iface 30 (.int .i64 8))]) (by simp [results, Tryd.results25, go_sem, q0, q1]) rfl ⟨rfl, ?_⟩
  exact below_set (below_set HB.out (by omega) _ _) (by omega) _ _

set_option maxRecDepth 100000 in
theorem refShift_ok (x g n lo hi : Int) (w : World) (hx : 0 ≤ x ∧ x ≤ 18446744073709551615) (hg : 0 ≤ g ∧ g ≤ 18446744073709551615) (hn : 0 ≤ n ∧ n ≤ 18446744073709551615)
    (hlo : x + 1 + g = lo) (hl : lo ≤ 18446744073709551615) (hhi : lo + n = hi) (hh : hi ≤ 18446744073709551615) :
    Calls Tryd.prog 26 #[.int .u64 x, .int .u64 g, .int .u64 n] w (IsIvE lo hi (.bool true) w) := by
  have K1 := Lib.hid (fun w s h => refSum_ok [x, g, 1] s w lo h (by simp; omega) hl)
  have K2 := Lib.hid (fun w s h => refSum_ok [lo, n] s w hi h (by simp; omega) hh)
  have HX := Lib.hid hx
  have HG := Lib.hid hg
  have HN := Lib.hid hn
  have HL := Lib.hid (show 0 ≤ lo ∧ lo ≤ 18446744073709551615 from ⟨by omega, hl⟩)
  clear hx hg hn hlo hl hhi hh
  go_enter Tryd.func26, Tryd.ntmps26
  go_wp2_with fail
  have h3 := first_three w (.int .u64 0) (.int .u64 0) 24 (.int .u64 x) (.int .u64 g) (.int .u64 1) 22
  have n3 := nums_three _ _ _ _ _ ⟨h3.1, h3.2.1, h3.2.2.1, trivial⟩ HX.out HG.out (by omega)
  have N3 := Lib.hid n3; clear n3
  have H3 := Lib.hid h3; clear h3
  refine (K1.out _ _ N3.out).mono ?_
  rintro e w1 ⟨rfl, h1⟩
  obtain ⟨_, _, _, r0, r1, _⟩ := At.call h1 H3.out
  obtain ⟨⟨f0, g0⟩, ⟨f1, _⟩, _⟩ := Free.call h1 (Free.alloc (Free.new2 (w := w) (l := []) trivial (.int .u64 0) (.int .u64 0) 24 w.heap.size rfl) _)
  have hb := below_call (below_alloc (below_new w _) _) h1
  have HB := Lib.hid hb; clear hb h1
  have n4 := nums_two (w1.alloc (.cells #[.int .u64 lo, .int .u64 n] 22)) w1.heap.size lo n (At.new2 (w := w1) (l := []) trivial _ _ _ w1.heap.size rfl) HL.out HN.out
  have N4 := Lib.hid n4; clear n4
  have R := Lib.hid (At.alloc (w := w1) (l := [(w.heap.size, 0, .int .u64 0), (w.heap.size, 1, .int .u64 0)]) ⟨r0, r1, trivial⟩ (.cells #[.int .u64 lo, .int .u64 n] 22))
  have F := Lib.hid (Free.alloc (w := w1) (l := [(w.heap.size, 0), (w.heap.size, 1)]) ⟨⟨f0, g0⟩, ⟨f1, g0⟩, trivial⟩ (.cells #[.int .u64 lo, .int .u64 n] 22))
  clear r0 r1 f0 f1 g0
  go_wp2_with fail
  refine (K2.out _ _ N4.out).mono ?_
  rintro e w2 ⟨rfl, h2⟩
  obtain ⟨r0, r1, _⟩ := At.call h2 R.out
  obtain ⟨⟨f0, _⟩, ⟨f1, _⟩, _⟩ := Free.call h2 F.out
  have hb := below_call (below_alloc HB.out _) h2
  have HB2 := Lib.hid hb; clear hb h2
  go_wp2_with fail
  obtain ⟨q0, q1, _⟩ := At.set2 r0 r1 (l := []) trivial (by simp) (.int .u64 lo) (.int .u64 hi)
  refine bodyPost_ret (v := .tuple #[.agg #[.int .u64 lo, .int .u64 hi], (.bool true)]) (by simp [results, Tryd.results26, go_sem, q0, q1]) rfl ⟨rfl, ?_⟩
  exact below_set (below_set HB2.out (by omega) _ _) (by omega) _ _

set_option maxRecDepth 100000 in
theorem refShift_no2 (x g n lo : Int) (w : World) (hx : 0 ≤ x ∧ x ≤ 18446744073709551615) (hg : 0 ≤ g ∧ g ≤ 18446744073709551615) (hn : 0 ≤ n ∧ n ≤ 18446744073709551615)
    (hlo : x + 1 + g = lo) (hl : lo ≤ 18446744073709551615) (hh : 18446744073709551615 < lo + n) :
    Calls Tryd.prog 26 #[.int .u64 x, .int .u64 g, .int .u64 n] w (IsIvE 0 0 (.bool false) w) := by
  have K1 := Lib.hid (fun w s h => refSum_ok [x, g, 1] s w lo h (by simp; omega) hl)
  have K2 := Lib.hid (fun w s h => refSum_bad [lo, n] s w h (by simp; omega))
  have HX := Lib.hid hx
  have HG := Lib.hid hg
  have HN := Lib.hid hn
  have HL := Lib.hid (show 0 ≤ lo ∧ lo ≤ 18446744073709551615 from ⟨by omega, hl⟩)
  clear hx hg hn hlo hl hh
  go_enter Tryd.func26, Tryd.ntmps26
  go_wp2_with fail
  have h3 := first_three w (.int .u64 0) (.int .u64 0) 24 (.int .u64 x) (.int .u64 g) (.int .u64 1) 22
  have n3 := nums_three _ _ _ _ _ ⟨h3.1, h3.2.1, h3.2.2.1, trivial⟩ HX.out HG.out (by omega)
  have N3 := Lib.hid n3; clear n3
  have H3 := Lib.hid h3; clear h3
  refine (K1.out _ _ N3.out).mono ?_
  rintro e w1 ⟨rfl, h1⟩
  obtain ⟨_, _, _, r0, r1, _⟩ := At.call h1 H3.out
  obtain ⟨⟨f0, g0⟩, ⟨f1, _⟩, _⟩ := Free.call h1 (Free.alloc (Free.new2 (w := w) (l := []) trivial (.int .u64 0) (.int .u64 0) 24 w.heap.size rfl) _)
  have hb := below_call (below_alloc (below_new w _) _) h1
  have HB := Lib.hid hb; clear hb h1
  have n4 := nums_two (w1.alloc (.cells #[.int .u64 lo, .int .u64 n] 22)) w1.heap.size lo n (At.new2 (w := w1) (l := []) trivial _ _ _ w1.heap.size rfl) HL.out HN.out
  have N4 := Lib.hid n4; clear n4
  have R := Lib.hid (At.alloc (w := w1) (l := [(w.heap.size, 0, .int .u64 0), (w.heap.size, 1, .int .u64 0)]) ⟨r0, r1, trivial⟩ (.cells #[.int .u64 lo, .int .u64 n] 22))
  have F := Lib.hid (Free.alloc (w := w1) (l := [(w.heap.size, 0), (w.heap.size, 1)]) ⟨⟨f0, g0⟩, ⟨f1, g0⟩, trivial⟩ (.cells #[.int .u64 lo, .int .u64 n] 22))
  clear r0 r1 f0 f1 g0
  go_wp2_with fail
  refine (K2.out _ _ N4.out).mono ?_
  rintro e w2 ⟨rfl, h2⟩
  obtain ⟨r0, r1, _⟩ := At.call h2 R.out
  obtain ⟨⟨f0, _⟩, ⟨f1, _⟩, _⟩ := Free.call h2 F.out
  have hb := below_call (below_alloc HB.out _) h2
  have HB2 := Lib.hid hb; clear hb h2
  go_wp2_with fail
  obtain ⟨q0, q1, _⟩ := At.set2 r0 r1 (l := []) trivial (by simp) (.int .u64 0) (.int .u64 0)
  refine bodyPost_ret (v := .tuple #[.agg #[.int .u64 0, .int .u64 0], (.bool false)]) (by simp [results, Tryd.results26, go_sem, q0, q1]) rfl ⟨rfl, ?_⟩
  exact below_set (below_set HB2.out (by omega) _ _) (by omega) _ _

set_option maxRecDepth 100000 in
theorem refShift_no1 (x g n : Int) (w : World) (hx : 0 ≤ x ∧ x ≤ 18446744073709551615) (hg : 0 ≤ g ∧ g ≤ 18446744073709551615) (hn : 0 ≤ n ∧ n ≤ 18446744073709551615) (hh : 18446744073709551615 < x + 1 + g) :
    Calls Tryd.prog 26 #[.int .u64 x, .int .u64 g, .int .u64 n] w (IsIvE 0 0 (.bool false) w) := by
  have K1 := Lib.hid (fun w s h => refSum_bad [x, g, 1] s w h (by simp; omega))
  have K2 := Lib.hid (fun w s h => refSum_ok [0, n] s w n h (by simp) hn.2)
  have HX := Lib.hid hx
  have HG := Lib.hid hg
  have HN := Lib.hid hn
  have HL := Lib.hid (show (0 : Int) ≤ 0 ∧ (0 : Int) ≤ 18446744073709551615 from by omega)
  clear hx hg hn hh
  go_enter Tryd.func26, Tryd.ntmps26
  go_wp2_with fail
  have h3 := first_three w (.int .u64 0) (.int .u64 0) 24 (.int .u64 x) (.int .u64 g) (.int .u64 1) 22
  have n3 := nums_three _ _ _ _ _ ⟨h3.1, h3.2.1, h3.2.2.1, trivial⟩ HX.out HG.out (by omega)
  have N3 := Lib.hid n3; clear n3
  have H3 := Lib.hid h3; clear h3
  refine (K1.out _ _ N3.out).mono ?_
  rintro e w1 ⟨rfl, h1⟩
  obtain ⟨_, _, _, r0, r1, _⟩ := At.call h1 H3.out
  obtain ⟨⟨f0, g0⟩, ⟨f1, _⟩, _⟩ := Free.call h1 (Free.alloc (Free.new2 (w := w) (l := []) trivial (.int .u64 0) (.int .u64 0) 24 w.heap.size rfl) _)
  have hb := below_call (below_alloc (below_new w _) _) h1
  have HB := Lib.hid hb; clear hb h1
  have n4 := nums_two (w1.alloc (.cells #[.int .u64 0, .int .u64 n] 22)) w1.heap.size 0 n (At.new2 (w := w1) (l := []) trivial _ _ _ w1.heap.size rfl) HL.out HN.out
  have N4 := Lib.hid n4; clear n4
  have R := Lib.hid (At.alloc (w := w1) (l := [(w.heap.size, 0, .int .u64 0), (w.heap.size, 1, .int .u64 0)]) ⟨r0, r1, trivial⟩ (.cells #[.int .u64 0, .int .u64 n] 22))
  have F := Lib.hid (Free.alloc (w := w1) (l := [(w.heap.size, 0), (w.heap.size, 1)]) ⟨⟨f0, g0⟩, ⟨f1, g0⟩, trivial⟩ (.cells #[.int .u64 0, .int .u64 n] 22))
  clear r0 r1 f0 f1 g0
  go_wp2_with fail
  refine (K2.out _ _ N4.out).mono ?_
  rintro e w2 ⟨rfl, h2⟩
  obtain ⟨r0, r1, _⟩ := At.call h2 R.out
  obtain ⟨⟨f0, _⟩, ⟨f1, _⟩, _⟩ := Free.call h2 F.out
  have hb := below_call (below_alloc HB.out _) h2
  have HB2 := Lib.hid hb; clear hb h2
  go_wp2_with fail
  obtain ⟨q0, q1, _⟩ := At.set2 r0 r1 (l := []) trivial (by simp) (.int .u64 0) (.int .u64 0)
  refine bodyPost_ret (v := .tuple #[.agg #[.int .u64 0, .int .u64 0], (.bool false)]) (by simp [results, Tryd.results26, go_sem, q0, q1]) rfl ⟨rfl, ?_⟩
  exact below_set (below_set HB2.out (by omega) _ _) (by omega) _ _

end Go.Proofs.YtciinnkcjiibfaaDoor
