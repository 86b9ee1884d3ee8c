/- Meet and Join of package span and the reference's. Conditions: the ends are numbers of 64 bits. -/
import Derived.Test.YtciinnkcjiibfaaDoorSRel2
import Derived.Deep.QuietTactic
import Derived.BigQuiet
import Derived.WalkLawsBesides
namespace Go.Proofs.YtciinnkcjiibfaaDoor
open Go.RowKit

/-- A call that returns an interval and a bool. -/
def IsIv (a b : Int) (r : Bool) (w : World) (e : Ending) (w' : World) : Prop := e = .returned (.tuple #[.agg #[.int .u64 a, .int .u64 b], .bool r]) ∧ Below w.heap.size w w'

theorem three_below (w : World) (o p q : Obj) (n : Nat) (v0 v1 : Value) : Below w.heap.size w ((((((w.alloc o).alloc p).alloc q).drewN n).setCell ⟨w.heap.size + 1 + 1, 0, none⟩ v0).setCell ⟨w.heap.size + 1 + 1, 1, none⟩ v1) :=
  below_set (below_set (below_drewN (below_alloc (below_alloc (below_alloc (Below.refl w.heap.size w) o) p) q) n) (by omega) _ _) (by omega) _ _

set_option maxRecDepth 100000 in
theorem meet_yes (a b c d lo hi : Int) (w : World) (hlo : (if a < c then c else a) = lo) (hhi : (if d < b then d else b) = hi) (h : lo ≤ hi) :
    Calls Tryd.prog 18 #[.agg #[.int .u64 a, .int .u64 b], .agg #[.int .u64 c, .int .u64 d]] w (IsIv lo hi true w) := by
  go_enter Tryd.func18, Tryd.ntmps18
  go_wp2_with fail
  go_quiet (fail)
  go_wp2_with fail
  exact bodyPost_ret (v := .tuple #[.agg #[.int .u64 lo, .int .u64 hi], .bool true]) (by simp [results, Tryd.results18, go_sem]) rfl ⟨rfl, three_below _ _ _ _ _ _ _⟩

set_option maxRecDepth 100000 in
theorem meet_no (a b c d lo hi : Int) (w : World) (hlo : (if a < c then c else a) = lo) (hhi : (if d < b then d else b) = hi) (h : hi < lo) :
    Calls Tryd.prog 18 #[.agg #[.int .u64 a, .int .u64 b], .agg #[.int .u64 c, .int .u64 d]] w (IsIv 0 0 false w) := by
  go_enter Tryd.func18, Tryd.ntmps18
  go_wp2_with fail
  go_quiet (fail)
  go_wp2_with fail
  exact bodyPost_ret (v := .tuple #[.agg #[.int .u64 0, .int .u64 0], .bool false]) (by simp [results, Tryd.results18, go_sem]) rfl ⟨rfl, three_below _ _ _ _ _ _ _⟩

set_option maxRecDepth 100000 in
theorem refMeet_yes (a b c d lo hi : Int) (w : World) (hlo : (if a < c then c else a) = lo) (hhi : (if d < b then d else b) = hi) (hb : 0 ≤ b) (hc : c ≤ 18446744073709551615) (hd : 0 ≤ d) (ha : a ≤ 18446744073709551615) (h2 : ¬ b < c) (h4 : ¬ d < a) :
    Calls Tryd.prog 19 #[.agg #[.int .u64 a, .int .u64 b], .agg #[.int .u64 c, .int .u64 d]] w (IsIv lo hi true w) := by
  have k := fun w => refRelate_any a b c d w hb hc hd ha
  rw [rel2 h2 h4] at k
  have K := Lib.hid k; clear k
  clear hb hc hd ha h2 h4
  go_enter Tryd.func19, Tryd.ntmps19
  go_wp2_with fail
  refine (K.out _).mono ?_
  rintro e w1 ⟨rfl, h1⟩
  obtain ⟨r0, r1, d0, d1, c0, c1, _⟩ := At.call h1 (At.new2 (At.new2 (At.new2 (w := w) (l := []) trivial _ _ _ w.heap.size rfl) _ _ _ (w.heap.size + 1) (by simp)) _ _ _ (w.heap.size + 1 + 1) (by simp))
  obtain ⟨⟨f0, _⟩, ⟨f1, _⟩, _⟩ := Free.call h1 (Free.new2 (w := (w.alloc _).alloc _) (l := []) trivial _ _ _ (w.heap.size + 1 + 1) (by simp))
  have H1 := Lib.hid h1; clear h1
  go_wp2_with fail
  obtain ⟨q0, q1, _⟩ := At.set2 r0 r1 (l := []) trivial (by simp) (.int .u64 lo) (.int .u64 hi)
  refine bodyPost_ret (v := .tuple #[.agg #[.int .u64 lo, .int .u64 hi], .bool true]) (by simp [results, Tryd.results19, go_sem, q0, q1]) rfl ⟨rfl, ?_⟩
  exact below_set (below_set (keep_below (below_alloc (below_alloc (below_alloc (Below.refl _ _) _) _) _) (by simp) H1.out) (by omega) _ _) (by omega) _ _

set_option maxRecDepth 100000 in
theorem refMeet_no (a b c d : Int) (w : World) (hb : 0 ≤ b) (hc : c ≤ 18446744073709551615) (hd : 0 ≤ d) (ha : a ≤ 18446744073709551615) (h : b < c ∨ d < a) :
    Calls Tryd.prog 19 #[.agg #[.int .u64 a, .int .u64 b], .agg #[.int .u64 c, .int .u64 d]] w (IsIv 0 0 false w) := by
  have K := Lib.hid (fun w => refRelate_any a b c d w hb hc hd ha)
  have hr : (relN a b c d == 2) = false := by unfold relN; simp; repeat (first | omega | split)
  obtain ⟨r, hr'⟩ : ∃ r, relN a b c d = r := ⟨_, rfl⟩
  rw [hr'] at K hr
  have hr2 : (r != 2) = true := by simpa using hr
  clear hb hc hd ha h hr' hr
  go_enter Tryd.func19, Tryd.ntmps19
  go_wp2_with fail
  refine (K.out _).mono ?_
  rintro e w1 ⟨rfl, h1⟩
  obtain ⟨r0, r1, _⟩ := At.call h1 (At.new2 (w := (w.alloc _).alloc _) (l := []) trivial _ _ _ (w.heap.size + 1 + 1) (by simp))
  obtain ⟨⟨f0, _⟩, ⟨f1, _⟩, _⟩ := Free.call h1 (Free.new2 (w := (w.alloc _).alloc _) (l := []) trivial _ _ _ (w.heap.size + 1 + 1) (by simp))
  have H1 := Lib.hid h1; clear h1
  go_wp2_with fail
  obtain ⟨q0, q1, _⟩ := At.set2 r0 r1 (l := []) trivial (by simp) (.int .u64 0) (.int .u64 0)
  refine bodyPost_ret (v := .tuple #[.agg #[.int .u64 0, .int .u64 0], .bool false]) (by simp [results, Tryd.results19, go_sem, q0, q1]) rfl ⟨rfl, ?_⟩
  exact below_set (below_set (keep_below (below_alloc (below_alloc (below_alloc (Below.refl _ _) _) _) _) (by simp) H1.out) (by omega) _ _) (by omega) _ _

set_option maxRecDepth 100000 in
theorem join_yes (a b c d lo hi : Int) (w : World) (hlo : (if c < a then c else a) = lo) (hhi : (if b < d then d else b) = hi) (hb : 0 ≤ b) (hc : c ≤ 18446744073709551615) (hd : 0 ≤ d) (ha : a ≤ 18446744073709551615)
    (h0 : relN a b c d ≠ 0) (h4 : relN a b c d ≠ 4) :
    Calls Tryd.prog 20 #[.agg #[.int .u64 a, .int .u64 b], .agg #[.int .u64 c, .int .u64 d]] w (IsIv lo hi true w) := by
  have K := Lib.hid (fun w => relate_any a b c d w hb hc hd ha)
  obtain ⟨r, hr'⟩ : ∃ r, relN a b c d = r := ⟨_, rfl⟩
  rw [hr'] at K h0 h4
  have e0 : (r == 0) = false := by simpa using h0
  have e4 : (r == 4) = false := by simpa using h4
  clear hb hc hd ha h0 h4 hr'
  go_enter Tryd.func20, Tryd.ntmps20
  go_wp2_with fail
  refine (K.out _).mono ?_
  rintro e w1 ⟨rfl, h1⟩
  obtain ⟨r0, r1, d0, d1, c0, c1, _⟩ := At.call h1 (At.new2 (At.new2 (At.new2 (w := w) (l := []) trivial _ _ _ w.heap.size rfl) _ _ _ (w.heap.size + 1) (by simp)) _ _ _ (w.heap.size + 1 + 1) (by simp))
  obtain ⟨⟨f0, _⟩, ⟨f1, _⟩, _⟩ := Free.call h1 (Free.new2 (w := (w.alloc _).alloc _) (l := []) trivial _ _ _ (w.heap.size + 1 + 1) (by simp))
  have H1 := Lib.hid h1; clear h1
  go_wp2_with fail
  obtain ⟨q0, q1, _⟩ := At.set2 r0 r1 (l := []) trivial (by simp) (.int .u64 lo) (.int .u64 hi)
  refine bodyPost_ret (v := .tuple #[.agg #[.int .u64 lo, .int .u64 hi], .bool true]) (by simp [results, Tryd.results20, go_sem, q0, q1]) rfl ⟨rfl, ?_⟩
  exact below_set (below_set (keep_below (below_alloc (below_alloc (below_alloc (Below.refl _ _) _) _) _) (by simp) H1.out) (by omega) _ _) (by omega) _ _

set_option maxRecDepth 100000 in
theorem join_no (a b c d : Int) (w : World) (hb : 0 ≤ b) (hc : c ≤ 18446744073709551615) (hd : 0 ≤ d) (ha : a ≤ 18446744073709551615) (h : relN a b c d = 0 ∨ relN a b c d = 4) :
    Calls Tryd.prog 20 #[.agg #[.int .u64 a, .int .u64 b], .agg #[.int .u64 c, .int .u64 d]] w (IsIv 0 0 false w) := by
  have K := Lib.hid (fun w => relate_any a b c d w hb hc hd ha)
  rcases h with h | h
  all_goals
    rw [h] at K
    clear hb hc hd ha h
    go_enter Tryd.func20, Tryd.ntmps20
    go_wp2_with fail
    refine (K.out _).mono ?_
    rintro e w1 ⟨rfl, h1⟩
    obtain ⟨r0, r1, _⟩ := At.call h1 (At.new2 (w := (w.alloc _).alloc _) (l := []) trivial _ _ _ (w.heap.size + 1 + 1) (by simp))
    obtain ⟨⟨f0, _⟩, ⟨f1, _⟩, _⟩ := Free.call h1 (Free.new2 (w := (w.alloc _).alloc _) (l := []) trivial _ _ _ (w.heap.size + 1 + 1) (by simp))
    have H1 := Lib.hid h1; clear h1
    go_wp2_with fail
    obtain ⟨q0, q1, _⟩ := At.set2 r0 r1 (l := []) trivial (by simp) (.int .u64 0) (.int .u64 0)
    refine bodyPost_ret (v := .tuple #[.agg #[.int .u64 0, .int .u64 0], .bool false]) (by simp [results, Tryd.results20, go_sem, q0, q1]) rfl ⟨rfl, ?_⟩
    exact below_set (below_set (keep_below (below_alloc (below_alloc (below_alloc (Below.refl _ _) _) _) _) (by simp) H1.out) (by omega) _ _) (by omega) _ _

set_option maxRecDepth 100000 in
theorem refJoin_yes (a b c d lo hi : Int) (w : World) (hlo : (if c < a then c else a) = lo) (hhi : (if b < d then d else b) = hi) (hb : 0 ≤ b) (hc : c ≤ 18446744073709551615) (hd : 0 ≤ d) (ha : a ≤ 18446744073709551615)
    (h0 : relN a b c d ≠ 0) (h4 : relN a b c d ≠ 4) :
    Calls Tryd.prog 21 #[.agg #[.int .u64 a, .int .u64 b], .agg #[.int .u64 c, .int .u64 d]] w (IsIv lo hi true w) := by
  have K := Lib.hid (fun w => refRelate_any a b c d w hb hc hd ha)
  obtain ⟨r, hr'⟩ : ∃ r, relN a b c d = r := ⟨_, rfl⟩
  rw [hr'] at K h0 h4
  have e0 : (r == 0) = false := by simpa using h0
  have e4 : (r == 4) = false := by simpa using h4
  clear hb hc hd ha h0 h4 hr'
  go_enter Tryd.func21, Tryd.ntmps21
  go_wp2_with fail
  refine (K.out _).mono ?_
  rintro e w1 ⟨rfl, h1⟩
  obtain ⟨r0, r1, d0, d1, c0, c1, _⟩ := At.call h1 (At.new2 (At.new2 (At.new2 (w := w) (l := []) trivial _ _ _ w.heap.size rfl) _ _ _ (w.heap.size + 1) (by simp)) _ _ _ (w.heap.size + 1 + 1) (by simp))
  obtain ⟨⟨f0, _⟩, ⟨f1, _⟩, _⟩ := Free.call h1 (Free.new2 (w := (w.alloc _).alloc _) (l := []) trivial _ _ _ (w.heap.size + 1 + 1) (by simp))
  have H1 := Lib.hid h1; clear h1
  go_wp2_with fail
  obtain ⟨q0, q1, _⟩ := At.set2 r0 r1 (l := []) trivial (by simp) (.int .u64 lo) (.int .u64 hi)
  refine bodyPost_ret (v := .tuple #[.agg #[.int .u64 lo, .int .u64 hi], .bool true]) (by simp [results, Tryd.results21, go_sem, q0, q1]) rfl ⟨rfl, ?_⟩
  exact below_set (below_set (keep_below (below_alloc (below_alloc (below_alloc (Below.refl _ _) _) _) _) (by simp) H1.out) (by omega) _ _) (by omega) _ _

set_option maxRecDepth 100000 in
theorem refJoin_no (a b c d : Int) (w : World) (hb : 0 ≤ b) (hc : c ≤ 18446744073709551615) (hd : 0 ≤ d) (ha : a ≤ 18446744073709551615) (h : relN a b c d = 0 ∨ relN a b c d = 4) :
    Calls Tryd.prog 21 #[.agg #[.int .u64 a, .int .u64 b], .agg #[.int .u64 c, .int .u64 d]] w (IsIv 0 0 false w) := by
  have K := Lib.hid (fun w => refRelate_any a b c d w hb hc hd ha)
  rcases h with h | h
  all_goals
    rw [h] at K
    clear hb hc hd ha h
    go_enter Tryd.func21, Tryd.ntmps21
    go_wp2_with fail
    refine (K.out _).mono ?_
    rintro e w1 ⟨rfl, h1⟩
    obtain ⟨r0, r1, _⟩ := At.call h1 (At.new2 (w := (w.alloc _).alloc _) (l := []) trivial _ _ _ (w.heap.size + 1 + 1) (by simp))
    obtain ⟨⟨f0, _⟩, ⟨f1, _⟩, _⟩ := Free.call h1 (Free.new2 (w := (w.alloc _).alloc _) (l := []) trivial _ _ _ (w.heap.size + 1 + 1) (by simp))
    have H1 := Lib.hid h1; clear h1
    go_wp2_with fail
    obtain ⟨q0, q1, _⟩ := At.set2 r0 r1 (l := []) trivial (by simp) (.int .u64 0) (.int .u64 0)
    refine bodyPost_ret (v := .tuple #[.agg #[.int .u64 0, .int .u64 0], .bool false]) (by simp [results, Tryd.results21, go_sem, q0, q1]) rfl ⟨rfl, ?_⟩
    exact below_set (below_set (keep_below (below_alloc (below_alloc (below_alloc (Below.refl _ _) _) _) _) (by simp) H1.out) (by omega) _ _) (by omega) _ _
end Go.Proofs.YtciinnkcjiibfaaDoor
