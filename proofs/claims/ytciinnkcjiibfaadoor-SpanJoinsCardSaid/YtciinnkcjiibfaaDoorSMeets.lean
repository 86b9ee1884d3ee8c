/- SpanMeets returns true for all intervals of numbers of 64 bits. Condition: the variable errors.errorType holds the type error. -/
import Derived.Test.YtciinnkcjiibfaaDoorSRelates
import Derived.Test.YtciinnkcjiibfaaDoorRegion
namespace Go.Proofs.YtciinnkcjiibfaaDoor
open Go.RowKit

theorem hasR (a b x : Int) (r : Bool) (w : World) (h : hasB a b x = r) :
    Calls Tryd.prog 15 #[.agg #[.int .u64 a, .int .u64 b], .int .u64 x] w (IsEnd r w) := by
  subst h; exact refHas_any a b x w
theorem meet_has {a b c d lo hi : Int} (x : Int) (hlo : (if a < c then c else a) = lo) (hhi : (if d < b then d else b) = hi) : hasB lo hi x = (hasB a b x && hasB c d x) := by
  subst hlo hhi
  unfold hasB
  rw [Bool.eq_iff_iff]
  simp
  split <;> split <;> omega
theorem meet_none {a b c d : Int} (x : Int) (h : b < c ∨ d < a) : (hasB a b x && hasB c d x) = false := by
  unfold hasB
  rw [Bool.eq_iff_iff]
  simp
  omega

theorem keep_eight {W w1 w2 : World} {k m n p : Nat} {a b c d x y u v : Value}
    (h : Below W.heap.size W w1 ∧ w1.cell? ⟨k, 0, none⟩ = some a ∧ w1.cell? ⟨k, 1, none⟩ = some b ∧ w1.cell? ⟨m, 0, none⟩ = some c ∧ w1.cell? ⟨m, 1, none⟩ = some d ∧ w1.cell? ⟨n, 0, none⟩ = some x ∧ w1.cell? ⟨n, 1, none⟩ = some y ∧ w1.cell? ⟨p, 0, none⟩ = some u ∧ w1.cell? ⟨p, 1, none⟩ = some v)
    (hb : Hid (Below w1.heap.size w1 w2)) :
    Below W.heap.size W w2 ∧ w2.cell? ⟨k, 0, none⟩ = some a ∧ w2.cell? ⟨k, 1, none⟩ = some b ∧ w2.cell? ⟨m, 0, none⟩ = some c ∧ w2.cell? ⟨m, 1, none⟩ = some d ∧ w2.cell? ⟨n, 0, none⟩ = some x ∧ w2.cell? ⟨n, 1, none⟩ = some y ∧ w2.cell? ⟨p, 0, none⟩ = some u ∧ w2.cell? ⟨p, 1, none⟩ = some v :=
  ⟨below_call h.1 hb.out, keep_cell h.2.1 hb.out, keep_cell h.2.2.1 hb.out, keep_cell h.2.2.2.1 hb.out, keep_cell h.2.2.2.2.1 hb.out, keep_cell h.2.2.2.2.2.1 hb.out, keep_cell h.2.2.2.2.2.2.1 hb.out, keep_cell h.2.2.2.2.2.2.2.1 hb.out, keep_cell h.2.2.2.2.2.2.2.2 hb.out⟩
theorem keep_eight_drew {W w1 : World} {k m n p : Nat} {a b c d x y u v : Value}
    (h : Below W.heap.size W w1 ∧ w1.cell? ⟨k, 0, none⟩ = some a ∧ w1.cell? ⟨k, 1, none⟩ = some b ∧ w1.cell? ⟨m, 0, none⟩ = some c ∧ w1.cell? ⟨m, 1, none⟩ = some d ∧ w1.cell? ⟨n, 0, none⟩ = some x ∧ w1.cell? ⟨n, 1, none⟩ = some y ∧ w1.cell? ⟨p, 0, none⟩ = some u ∧ w1.cell? ⟨p, 1, none⟩ = some v) :
    Below W.heap.size W w1.drew ∧ w1.drew.cell? ⟨k, 0, none⟩ = some a ∧ w1.drew.cell? ⟨k, 1, none⟩ = some b ∧ w1.drew.cell? ⟨m, 0, none⟩ = some c ∧ w1.drew.cell? ⟨m, 1, none⟩ = some d ∧ w1.drew.cell? ⟨n, 0, none⟩ = some x ∧ w1.drew.cell? ⟨n, 1, none⟩ = some y ∧ w1.drew.cell? ⟨p, 0, none⟩ = some u ∧ w1.drew.cell? ⟨p, 1, none⟩ = some v :=
  keep_eight h (Below.refl _ _).drew

set_option maxRecDepth 100000 in
theorem meets_wrong1 (a b c d x : Int) (w : World) (hg : ErrT w) (h : ¬ a ≤ b) :
    Calls Tryd.prog 5 #[.agg #[.int .u64 a, .int .u64 b], .agg #[.int .u64 c, .int .u64 d], .int .u64 x] w (IsEnd true w) := by
  have k1 := fun w => right_any a b w
  rw [show decide (a ≤ b) = false from by simpa using h] at k1
  have K1 := Lib.hid k1; clear k1
  have K5 := Lib.hid alive_any
  have Hg := Lib.hid hg; clear hg h
  go_enter Tryd.func5, Tryd.ntmps5
  go_wp2_with fail
  refine (K1.out _).mono ?_
  rintro e w1 ⟨rfl, h1⟩
  have S1 := Lib.hid ((Kp.two w _ _ _ _ _ _).call h1); clear h1
  go_wp2_with fail
  refine (K5.out _ (Hg.out.here S1.out.1)).mono ?_
  rintro e w3 ⟨rfl, h3⟩
  have S3 := Lib.hid (S1.out.call h3); clear h3 S1
  go_wp2_with fail
  go_ret
  exact ⟨rfl, S3.out.1⟩

set_option maxRecDepth 100000 in
theorem meets_wrong2 (a b c d x : Int) (w : World) (hg : ErrT w) (h1 : a ≤ b) (h : ¬ c ≤ d) :
    Calls Tryd.prog 5 #[.agg #[.int .u64 a, .int .u64 b], .agg #[.int .u64 c, .int .u64 d], .int .u64 x] w (IsEnd true w) := by
  have k1 := fun w => right_any a b w
  rw [show decide (a ≤ b) = true from by simpa using h1] at k1
  have K1 := Lib.hid k1; clear k1
  have k2 := fun w => right_any c d w
  rw [show decide (c ≤ d) = false from by simpa using h] at k2
  have K2 := Lib.hid k2; clear k2
  have K5 := Lib.hid alive_any
  have Hg := Lib.hid hg; clear hg h h1
  go_enter Tryd.func5, Tryd.ntmps5
  go_wp2_with fail
  refine (K1.out _).mono ?_
  rintro e w1 ⟨rfl, h1⟩
  have S1 := Lib.hid ((Kp.two w _ _ _ _ _ _).call h1); clear h1
  obtain ⟨_, c0, c1, a0, a1, _⟩ := S1.out
  go_wp2_with fail
  refine (K2.out _).mono ?_
  rintro e w2 ⟨rfl, h2⟩
  have S2 := Lib.hid (S1.out.call h2); clear h2 S1 c0 c1 a0 a1
  go_wp2_with fail
  refine (K5.out _ (Hg.out.here S2.out.1)).mono ?_
  rintro e w3 ⟨rfl, h3⟩
  have S3 := Lib.hid (S2.out.call h3); clear h3 S2
  go_wp2_with fail
  go_ret
  exact ⟨rfl, S3.out.1⟩

set_option maxRecDepth 100000 in
set_option maxHeartbeats 2000000 in
theorem meets_yes1 (a b c d x lo hi : Int) (w : World) (hg : ErrT w) (ha : 0 ≤ a ∧ a ≤ 18446744073709551615) (hb : 0 ≤ b ∧ b ≤ 18446744073709551615) (hc : 0 ≤ c ∧ c ≤ 18446744073709551615) (hd : 0 ≤ d ∧ d ≤ 18446744073709551615) (h1 : a ≤ b) (h2 : c ≤ d) (hlo : (if a < c then c else a) = lo) (hhi : (if d < b then d else b) = hi) (hm : lo ≤ hi) (hn : ¬ b < c ∧ ¬ d < a) (hp : hasB a b x = true) :
    Calls Tryd.prog 5 #[.agg #[.int .u64 a, .int .u64 b], .agg #[.int .u64 c, .int .u64 d], .int .u64 x] w (IsEnd true w) := by
  have k1 := fun w => right_any a b w
  rw [show decide (a ≤ b) = true from by simpa using h1] at k1
  have K1 := Lib.hid k1; clear k1
  have k2 := fun w => right_any c d w
  rw [show decide (c ≤ d) = true from by simpa using h2] at k2
  have K2 := Lib.hid k2; clear k2
  have K5 := Lib.hid alive_any
  obtain ⟨q, hq⟩ : ∃ q, hasB c d x = q := ⟨_, rfl⟩
  have K3 := Lib.hid (fun w => meet_yes a b c d lo hi w hlo hhi hm)
  have K4 := Lib.hid (fun w => refMeet_yes a b c d lo hi w hlo hhi hb.1 hc.2 hd.1 ha.2 hn.1 hn.2)
  have hh := meet_has x hlo hhi
  rw [hq] at hh
  rw [hp, Bool.true_and] at hh
  clear hlo hhi hm hn
  have K6 := Lib.hid hasR
  have Hg := Lib.hid hg
  clear hg h1 h2 ha hb hc hd
  go_enter Tryd.func5, Tryd.ntmps5
  go_wp2_with fail
  refine (K1.out _).mono ?_
  rintro e w1 ⟨rfl, h1⟩
  have S1 := Lib.hid ((Kp.two w _ _ _ _ _ _).call h1); clear h1
  obtain ⟨_, c0, c1, a0, a1, _⟩ := S1.out
  go_wp2_with fail
  refine (K2.out _).mono ?_
  rintro e w2 ⟨rfl, h2⟩
  have S2 := Lib.hid (S1.out.call h2); clear h2 S1 c0 c1 a0 a1
  obtain ⟨_, c0, c1, a0, a1, _⟩ := S2.out
  go_wp2_with fail
  refine (K3.out _).mono ?_
  rintro e w3 ⟨rfl, h3⟩
  have S3 := Lib.hid ((S2.out.call h3).new2 (.int .u64 lo) (.int .u64 hi) 24 _ rfl); clear h3 S2 c0 c1 a0 a1
  obtain ⟨_, m0, m1, c0, c1, a0, a1, _⟩ := S3.out
  go_wp2_with fail
  refine (K4.out _).mono ?_
  rintro e w4 ⟨rfl, h4⟩
  have S4 := Lib.hid ((S3.out.call h4).new2 (.int .u64 lo) (.int .u64 hi) 24 _ rfl); clear h4 S3 m0 m1 c0 c1 a0 a1
  have hs : Below w.heap.size w (w4.alloc (.cells #[.int .u64 lo, .int .u64 hi] 24)) ∧ (w4.alloc (.cells #[.int .u64 lo, .int .u64 hi] 24)).cell? ⟨w.heap.size + 1, 0, none⟩ = some (.int .u64 c) ∧ (w4.alloc (.cells #[.int .u64 lo, .int .u64 hi] 24)).cell? ⟨w.heap.size + 1, 1, none⟩ = some (.int .u64 d) ∧ (w4.alloc (.cells #[.int .u64 lo, .int .u64 hi] 24)).cell? ⟨w.heap.size, 0, none⟩ = some (.int .u64 a) ∧ (w4.alloc (.cells #[.int .u64 lo, .int .u64 hi] 24)).cell? ⟨w.heap.size, 1, none⟩ = some (.int .u64 b) ∧ (w4.alloc (.cells #[.int .u64 lo, .int .u64 hi] 24)).cell? ⟨w3.heap.size, 0, none⟩ = some (.int .u64 lo) ∧ (w4.alloc (.cells #[.int .u64 lo, .int .u64 hi] 24)).cell? ⟨w3.heap.size, 1, none⟩ = some (.int .u64 hi) ∧ (w4.alloc (.cells #[.int .u64 lo, .int .u64 hi] 24)).cell? ⟨w4.heap.size, 0, none⟩ = some (.int .u64 lo) ∧ (w4.alloc (.cells #[.int .u64 lo, .int .u64 hi] 24)).cell? ⟨w4.heap.size, 1, none⟩ = some (.int .u64 hi) := by
    obtain ⟨q, n0, n1, m0, m1, c0, c1, a0, a1, _⟩ := S4.out
    exact ⟨q, c0, c1, a0, a1, m0, m1, n0, n1⟩
  have HS := Lib.hid hs; clear hs
  go_wp2_with fail
  go_region_held3 (fun w' => Below w.heap.size w w' ∧ w'.cell? ⟨w.heap.size + 1, 0, none⟩ = some (.int .u64 c) ∧ w'.cell? ⟨w.heap.size + 1, 1, none⟩ = some (.int .u64 d) ∧ w'.cell? ⟨w.heap.size, 0, none⟩ = some (.int .u64 a) ∧ w'.cell? ⟨w.heap.size, 1, none⟩ = some (.int .u64 b) ∧ w'.cell? ⟨w3.heap.size, 0, none⟩ = some (.int .u64 lo) ∧ w'.cell? ⟨w3.heap.size, 1, none⟩ = some (.int .u64 hi) ∧ w'.cell? ⟨w4.heap.size, 0, none⟩ = some (.int .u64 lo) ∧ w'.cell? ⟨w4.heap.size, 1, none⟩ = some (.int .u64 hi))
    (first
      | exact keep_eight (by assumption) (by assumption)
      | exact keep_eight_drew (by assumption)
      | exact HS.out
      | assumption)
    (first
      | (go_at_call 11; refine (K5.out _ (Hg.out.here (by first | exact (‹Below w.heap.size w _ ∧ _›).1))).mono ?_; rintro en w' ⟨rfl, hb4'⟩; have hb4 := Lib.hid hb4'; clear hb4')
      | (go_at_call 15; refine (K6.out _ _ _ _ _ (by assumption)).mono ?_; rintro en w' ⟨rfl, hb4'⟩; have hb4 := Lib.hid hb4'; clear hb4'))
  all_goals
    rename_i hE
    go_wp2_with fail
    go_ret
    exact ⟨rfl, hE.1⟩

set_option maxRecDepth 100000 in
set_option maxHeartbeats 2000000 in
theorem meets_yes0 (a b c d x lo hi : Int) (w : World) (hg : ErrT w) (ha : 0 ≤ a ∧ a ≤ 18446744073709551615) (hb : 0 ≤ b ∧ b ≤ 18446744073709551615) (hc : 0 ≤ c ∧ c ≤ 18446744073709551615) (hd : 0 ≤ d ∧ d ≤ 18446744073709551615) (h1 : a ≤ b) (h2 : c ≤ d) (hlo : (if a < c then c else a) = lo) (hhi : (if d < b then d else b) = hi) (hm : lo ≤ hi) (hn : ¬ b < c ∧ ¬ d < a) (hp : hasB a b x = false) :
    Calls Tryd.prog 5 #[.agg #[.int .u64 a, .int .u64 b], .agg #[.int .u64 c, .int .u64 d], .int .u64 x] w (IsEnd true w) := by
  have k1 := fun w => right_any a b w
  rw [show decide (a ≤ b) = true from by simpa using h1] at k1
  have K1 := Lib.hid k1; clear k1
  have k2 := fun w => right_any c d w
  rw [show decide (c ≤ d) = true from by simpa using h2] at k2
  have K2 := Lib.hid k2; clear k2
  have K5 := Lib.hid alive_any
  obtain ⟨q, hq⟩ : ∃ q, hasB c d x = q := ⟨_, rfl⟩
  have K3 := Lib.hid (fun w => meet_yes a b c d lo hi w hlo hhi hm)
  have K4 := Lib.hid (fun w => refMeet_yes a b c d lo hi w hlo hhi hb.1 hc.2 hd.1 ha.2 hn.1 hn.2)
  have hh := meet_has x hlo hhi
  rw [hq] at hh
  rw [hp, Bool.false_and] at hh
  clear hlo hhi hm hn
  have K6 := Lib.hid hasR
  have Hg := Lib.hid hg
  clear hg h1 h2 ha hb hc hd
  go_enter Tryd.func5, Tryd.ntmps5
  go_wp2_with fail
  refine (K1.out _).mono ?_
  rintro e w1 ⟨rfl, h1⟩
  have S1 := Lib.hid ((Kp.two w _ _ _ _ _ _).call h1); clear h1
  obtain ⟨_, c0, c1, a0, a1, _⟩ := S1.out
  go_wp2_with fail
  refine (K2.out _).mono ?_
  rintro e w2 ⟨rfl, h2⟩
  have S2 := Lib.hid (S1.out.call h2); clear h2 S1 c0 c1 a0 a1
  obtain ⟨_, c0, c1, a0, a1, _⟩ := S2.out
  go_wp2_with fail
  refine (K3.out _).mono ?_
  rintro e w3 ⟨rfl, h3⟩
  have S3 := Lib.hid ((S2.out.call h3).new2 (.int .u64 lo) (.int .u64 hi) 24 _ rfl); clear h3 S2 c0 c1 a0 a1
  obtain ⟨_, m0, m1, c0, c1, a0, a1, _⟩ := S3.out
  go_wp2_with fail
  refine (K4.out _).mono ?_
  rintro e w4 ⟨rfl, h4⟩
  have S4 := Lib.hid ((S3.out.call h4).new2 (.int .u64 lo) (.int .u64 hi) 24 _ rfl); clear h4 S3 m0 m1 c0 c1 a0 a1
  have hs : Below w.heap.size w (w4.alloc (.cells #[.int .u64 lo, .int .u64 hi] 24)) ∧ (w4.alloc (.cells #[.int .u64 lo, .int .u64 hi] 24)).cell? ⟨w.heap.size + 1, 0, none⟩ = some (.int .u64 c) ∧ (w4.alloc (.cells #[.int .u64 lo, .int .u64 hi] 24)).cell? ⟨w.heap.size + 1, 1, none⟩ = some (.int .u64 d) ∧ (w4.alloc (.cells #[.int .u64 lo, .int .u64 hi] 24)).cell? ⟨w.heap.size, 0, none⟩ = some (.int .u64 a) ∧ (w4.alloc (.cells #[.int .u64 lo, .int .u64 hi] 24)).cell? ⟨w.heap.size, 1, none⟩ = some (.int .u64 b) ∧ (w4.alloc (.cells #[.int .u64 lo, .int .u64 hi] 24)).cell? ⟨w3.heap.size, 0, none⟩ = some (.int .u64 lo) ∧ (w4.alloc (.cells #[.int .u64 lo, .int .u64 hi] 24)).cell? ⟨w3.heap.size, 1, none⟩ = some (.int .u64 hi) ∧ (w4.alloc (.cells #[.int .u64 lo, .int .u64 hi] 24)).cell? ⟨w4.heap.size, 0, none⟩ = some (.int .u64 lo) ∧ (w4.alloc (.cells #[.int .u64 lo, .int .u64 hi] 24)).cell? ⟨w4.heap.size, 1, none⟩ = some (.int .u64 hi) := by
    obtain ⟨q, n0, n1, m0, m1, c0, c1, a0, a1, _⟩ := S4.out
    exact ⟨q, c0, c1, a0, a1, m0, m1, n0, n1⟩
  have HS := Lib.hid hs; clear hs
  go_wp2_with fail
  refine wp_region_held_drew (S := (fun w' => Below w.heap.size w w' ∧ w'.cell? ⟨w.heap.size + 1, 0, none⟩ = some (.int .u64 c) ∧ w'.cell? ⟨w.heap.size + 1, 1, none⟩ = some (.int .u64 d) ∧ w'.cell? ⟨w.heap.size, 0, none⟩ = some (.int .u64 a) ∧ w'.cell? ⟨w.heap.size, 1, none⟩ = some (.int .u64 b) ∧ w'.cell? ⟨w3.heap.size, 0, none⟩ = some (.int .u64 lo) ∧ w'.cell? ⟨w3.heap.size, 1, none⟩ = some (.int .u64 hi) ∧ w'.cell? ⟨w4.heap.size, 0, none⟩ = some (.int .u64 lo) ∧ w'.cell? ⟨w4.heap.size, 1, none⟩ = some (.int .u64 hi))) (by kernel_rfl) (keep_eight_drew HS.out) (fun hHeld => ?_)
  refine wpAnyH_ready (rs := [0]) (by kernel_rfl) (by simp) (AllReadyH.cons (o := { dst := some 32, op := Op.call { callee := Callee.value (Operand.func 11), args := #[], argTypes := #[] }, type := 4, pos := _, after := #[], guard := none }) rfl (fun K hK => ?_) AllReadyH.nil)
  go_simp
  refine (K5.out _ (Hg.out.here hHeld.1)).mono ?_
  rintro en wN ⟨rfl, hbN⟩
  have hbH := Lib.hid hbN; clear hbN
  go_wp2_with fail
  refine hK.out _ _ (keep_eight hHeld hbH) (fun hNew => ?_)
  clear hK K hHeld hbH
  have hHeld := hNew; clear hNew
  try simp only [Act.put, List.setIfInBounds_toArray, List.set_cons_zero, List.set_cons_succ]
  refine rtake (i := 1) (v := ?_) { dst := some 33, op := Op.move (Operand.tmp 32), type := 4, pos := _, after := #[{ on := 0, ground := Ground.data }, { on := 0, ground := Ground.chain }], guard := none } rfl (by kernel_rfl) (by kernel_rfl) (by kernel_rfl) (fun _ _ _ h => h) (by rfl) hHeld ?_ ?_
  rotate_left
  · intro wS hSw; (try dsimp only at hSw); go_simp <;> with_reducible rfl
  try simp only [Act.put, List.setIfInBounds_toArray, List.set_cons_zero, List.set_cons_succ]
  refine rtake (i := 2) (v := ?_) { dst := some 34, op := Op.load 24 (Operand.tmp 7), type := 24, pos := _, after := #[{ on := 1, ground := Ground.guard }], guard := some (1, true) } rfl (by kernel_rfl) (by kernel_rfl) (by kernel_rfl) (fun _ _ _ h => h) (by rfl) hHeld ?_ ?_
  rotate_left
  · intro wS hSw; (try dsimp only at hSw); go_simp <;> with_reducible rfl
  try simp only [Act.put, List.setIfInBounds_toArray, List.set_cons_zero, List.set_cons_succ]
  refine rtake (i := 3) (v := ?_) { dst := some 35, op := Op.load 24 (Operand.tmp 9), type := 24, pos := _, after := #[{ on := 1, ground := Ground.guard }], guard := some (1, true) } rfl (by kernel_rfl) (by kernel_rfl) (by kernel_rfl) (fun _ _ _ h => h) (by rfl) hHeld ?_ ?_
  rotate_left
  · intro wS hSw; (try dsimp only at hSw); go_simp <;> with_reducible rfl
  try simp only [Act.put, List.setIfInBounds_toArray, List.set_cons_zero, List.set_cons_succ]
  refine rtake (i := 4) (v := ?_) { dst := some 36, op := Op.binOp BinOp.eql 24 (Operand.tmp 34) (Operand.tmp 35) 24, type := 4, pos := _, after := #[{ on := 2, ground := Ground.data }, { on := 3, ground := Ground.data }, { on := 1, ground := Ground.guard }], guard := some (1, true) } rfl (by kernel_rfl) (by kernel_rfl) (by kernel_rfl) (fun _ _ _ h => h) (by rfl) hHeld ?_ ?_
  rotate_left
  · intro wS hSw; (try dsimp only at hSw); go_simp <;> with_reducible rfl
  try simp only [Act.put, List.setIfInBounds_toArray, List.set_cons_zero, List.set_cons_succ]
  refine rtake (i := 5) (v := ?_) { dst := some 37, op := Op.pick (Operand.tmp 33) (Operand.tmp 36) (Operand.const (Value.bool false)), type := 4, pos := _, after := #[{ on := 1, ground := Ground.data }, { on := 4, ground := Ground.data }], guard := none } rfl (by kernel_rfl) (by kernel_rfl) (by kernel_rfl) (fun _ _ _ h => h) (by rfl) hHeld ?_ ?_
  rotate_left
  · intro wS hSw; (try dsimp only at hSw); go_simp <;> with_reducible rfl
  try simp only [Act.put, List.setIfInBounds_toArray, List.set_cons_zero, List.set_cons_succ]
  refine rtake (i := 6) (v := ?_) { dst := some 38, op := Op.move (Operand.tmp 37), type := 4, pos := _, after := #[{ on := 5, ground := Ground.data }, { on := 1, ground := Ground.chain }], guard := none } rfl (by kernel_rfl) (by kernel_rfl) (by kernel_rfl) (fun _ _ _ h => h) (by rfl) hHeld ?_ ?_
  rotate_left
  · intro wS hSw; (try dsimp only at hSw); go_simp <;> with_reducible rfl
  try simp only [Act.put, List.setIfInBounds_toArray, List.set_cons_zero, List.set_cons_succ]
  refine rtake (i := 7) (v := ?_) { dst := some 39, op := Op.move (Operand.tmp 8), type := 4, pos := _, after := #[{ on := 6, ground := Ground.guard }], guard := some (6, true) } rfl (by kernel_rfl) (by kernel_rfl) (by kernel_rfl) (fun _ _ _ h => h) (by rfl) hHeld ?_ ?_
  rotate_left
  · intro wS hSw; (try dsimp only at hSw); go_simp <;> with_reducible rfl
  try simp only [Act.put, List.setIfInBounds_toArray, List.set_cons_zero, List.set_cons_succ]
  refine rtake (i := 8) (v := ?_) { dst := some 40, op := Op.move (Operand.tmp 10), type := 4, pos := _, after := #[{ on := 6, ground := Ground.guard }], guard := some (6, true) } rfl (by kernel_rfl) (by kernel_rfl) (by kernel_rfl) (fun _ _ _ h => h) (by rfl) hHeld ?_ ?_
  rotate_left
  · intro wS hSw; (try dsimp only at hSw); go_simp <;> with_reducible rfl
  try simp only [Act.put, List.setIfInBounds_toArray, List.set_cons_zero, List.set_cons_succ]
  refine rtake (i := 9) (v := ?_) { dst := some 41, op := Op.binOp BinOp.eql 4 (Operand.tmp 39) (Operand.tmp 40) 4, type := 4, pos := _, after := #[{ on := 7, ground := Ground.data }, { on := 8, ground := Ground.data }, { on := 6, ground := Ground.guard }], guard := some (6, true) } rfl (by kernel_rfl) (by kernel_rfl) (by kernel_rfl) (fun _ _ _ h => h) (by rfl) hHeld ?_ ?_
  rotate_left
  · intro wS hSw; (try dsimp only at hSw); go_simp <;> with_reducible rfl
  try simp only [Act.put, List.setIfInBounds_toArray, List.set_cons_zero, List.set_cons_succ]
  refine rtake (i := 10) (v := ?_) { dst := some 42, op := Op.pick (Operand.tmp 38) (Operand.tmp 41) (Operand.const (Value.bool false)), type := 4, pos := _, after := #[{ on := 6, ground := Ground.data }, { on := 9, ground := Ground.data }], guard := none } rfl (by kernel_rfl) (by kernel_rfl) (by kernel_rfl) (fun _ _ _ h => h) (by rfl) hHeld ?_ ?_
  rotate_left
  · intro wS hSw; (try dsimp only at hSw); go_simp <;> with_reducible rfl
  try simp only [Act.put, List.setIfInBounds_toArray, List.set_cons_zero, List.set_cons_succ]
  refine rtake (i := 11) (v := ?_) { dst := some 43, op := Op.move (Operand.tmp 42), type := 4, pos := _, after := #[{ on := 10, ground := Ground.data }, { on := 6, ground := Ground.chain }], guard := none } rfl (by kernel_rfl) (by kernel_rfl) (by kernel_rfl) (fun _ _ _ h => h) (by rfl) hHeld ?_ ?_
  rotate_left
  · intro wS hSw; (try dsimp only at hSw); go_simp <;> with_reducible rfl
  try simp only [Act.put, List.setIfInBounds_toArray, List.set_cons_zero, List.set_cons_succ]
  refine rtake (i := 12) (v := ?_) { dst := some 44, op := Op.move (Operand.tmp 8), type := 4, pos := _, after := #[{ on := 11, ground := Ground.guard }], guard := some (11, true) } rfl (by kernel_rfl) (by kernel_rfl) (by kernel_rfl) (fun _ _ _ h => h) (by rfl) hHeld ?_ ?_
  rotate_left
  · intro wS hSw; (try dsimp only at hSw); go_simp <;> with_reducible rfl
  try simp only [Act.put, List.setIfInBounds_toArray, List.set_cons_zero, List.set_cons_succ]
  refine rtake (i := 13) (v := ?_) { dst := some 45, op := Op.move (Operand.tmp 44), type := 4, pos := _, after := #[{ on := 12, ground := Ground.data }, { on := 11, ground := Ground.chain }, { on := 11, ground := Ground.guard }], guard := some (11, true) } rfl (by kernel_rfl) (by kernel_rfl) (by kernel_rfl) (fun _ _ _ h => h) (by rfl) hHeld ?_ ?_
  rotate_left
  · intro wS hSw; (try dsimp only at hSw); go_simp <;> with_reducible rfl
  try simp only [Act.put, List.setIfInBounds_toArray, List.set_cons_zero, List.set_cons_succ]
  refine rtake (i := 14) (v := ?_) { dst := some 46, op := Op.load 24 (Operand.tmp 7), type := 24, pos := _, after := #[{ on := 13, ground := Ground.guard }], guard := some (13, true) } rfl (by kernel_rfl) (by kernel_rfl) (by kernel_rfl) (fun _ _ _ h => h) (by rfl) hHeld ?_ ?_
  rotate_left
  · intro wS hSw; (try dsimp only at hSw); go_simp <;> with_reducible rfl
  try simp only [Act.put, List.setIfInBounds_toArray, List.set_cons_zero, List.set_cons_succ]
  refine rtake (i := 15) (v := ?_) { dst := some 47, op := Op.move (Operand.tmp 2), type := 22, pos := _, after := #[{ on := 13, ground := Ground.guard }], guard := some (13, true) } rfl (by kernel_rfl) (by kernel_rfl) (by kernel_rfl) (fun _ _ _ h => h) (by rfl) hHeld ?_ ?_
  rotate_left
  · intro wS hSw; (try dsimp only at hSw); go_simp <;> with_reducible rfl
  try simp only [Act.put, List.setIfInBounds_toArray, List.set_cons_zero, List.set_cons_succ]
  refine rtake (i := 18) (v := ?_) { dst := some 50, op := Op.load 24 (Operand.tmp 3), type := 24, pos := _, after := #[{ on := 11, ground := Ground.guard }], guard := some (11, true) } rfl (by kernel_rfl) (by kernel_rfl) (by kernel_rfl) (fun _ _ _ h => h) (by rfl) hHeld ?_ ?_
  rotate_left
  · intro wS hSw; (try dsimp only at hSw); go_simp <;> with_reducible rfl
  try simp only [Act.put, List.setIfInBounds_toArray, List.set_cons_zero, List.set_cons_succ]
  refine rtake (i := 19) (v := ?_) { dst := some 51, op := Op.move (Operand.tmp 2), type := 22, pos := _, after := #[{ on := 11, ground := Ground.guard }], guard := some (11, true) } rfl (by kernel_rfl) (by kernel_rfl) (by kernel_rfl) (fun _ _ _ h => h) (by rfl) hHeld ?_ ?_
  rotate_left
  · intro wS hSw; (try dsimp only at hSw); go_simp <;> with_reducible rfl
  try simp only [Act.put, List.setIfInBounds_toArray, List.set_cons_zero, List.set_cons_succ]
  refine wpAnyH_ready (rs := [16]) (by kernel_rfl) (by simp) (AllReadyH.cons (o := { dst := some 48, op := Op.call { callee := Callee.value (Operand.func 15), args := #[Operand.tmp 46, Operand.tmp 47], argTypes := #[24, 22] }, type := 4, pos := _, after := #[{ on := 14, ground := Ground.data }, { on := 15, ground := Ground.data }, { on := 13, ground := Ground.chain }, { on := 13, ground := Ground.guard }], guard := some (13, true) }) rfl (fun K hK => ?_) AllReadyH.nil)
  go_simp
  refine (K6.out _ _ _ _ _ (by assumption)).mono ?_
  rintro en wN ⟨rfl, hbN⟩
  have hbH := Lib.hid hbN; clear hbN
  go_wp2_with fail
  refine hK.out _ _ (keep_eight hHeld hbH) (fun hNew => ?_)
  clear hK K hHeld hbH
  have hHeld := hNew; clear hNew
  try simp only [Act.put, List.setIfInBounds_toArray, List.set_cons_zero, List.set_cons_succ]
  refine rtake (i := 17) (v := ?_) { dst := some 49, op := Op.pick (Operand.tmp 45) (Operand.tmp 48) (Operand.const (Value.bool false)), type := 4, pos := _, after := #[{ on := 13, ground := Ground.data }, { on := 16, ground := Ground.data }, { on := 11, ground := Ground.guard }], guard := some (11, true) } rfl (by kernel_rfl) (by kernel_rfl) (by kernel_rfl) (fun _ _ _ h => h) (by rfl) hHeld ?_ ?_
  rotate_left
  · intro wS hSw; (try dsimp only at hSw); go_simp <;> with_reducible rfl
  try simp only [Act.put, List.setIfInBounds_toArray, List.set_cons_zero, List.set_cons_succ]
  refine wpAnyH_ready (rs := [20]) (by kernel_rfl) (by simp) (AllReadyH.cons (o := { dst := some 52, op := Op.call { callee := Callee.value (Operand.func 15), args := #[Operand.tmp 50, Operand.tmp 51], argTypes := #[24, 22] }, type := 4, pos := _, after := #[{ on := 18, ground := Ground.data }, { on := 19, ground := Ground.data }, { on := 16, ground := Ground.chain }, { on := 11, ground := Ground.guard }], guard := some (11, true) }) rfl (fun K hK => ?_) AllReadyH.nil)
  go_simp
  refine (K6.out _ _ _ _ _ (by assumption)).mono ?_
  rintro en wN ⟨rfl, hbN⟩
  have hbH := Lib.hid hbN; clear hbN
  go_wp2_with fail
  refine hK.out _ _ (keep_eight hHeld hbH) (fun hNew => ?_)
  clear hK K hHeld hbH
  have hHeld := hNew; clear hNew
  try simp only [Act.put, List.setIfInBounds_toArray, List.set_cons_zero, List.set_cons_succ]
  refine rtake (i := 21) (v := ?_) { dst := some 53, op := Op.move (Operand.tmp 52), type := 4, pos := _, after := #[{ on := 20, ground := Ground.data }, { on := 20, ground := Ground.chain }, { on := 11, ground := Ground.guard }], guard := some (11, true) } rfl (by kernel_rfl) (by kernel_rfl) (by kernel_rfl) (fun _ _ _ h => h) (by rfl) hHeld ?_ ?_
  rotate_left
  · intro wS hSw; (try dsimp only at hSw); go_simp <;> with_reducible rfl
  try simp only [Act.put, List.setIfInBounds_toArray, List.set_cons_zero, List.set_cons_succ]
  refine rskip (i := 22) { dst := some 54, op := Op.load 24 (Operand.tmp 4), type := 24, pos := _, after := #[{ on := 21, ground := Ground.guard }], guard := some (21, true) } rfl (by kernel_rfl) (by kernel_rfl) (by kernel_rfl) (fun _ _ _ h => h) (by rfl) hHeld ?_
  try simp only [Act.put, List.setIfInBounds_toArray, List.set_cons_zero, List.set_cons_succ]
  refine rskip (i := 23) { dst := some 55, op := Op.move (Operand.tmp 2), type := 22, pos := _, after := #[{ on := 21, ground := Ground.guard }], guard := some (21, true) } rfl (by kernel_rfl) (by kernel_rfl) (by kernel_rfl) (fun _ _ _ h => h) (by rfl) hHeld ?_
  try simp only [Act.put, List.setIfInBounds_toArray, List.set_cons_zero, List.set_cons_succ]
  refine rskip (i := 24) { dst := some 56, op := Op.call { callee := Callee.value (Operand.func 15), args := #[Operand.tmp 54, Operand.tmp 55], argTypes := #[24, 22] }, type := 4, pos := _, after := #[{ on := 22, ground := Ground.data }, { on := 23, ground := Ground.data }, { on := 21, ground := Ground.chain }, { on := 21, ground := Ground.guard }], guard := some (21, true) } rfl (by kernel_rfl) (by kernel_rfl) (by kernel_rfl) (fun _ _ _ h => h) (by rfl) hHeld ?_
  try simp only [Act.put, List.setIfInBounds_toArray, List.set_cons_zero, List.set_cons_succ]
  refine rtake (i := 25) (v := ?_) { dst := some 57, op := Op.pick (Operand.tmp 53) (Operand.tmp 56) (Operand.const (Value.bool false)), type := 4, pos := _, after := #[{ on := 21, ground := Ground.data }, { on := 24, ground := Ground.data }, { on := 11, ground := Ground.guard }], guard := some (11, true) } rfl (by kernel_rfl) (by kernel_rfl) (by kernel_rfl) (fun _ _ _ h => h) (by rfl) hHeld ?_ ?_
  rotate_left
  · intro wS hSw; (try dsimp only at hSw); go_simp <;> with_reducible rfl
  try simp only [Act.put, List.setIfInBounds_toArray, List.set_cons_zero, List.set_cons_succ]
  refine rtake (i := 26) (v := ?_) { dst := some 58, op := Op.binOp BinOp.eql 4 (Operand.tmp 49) (Operand.tmp 57) 4, type := 4, pos := _, after := #[{ on := 17, ground := Ground.data }, { on := 25, ground := Ground.data }, { on := 11, ground := Ground.guard }], guard := some (11, true) } rfl (by kernel_rfl) (by kernel_rfl) (by kernel_rfl) (fun _ _ _ h => h) (by rfl) hHeld ?_ ?_
  rotate_left
  · intro wS hSw; (try dsimp only at hSw); go_simp <;> with_reducible rfl
  try simp only [Act.put, List.setIfInBounds_toArray, List.set_cons_zero, List.set_cons_succ]
  refine rtake (i := 27) (v := ?_) { dst := some 59, op := Op.pick (Operand.tmp 43) (Operand.tmp 58) (Operand.const (Value.bool false)), type := 4, pos := _, after := #[{ on := 11, ground := Ground.data }, { on := 26, ground := Ground.data }], guard := none } rfl (by kernel_rfl) (by kernel_rfl) (by kernel_rfl) (fun _ _ _ h => h) (by rfl) hHeld ?_ ?_
  rotate_left
  · intro wS hSw; (try dsimp only at hSw); go_simp <;> with_reducible rfl
  try simp only [Act.put, List.setIfInBounds_toArray, List.set_cons_zero, List.set_cons_succ]
  refine rtake (i := 28) (v := ?_) { dst := some 6, op := Op.assign (Operand.tmp 59), type := 4, pos := _, after := #[{ on := 27, ground := Ground.data }, { on := 24, ground := Ground.chain }, { on := 0, ground := Ground.phase }, { on := 1, ground := Ground.phase }, { on := 2, ground := Ground.phase }, { on := 3, ground := Ground.phase }, { on := 4, ground := Ground.phase }, { on := 5, ground := Ground.phase }, { on := 6, ground := Ground.phase }, { on := 7, ground := Ground.phase }, { on := 8, ground := Ground.phase }, { on := 9, ground := Ground.phase }, { on := 10, ground := Ground.phase }, { on := 11, ground := Ground.phase }, { on := 12, ground := Ground.phase }, { on := 13, ground := Ground.phase }, { on := 14, ground := Ground.phase }, { on := 15, ground := Ground.phase }, { on := 16, ground := Ground.phase }, { on := 17, ground := Ground.phase }, { on := 18, ground := Ground.phase }, { on := 19, ground := Ground.phase }, { on := 20, ground := Ground.phase }, { on := 21, ground := Ground.phase }, { on := 22, ground := Ground.phase }, { on := 23, ground := Ground.phase }, { on := 24, ground := Ground.phase }, { on := 25, ground := Ground.phase }, { on := 26, ground := Ground.phase }, { on := 27, ground := Ground.phase }], guard := none } rfl (by kernel_rfl) (by kernel_rfl) (by kernel_rfl) (fun _ _ _ h => h) (by rfl) hHeld ?_ ?_
  rotate_left
  · intro wS hSw; (try dsimp only at hSw); go_simp <;> with_reducible rfl
  try simp only [Act.put, List.setIfInBounds_toArray, List.set_cons_zero, List.set_cons_succ]
  refine wpAnyH_done (by kernel_rfl) ?_ _
  go_wp2_with fail
  go_ret
  exact ⟨rfl, hHeld.1⟩

set_option maxRecDepth 100000 in
set_option maxHeartbeats 2000000 in
theorem meets_no1 (a b c d x : Int) (w : World) (hg : ErrT w) (ha : 0 ≤ a ∧ a ≤ 18446744073709551615) (hb : 0 ≤ b ∧ b ≤ 18446744073709551615) (hc : 0 ≤ c ∧ c ≤ 18446744073709551615) (hd : 0 ≤ d ∧ d ≤ 18446744073709551615) (h1 : a ≤ b) (h2 : c ≤ d) (hn : b < c ∨ d < a) (hp : hasB a b x = true) :
    Calls Tryd.prog 5 #[.agg #[.int .u64 a, .int .u64 b], .agg #[.int .u64 c, .int .u64 d], .int .u64 x] w (IsEnd true w) := by
  have k1 := fun w => right_any a b w
  rw [show decide (a ≤ b) = true from by simpa using h1] at k1
  have K1 := Lib.hid k1; clear k1
  have k2 := fun w => right_any c d w
  rw [show decide (c ≤ d) = true from by simpa using h2] at k2
  have K2 := Lib.hid k2; clear k2
  have K5 := Lib.hid alive_any
  obtain ⟨q, hq⟩ : ∃ q, hasB c d x = q := ⟨_, rfl⟩
  have k3 : ∀ w, Calls Tryd.prog 18 #[.agg #[.int .u64 a, .int .u64 b], .agg #[.int .u64 c, .int .u64 d]] w (IsIv 0 0 false w) := fun w => meet_no a b c d _ _ w rfl rfl (by split <;> split <;> omega)
  have K3 := Lib.hid k3; clear k3
  have K4 := Lib.hid (fun w => refMeet_no a b c d w hb.1 hc.2 hd.1 ha.2 hn)
  have hh := meet_none x hn
  rw [hq] at hh
  rw [hp, Bool.true_and] at hh
  clear hn
  have K6 := Lib.hid hasR
  have Hg := Lib.hid hg
  clear hg h1 h2 ha hb hc hd
  go_enter Tryd.func5, Tryd.ntmps5
  go_wp2_with fail
  refine (K1.out _).mono ?_
  rintro e w1 ⟨rfl, h1⟩
  have S1 := Lib.hid ((Kp.two w _ _ _ _ _ _).call h1); clear h1
  obtain ⟨_, c0, c1, a0, a1, _⟩ := S1.out
  go_wp2_with fail
  refine (K2.out _).mono ?_
  rintro e w2 ⟨rfl, h2⟩
  have S2 := Lib.hid (S1.out.call h2); clear h2 S1 c0 c1 a0 a1
  obtain ⟨_, c0, c1, a0, a1, _⟩ := S2.out
  go_wp2_with fail
  refine (K3.out _).mono ?_
  rintro e w3 ⟨rfl, h3⟩
  have S3 := Lib.hid ((S2.out.call h3).new2 (.int .u64 0) (.int .u64 0) 24 _ rfl); clear h3 S2 c0 c1 a0 a1
  obtain ⟨_, m0, m1, c0, c1, a0, a1, _⟩ := S3.out
  go_wp2_with fail
  refine (K4.out _).mono ?_
  rintro e w4 ⟨rfl, h4⟩
  have S4 := Lib.hid ((S3.out.call h4).new2 (.int .u64 0) (.int .u64 0) 24 _ rfl); clear h4 S3 m0 m1 c0 c1 a0 a1
  have hs : Below w.heap.size w (w4.alloc (.cells #[.int .u64 0, .int .u64 0] 24)) ∧ (w4.alloc (.cells #[.int .u64 0, .int .u64 0] 24)).cell? ⟨w.heap.size + 1, 0, none⟩ = some (.int .u64 c) ∧ (w4.alloc (.cells #[.int .u64 0, .int .u64 0] 24)).cell? ⟨w.heap.size + 1, 1, none⟩ = some (.int .u64 d) ∧ (w4.alloc (.cells #[.int .u64 0, .int .u64 0] 24)).cell? ⟨w.heap.size, 0, none⟩ = some (.int .u64 a) ∧ (w4.alloc (.cells #[.int .u64 0, .int .u64 0] 24)).cell? ⟨w.heap.size, 1, none⟩ = some (.int .u64 b) ∧ (w4.alloc (.cells #[.int .u64 0, .int .u64 0] 24)).cell? ⟨w3.heap.size, 0, none⟩ = some (.int .u64 0) ∧ (w4.alloc (.cells #[.int .u64 0, .int .u64 0] 24)).cell? ⟨w3.heap.size, 1, none⟩ = some (.int .u64 0) ∧ (w4.alloc (.cells #[.int .u64 0, .int .u64 0] 24)).cell? ⟨w4.heap.size, 0, none⟩ = some (.int .u64 0) ∧ (w4.alloc (.cells #[.int .u64 0, .int .u64 0] 24)).cell? ⟨w4.heap.size, 1, none⟩ = some (.int .u64 0) := by
    obtain ⟨q, n0, n1, m0, m1, c0, c1, a0, a1, _⟩ := S4.out
    exact ⟨q, c0, c1, a0, a1, m0, m1, n0, n1⟩
  have HS := Lib.hid hs; clear hs
  go_wp2_with fail
  refine wp_region_held_drew (S := (fun w' => Below w.heap.size w w' ∧ w'.cell? ⟨w.heap.size + 1, 0, none⟩ = some (.int .u64 c) ∧ w'.cell? ⟨w.heap.size + 1, 1, none⟩ = some (.int .u64 d) ∧ w'.cell? ⟨w.heap.size, 0, none⟩ = some (.int .u64 a) ∧ w'.cell? ⟨w.heap.size, 1, none⟩ = some (.int .u64 b) ∧ w'.cell? ⟨w3.heap.size, 0, none⟩ = some (.int .u64 0) ∧ w'.cell? ⟨w3.heap.size, 1, none⟩ = some (.int .u64 0) ∧ w'.cell? ⟨w4.heap.size, 0, none⟩ = some (.int .u64 0) ∧ w'.cell? ⟨w4.heap.size, 1, none⟩ = some (.int .u64 0))) (by kernel_rfl) (keep_eight_drew HS.out) (fun hHeld => ?_)
  refine wpAnyH_ready (rs := [0]) (by kernel_rfl) (by simp) (AllReadyH.cons (o := { dst := some 32, op := Op.call { callee := Callee.value (Operand.func 11), args := #[], argTypes := #[] }, type := 4, pos := _, after := #[], guard := none }) rfl (fun K hK => ?_) AllReadyH.nil)
  go_simp
  refine (K5.out _ (Hg.out.here hHeld.1)).mono ?_
  rintro en wN ⟨rfl, hbN⟩
  have hbH := Lib.hid hbN; clear hbN
  go_wp2_with fail
  refine hK.out _ _ (keep_eight hHeld hbH) (fun hNew => ?_)
  clear hK K hHeld hbH
  have hHeld := hNew; clear hNew
  try simp only [Act.put, List.setIfInBounds_toArray, List.set_cons_zero, List.set_cons_succ]
  refine rtake (i := 1) (v := ?_) { dst := some 33, op := Op.move (Operand.tmp 32), type := 4, pos := _, after := #[{ on := 0, ground := Ground.data }, { on := 0, ground := Ground.chain }], guard := none } rfl (by kernel_rfl) (by kernel_rfl) (by kernel_rfl) (fun _ _ _ h => h) (by rfl) hHeld ?_ ?_
  rotate_left
  · intro wS hSw; (try dsimp only at hSw); go_simp <;> with_reducible rfl
  try simp only [Act.put, List.setIfInBounds_toArray, List.set_cons_zero, List.set_cons_succ]
  refine rtake (i := 2) (v := ?_) { dst := some 34, op := Op.load 24 (Operand.tmp 7), type := 24, pos := _, after := #[{ on := 1, ground := Ground.guard }], guard := some (1, true) } rfl (by kernel_rfl) (by kernel_rfl) (by kernel_rfl) (fun _ _ _ h => h) (by rfl) hHeld ?_ ?_
  rotate_left
  · intro wS hSw; (try dsimp only at hSw); go_simp <;> with_reducible rfl
  try simp only [Act.put, List.setIfInBounds_toArray, List.set_cons_zero, List.set_cons_succ]
  refine rtake (i := 3) (v := ?_) { dst := some 35, op := Op.load 24 (Operand.tmp 9), type := 24, pos := _, after := #[{ on := 1, ground := Ground.guard }], guard := some (1, true) } rfl (by kernel_rfl) (by kernel_rfl) (by kernel_rfl) (fun _ _ _ h => h) (by rfl) hHeld ?_ ?_
  rotate_left
  · intro wS hSw; (try dsimp only at hSw); go_simp <;> with_reducible rfl
  try simp only [Act.put, List.setIfInBounds_toArray, List.set_cons_zero, List.set_cons_succ]
  refine rtake (i := 4) (v := ?_) { dst := some 36, op := Op.binOp BinOp.eql 24 (Operand.tmp 34) (Operand.tmp 35) 24, type := 4, pos := _, after := #[{ on := 2, ground := Ground.data }, { on := 3, ground := Ground.data }, { on := 1, ground := Ground.guard }], guard := some (1, true) } rfl (by kernel_rfl) (by kernel_rfl) (by kernel_rfl) (fun _ _ _ h => h) (by rfl) hHeld ?_ ?_
  rotate_left
  · intro wS hSw; (try dsimp only at hSw); go_simp <;> with_reducible rfl
  try simp only [Act.put, List.setIfInBounds_toArray, List.set_cons_zero, List.set_cons_succ]
  refine rtake (i := 5) (v := ?_) { dst := some 37, op := Op.pick (Operand.tmp 33) (Operand.tmp 36) (Operand.const (Value.bool false)), type := 4, pos := _, after := #[{ on := 1, ground := Ground.data }, { on := 4, ground := Ground.data }], guard := none } rfl (by kernel_rfl) (by kernel_rfl) (by kernel_rfl) (fun _ _ _ h => h) (by rfl) hHeld ?_ ?_
  rotate_left
  · intro wS hSw; (try dsimp only at hSw); go_simp <;> with_reducible rfl
  try simp only [Act.put, List.setIfInBounds_toArray, List.set_cons_zero, List.set_cons_succ]
  refine rtake (i := 6) (v := ?_) { dst := some 38, op := Op.move (Operand.tmp 37), type := 4, pos := _, after := #[{ on := 5, ground := Ground.data }, { on := 1, ground := Ground.chain }], guard := none } rfl (by kernel_rfl) (by kernel_rfl) (by kernel_rfl) (fun _ _ _ h => h) (by rfl) hHeld ?_ ?_
  rotate_left
  · intro wS hSw; (try dsimp only at hSw); go_simp <;> with_reducible rfl
  try simp only [Act.put, List.setIfInBounds_toArray, List.set_cons_zero, List.set_cons_succ]
  refine rtake (i := 7) (v := ?_) { dst := some 39, op := Op.move (Operand.tmp 8), type := 4, pos := _, after := #[{ on := 6, ground := Ground.guard }], guard := some (6, true) } rfl (by kernel_rfl) (by kernel_rfl) (by kernel_rfl) (fun _ _ _ h => h) (by rfl) hHeld ?_ ?_
  rotate_left
  · intro wS hSw; (try dsimp only at hSw); go_simp <;> with_reducible rfl
  try simp only [Act.put, List.setIfInBounds_toArray, List.set_cons_zero, List.set_cons_succ]
  refine rtake (i := 8) (v := ?_) { dst := some 40, op := Op.move (Operand.tmp 10), type := 4, pos := _, after := #[{ on := 6, ground := Ground.guard }], guard := some (6, true) } rfl (by kernel_rfl) (by kernel_rfl) (by kernel_rfl) (fun _ _ _ h => h) (by rfl) hHeld ?_ ?_
  rotate_left
  · intro wS hSw; (try dsimp only at hSw); go_simp <;> with_reducible rfl
  try simp only [Act.put, List.setIfInBounds_toArray, List.set_cons_zero, List.set_cons_succ]
  refine rtake (i := 9) (v := ?_) { dst := some 41, op := Op.binOp BinOp.eql 4 (Operand.tmp 39) (Operand.tmp 40) 4, type := 4, pos := _, after := #[{ on := 7, ground := Ground.data }, { on := 8, ground := Ground.data }, { on := 6, ground := Ground.guard }], guard := some (6, true) } rfl (by kernel_rfl) (by kernel_rfl) (by kernel_rfl) (fun _ _ _ h => h) (by rfl) hHeld ?_ ?_
  rotate_left
  · intro wS hSw; (try dsimp only at hSw); go_simp <;> with_reducible rfl
  try simp only [Act.put, List.setIfInBounds_toArray, List.set_cons_zero, List.set_cons_succ]
  refine rtake (i := 10) (v := ?_) { dst := some 42, op := Op.pick (Operand.tmp 38) (Operand.tmp 41) (Operand.const (Value.bool false)), type := 4, pos := _, after := #[{ on := 6, ground := Ground.data }, { on := 9, ground := Ground.data }], guard := none } rfl (by kernel_rfl) (by kernel_rfl) (by kernel_rfl) (fun _ _ _ h => h) (by rfl) hHeld ?_ ?_
  rotate_left
  · intro wS hSw; (try dsimp only at hSw); go_simp <;> with_reducible rfl
  try simp only [Act.put, List.setIfInBounds_toArray, List.set_cons_zero, List.set_cons_succ]
  refine rtake (i := 11) (v := ?_) { dst := some 43, op := Op.move (Operand.tmp 42), type := 4, pos := _, after := #[{ on := 10, ground := Ground.data }, { on := 6, ground := Ground.chain }], guard := none } rfl (by kernel_rfl) (by kernel_rfl) (by kernel_rfl) (fun _ _ _ h => h) (by rfl) hHeld ?_ ?_
  rotate_left
  · intro wS hSw; (try dsimp only at hSw); go_simp <;> with_reducible rfl
  try simp only [Act.put, List.setIfInBounds_toArray, List.set_cons_zero, List.set_cons_succ]
  refine rtake (i := 12) (v := ?_) { dst := some 44, op := Op.move (Operand.tmp 8), type := 4, pos := _, after := #[{ on := 11, ground := Ground.guard }], guard := some (11, true) } rfl (by kernel_rfl) (by kernel_rfl) (by kernel_rfl) (fun _ _ _ h => h) (by rfl) hHeld ?_ ?_
  rotate_left
  · intro wS hSw; (try dsimp only at hSw); go_simp <;> with_reducible rfl
  try simp only [Act.put, List.setIfInBounds_toArray, List.set_cons_zero, List.set_cons_succ]
  refine rtake (i := 13) (v := ?_) { dst := some 45, op := Op.move (Operand.tmp 44), type := 4, pos := _, after := #[{ on := 12, ground := Ground.data }, { on := 11, ground := Ground.chain }, { on := 11, ground := Ground.guard }], guard := some (11, true) } rfl (by kernel_rfl) (by kernel_rfl) (by kernel_rfl) (fun _ _ _ h => h) (by rfl) hHeld ?_ ?_
  rotate_left
  · intro wS hSw; (try dsimp only at hSw); go_simp <;> with_reducible rfl
  try simp only [Act.put, List.setIfInBounds_toArray, List.set_cons_zero, List.set_cons_succ]
  refine rskip (i := 14) { dst := some 46, op := Op.load 24 (Operand.tmp 7), type := 24, pos := _, after := #[{ on := 13, ground := Ground.guard }], guard := some (13, true) } rfl (by kernel_rfl) (by kernel_rfl) (by kernel_rfl) (fun _ _ _ h => h) (by rfl) hHeld ?_
  try simp only [Act.put, List.setIfInBounds_toArray, List.set_cons_zero, List.set_cons_succ]
  refine rskip (i := 15) { dst := some 47, op := Op.move (Operand.tmp 2), type := 22, pos := _, after := #[{ on := 13, ground := Ground.guard }], guard := some (13, true) } rfl (by kernel_rfl) (by kernel_rfl) (by kernel_rfl) (fun _ _ _ h => h) (by rfl) hHeld ?_
  try simp only [Act.put, List.setIfInBounds_toArray, List.set_cons_zero, List.set_cons_succ]
  refine rskip (i := 16) { dst := some 48, op := Op.call { callee := Callee.value (Operand.func 15), args := #[Operand.tmp 46, Operand.tmp 47], argTypes := #[24, 22] }, type := 4, pos := _, after := #[{ on := 14, ground := Ground.data }, { on := 15, ground := Ground.data }, { on := 13, ground := Ground.chain }, { on := 13, ground := Ground.guard }], guard := some (13, true) } rfl (by kernel_rfl) (by kernel_rfl) (by kernel_rfl) (fun _ _ _ h => h) (by rfl) hHeld ?_
  try simp only [Act.put, List.setIfInBounds_toArray, List.set_cons_zero, List.set_cons_succ]
  refine rtake (i := 17) (v := ?_) { dst := some 49, op := Op.pick (Operand.tmp 45) (Operand.tmp 48) (Operand.const (Value.bool false)), type := 4, pos := _, after := #[{ on := 13, ground := Ground.data }, { on := 16, ground := Ground.data }, { on := 11, ground := Ground.guard }], guard := some (11, true) } rfl (by kernel_rfl) (by kernel_rfl) (by kernel_rfl) (fun _ _ _ h => h) (by rfl) hHeld ?_ ?_
  rotate_left
  · intro wS hSw; (try dsimp only at hSw); go_simp <;> with_reducible rfl
  try simp only [Act.put, List.setIfInBounds_toArray, List.set_cons_zero, List.set_cons_succ]
  refine rtake (i := 18) (v := ?_) { dst := some 50, op := Op.load 24 (Operand.tmp 3), type := 24, pos := _, after := #[{ on := 11, ground := Ground.guard }], guard := some (11, true) } rfl (by kernel_rfl) (by kernel_rfl) (by kernel_rfl) (fun _ _ _ h => h) (by rfl) hHeld ?_ ?_
  rotate_left
  · intro wS hSw; (try dsimp only at hSw); go_simp <;> with_reducible rfl
  try simp only [Act.put, List.setIfInBounds_toArray, List.set_cons_zero, List.set_cons_succ]
  refine rtake (i := 19) (v := ?_) { dst := some 51, op := Op.move (Operand.tmp 2), type := 22, pos := _, after := #[{ on := 11, ground := Ground.guard }], guard := some (11, true) } rfl (by kernel_rfl) (by kernel_rfl) (by kernel_rfl) (fun _ _ _ h => h) (by rfl) hHeld ?_ ?_
  rotate_left
  · intro wS hSw; (try dsimp only at hSw); go_simp <;> with_reducible rfl
  try simp only [Act.put, List.setIfInBounds_toArray, List.set_cons_zero, List.set_cons_succ]
  refine wpAnyH_ready (rs := [20]) (by kernel_rfl) (by simp) (AllReadyH.cons (o := { dst := some 52, op := Op.call { callee := Callee.value (Operand.func 15), args := #[Operand.tmp 50, Operand.tmp 51], argTypes := #[24, 22] }, type := 4, pos := _, after := #[{ on := 18, ground := Ground.data }, { on := 19, ground := Ground.data }, { on := 16, ground := Ground.chain }, { on := 11, ground := Ground.guard }], guard := some (11, true) }) rfl (fun K hK => ?_) AllReadyH.nil)
  go_simp
  refine (K6.out _ _ _ _ _ (by assumption)).mono ?_
  rintro en wN ⟨rfl, hbN⟩
  have hbH := Lib.hid hbN; clear hbN
  go_wp2_with fail
  refine hK.out _ _ (keep_eight hHeld hbH) (fun hNew => ?_)
  clear hK K hHeld hbH
  have hHeld := hNew; clear hNew
  try simp only [Act.put, List.setIfInBounds_toArray, List.set_cons_zero, List.set_cons_succ]
  refine rtake (i := 21) (v := ?_) { dst := some 53, op := Op.move (Operand.tmp 52), type := 4, pos := _, after := #[{ on := 20, ground := Ground.data }, { on := 20, ground := Ground.chain }, { on := 11, ground := Ground.guard }], guard := some (11, true) } rfl (by kernel_rfl) (by kernel_rfl) (by kernel_rfl) (fun _ _ _ h => h) (by rfl) hHeld ?_ ?_
  rotate_left
  · intro wS hSw; (try dsimp only at hSw); go_simp <;> with_reducible rfl
  try simp only [Act.put, List.setIfInBounds_toArray, List.set_cons_zero, List.set_cons_succ]
  refine rtake (i := 22) (v := ?_) { dst := some 54, op := Op.load 24 (Operand.tmp 4), type := 24, pos := _, after := #[{ on := 21, ground := Ground.guard }], guard := some (21, true) } rfl (by kernel_rfl) (by kernel_rfl) (by kernel_rfl) (fun _ _ _ h => h) (by rfl) hHeld ?_ ?_
  rotate_left
  · intro wS hSw; (try dsimp only at hSw); go_simp <;> with_reducible rfl
  try simp only [Act.put, List.setIfInBounds_toArray, List.set_cons_zero, List.set_cons_succ]
  refine rtake (i := 23) (v := ?_) { dst := some 55, op := Op.move (Operand.tmp 2), type := 22, pos := _, after := #[{ on := 21, ground := Ground.guard }], guard := some (21, true) } rfl (by kernel_rfl) (by kernel_rfl) (by kernel_rfl) (fun _ _ _ h => h) (by rfl) hHeld ?_ ?_
  rotate_left
  · intro wS hSw; (try dsimp only at hSw); go_simp <;> with_reducible rfl
  try simp only [Act.put, List.setIfInBounds_toArray, List.set_cons_zero, List.set_cons_succ]
  refine wpAnyH_ready (rs := [24]) (by kernel_rfl) (by simp) (AllReadyH.cons (o := { dst := some 56, op := Op.call { callee := Callee.value (Operand.func 15), args := #[Operand.tmp 54, Operand.tmp 55], argTypes := #[24, 22] }, type := 4, pos := _, after := #[{ on := 22, ground := Ground.data }, { on := 23, ground := Ground.data }, { on := 21, ground := Ground.chain }, { on := 21, ground := Ground.guard }], guard := some (21, true) }) rfl (fun K hK => ?_) AllReadyH.nil)
  go_simp
  refine (K6.out _ _ _ _ _ (by assumption)).mono ?_
  rintro en wN ⟨rfl, hbN⟩
  have hbH := Lib.hid hbN; clear hbN
  go_wp2_with fail
  refine hK.out _ _ (keep_eight hHeld hbH) (fun hNew => ?_)
  clear hK K hHeld hbH
  have hHeld := hNew; clear hNew
  try simp only [Act.put, List.setIfInBounds_toArray, List.set_cons_zero, List.set_cons_succ]
  refine rtake (i := 25) (v := ?_) { dst := some 57, op := Op.pick (Operand.tmp 53) (Operand.tmp 56) (Operand.const (Value.bool false)), type := 4, pos := _, after := #[{ on := 21, ground := Ground.data }, { on := 24, ground := Ground.data }, { on := 11, ground := Ground.guard }], guard := some (11, true) } rfl (by kernel_rfl) (by kernel_rfl) (by kernel_rfl) (fun _ _ _ h => h) (by rfl) hHeld ?_ ?_
  rotate_left
  · intro wS hSw; (try dsimp only at hSw); go_simp <;> with_reducible rfl
  try simp only [Act.put, List.setIfInBounds_toArray, List.set_cons_zero, List.set_cons_succ]
  refine rtake (i := 26) (v := ?_) { dst := some 58, op := Op.binOp BinOp.eql 4 (Operand.tmp 49) (Operand.tmp 57) 4, type := 4, pos := _, after := #[{ on := 17, ground := Ground.data }, { on := 25, ground := Ground.data }, { on := 11, ground := Ground.guard }], guard := some (11, true) } rfl (by kernel_rfl) (by kernel_rfl) (by kernel_rfl) (fun _ _ _ h => h) (by rfl) hHeld ?_ ?_
  rotate_left
  · intro wS hSw; (try dsimp only at hSw); go_simp <;> with_reducible rfl
  try simp only [Act.put, List.setIfInBounds_toArray, List.set_cons_zero, List.set_cons_succ]
  refine rtake (i := 27) (v := ?_) { dst := some 59, op := Op.pick (Operand.tmp 43) (Operand.tmp 58) (Operand.const (Value.bool false)), type := 4, pos := _, after := #[{ on := 11, ground := Ground.data }, { on := 26, ground := Ground.data }], guard := none } rfl (by kernel_rfl) (by kernel_rfl) (by kernel_rfl) (fun _ _ _ h => h) (by rfl) hHeld ?_ ?_
  rotate_left
  · intro wS hSw; (try dsimp only at hSw); go_simp <;> with_reducible rfl
  try simp only [Act.put, List.setIfInBounds_toArray, List.set_cons_zero, List.set_cons_succ]
  refine rtake (i := 28) (v := ?_) { dst := some 6, op := Op.assign (Operand.tmp 59), type := 4, pos := _, after := #[{ on := 27, ground := Ground.data }, { on := 24, ground := Ground.chain }, { on := 0, ground := Ground.phase }, { on := 1, ground := Ground.phase }, { on := 2, ground := Ground.phase }, { on := 3, ground := Ground.phase }, { on := 4, ground := Ground.phase }, { on := 5, ground := Ground.phase }, { on := 6, ground := Ground.phase }, { on := 7, ground := Ground.phase }, { on := 8, ground := Ground.phase }, { on := 9, ground := Ground.phase }, { on := 10, ground := Ground.phase }, { on := 11, ground := Ground.phase }, { on := 12, ground := Ground.phase }, { on := 13, ground := Ground.phase }, { on := 14, ground := Ground.phase }, { on := 15, ground := Ground.phase }, { on := 16, ground := Ground.phase }, { on := 17, ground := Ground.phase }, { on := 18, ground := Ground.phase }, { on := 19, ground := Ground.phase }, { on := 20, ground := Ground.phase }, { on := 21, ground := Ground.phase }, { on := 22, ground := Ground.phase }, { on := 23, ground := Ground.phase }, { on := 24, ground := Ground.phase }, { on := 25, ground := Ground.phase }, { on := 26, ground := Ground.phase }, { on := 27, ground := Ground.phase }], guard := none } rfl (by kernel_rfl) (by kernel_rfl) (by kernel_rfl) (fun _ _ _ h => h) (by rfl) hHeld ?_ ?_
  rotate_left
  · intro wS hSw; (try dsimp only at hSw); go_simp <;> with_reducible rfl
  try simp only [Act.put, List.setIfInBounds_toArray, List.set_cons_zero, List.set_cons_succ]
  refine wpAnyH_done (by kernel_rfl) ?_ _
  go_wp2_with fail
  go_ret
  exact ⟨rfl, hHeld.1⟩

set_option maxRecDepth 100000 in
set_option maxHeartbeats 2000000 in
theorem meets_no0 (a b c d x : Int) (w : World) (hg : ErrT w) (ha : 0 ≤ a ∧ a ≤ 18446744073709551615) (hb : 0 ≤ b ∧ b ≤ 18446744073709551615) (hc : 0 ≤ c ∧ c ≤ 18446744073709551615) (hd : 0 ≤ d ∧ d ≤ 18446744073709551615) (h1 : a ≤ b) (h2 : c ≤ d) (hn : b < c ∨ d < a) (hp : hasB a b x = false) :
    Calls Tryd.prog 5 #[.agg #[.int .u64 a, .int .u64 b], .agg #[.int .u64 c, .int .u64 d], .int .u64 x] w (IsEnd true w) := by
  have k1 := fun w => right_any a b w
  rw [show decide (a ≤ b) = true from by simpa using h1] at k1
  have K1 := Lib.hid k1; clear k1
  have k2 := fun w => right_any c d w
  rw [show decide (c ≤ d) = true from by simpa using h2] at k2
  have K2 := Lib.hid k2; clear k2
  have K5 := Lib.hid alive_any
  obtain ⟨q, hq⟩ : ∃ q, hasB c d x = q := ⟨_, rfl⟩
  have k3 : ∀ w, Calls Tryd.prog 18 #[.agg #[.int .u64 a, .int .u64 b], .agg #[.int .u64 c, .int .u64 d]] w (IsIv 0 0 false w) := fun w => meet_no a b c d _ _ w rfl rfl (by split <;> split <;> omega)
  have K3 := Lib.hid k3; clear k3
  have K4 := Lib.hid (fun w => refMeet_no a b c d w hb.1 hc.2 hd.1 ha.2 hn)
  have hh := meet_none x hn
  rw [hq] at hh
  clear hh hn
  have K6 := Lib.hid hasR
  have Hg := Lib.hid hg
  clear hg h1 h2 ha hb hc hd
  go_enter Tryd.func5, Tryd.ntmps5
  go_wp2_with fail
  refine (K1.out _).mono ?_
  rintro e w1 ⟨rfl, h1⟩
  have S1 := Lib.hid ((Kp.two w _ _ _ _ _ _).call h1); clear h1
  obtain ⟨_, c0, c1, a0, a1, _⟩ := S1.out
  go_wp2_with fail
  refine (K2.out _).mono ?_
  rintro e w2 ⟨rfl, h2⟩
  have S2 := Lib.hid (S1.out.call h2); clear h2 S1 c0 c1 a0 a1
  obtain ⟨_, c0, c1, a0, a1, _⟩ := S2.out
  go_wp2_with fail
  refine (K3.out _).mono ?_
  rintro e w3 ⟨rfl, h3⟩
  have S3 := Lib.hid ((S2.out.call h3).new2 (.int .u64 0) (.int .u64 0) 24 _ rfl); clear h3 S2 c0 c1 a0 a1
  obtain ⟨_, m0, m1, c0, c1, a0, a1, _⟩ := S3.out
  go_wp2_with fail
  refine (K4.out _).mono ?_
  rintro e w4 ⟨rfl, h4⟩
  have S4 := Lib.hid ((S3.out.call h4).new2 (.int .u64 0) (.int .u64 0) 24 _ rfl); clear h4 S3 m0 m1 c0 c1 a0 a1
  have hs : Below w.heap.size w (w4.alloc (.cells #[.int .u64 0, .int .u64 0] 24)) ∧ (w4.alloc (.cells #[.int .u64 0, .int .u64 0] 24)).cell? ⟨w.heap.size + 1, 0, none⟩ = some (.int .u64 c) ∧ (w4.alloc (.cells #[.int .u64 0, .int .u64 0] 24)).cell? ⟨w.heap.size + 1, 1, none⟩ = some (.int .u64 d) ∧ (w4.alloc (.cells #[.int .u64 0, .int .u64 0] 24)).cell? ⟨w.heap.size, 0, none⟩ = some (.int .u64 a) ∧ (w4.alloc (.cells #[.int .u64 0, .int .u64 0] 24)).cell? ⟨w.heap.size, 1, none⟩ = some (.int .u64 b) ∧ (w4.alloc (.cells #[.int .u64 0, .int .u64 0] 24)).cell? ⟨w3.heap.size, 0, none⟩ = some (.int .u64 0) ∧ (w4.alloc (.cells #[.int .u64 0, .int .u64 0] 24)).cell? ⟨w3.heap.size, 1, none⟩ = some (.int .u64 0) ∧ (w4.alloc (.cells #[.int .u64 0, .int .u64 0] 24)).cell? ⟨w4.heap.size, 0, none⟩ = some (.int .u64 0) ∧ (w4.alloc (.cells #[.int .u64 0, .int .u64 0] 24)).cell? ⟨w4.heap.size, 1, none⟩ = some (.int .u64 0) := by
    obtain ⟨q, n0, n1, m0, m1, c0, c1, a0, a1, _⟩ := S4.out
    exact ⟨q, c0, c1, a0, a1, m0, m1, n0, n1⟩
  have HS := Lib.hid hs; clear hs
  go_wp2_with fail
  refine wp_region_held_drew (S := (fun w' => Below w.heap.size w w' ∧ w'.cell? ⟨w.heap.size + 1, 0, none⟩ = some (.int .u64 c) ∧ w'.cell? ⟨w.heap.size + 1, 1, none⟩ = some (.int .u64 d) ∧ w'.cell? ⟨w.heap.size, 0, none⟩ = some (.int .u64 a) ∧ w'.cell? ⟨w.heap.size, 1, none⟩ = some (.int .u64 b) ∧ w'.cell? ⟨w3.heap.size, 0, none⟩ = some (.int .u64 0) ∧ w'.cell? ⟨w3.heap.size, 1, none⟩ = some (.int .u64 0) ∧ w'.cell? ⟨w4.heap.size, 0, none⟩ = some (.int .u64 0) ∧ w'.cell? ⟨w4.heap.size, 1, none⟩ = some (.int .u64 0))) (by kernel_rfl) (keep_eight_drew HS.out) (fun hHeld => ?_)
  refine wpAnyH_ready (rs := [0]) (by kernel_rfl) (by simp) (AllReadyH.cons (o := { dst := some 32, op := Op.call { callee := Callee.value (Operand.func 11), args := #[], argTypes := #[] }, type := 4, pos := _, after := #[], guard := none }) rfl (fun K hK => ?_) AllReadyH.nil)
  go_simp
  refine (K5.out _ (Hg.out.here hHeld.1)).mono ?_
  rintro en wN ⟨rfl, hbN⟩
  have hbH := Lib.hid hbN; clear hbN
  go_wp2_with fail
  refine hK.out _ _ (keep_eight hHeld hbH) (fun hNew => ?_)
  clear hK K hHeld hbH
  have hHeld := hNew; clear hNew
  try simp only [Act.put, List.setIfInBounds_toArray, List.set_cons_zero, List.set_cons_succ]
  refine rtake (i := 1) (v := ?_) { dst := some 33, op := Op.move (Operand.tmp 32), type := 4, pos := _, after := #[{ on := 0, ground := Ground.data }, { on := 0, ground := Ground.chain }], guard := none } rfl (by kernel_rfl) (by kernel_rfl) (by kernel_rfl) (fun _ _ _ h => h) (by rfl) hHeld ?_ ?_
  rotate_left
  · intro wS hSw; (try dsimp only at hSw); go_simp <;> with_reducible rfl
  try simp only [Act.put, List.setIfInBounds_toArray, List.set_cons_zero, List.set_cons_succ]
  refine rtake (i := 2) (v := ?_) { dst := some 34, op := Op.load 24 (Operand.tmp 7), type := 24, pos := _, after := #[{ on := 1, ground := Ground.guard }], guard := some (1, true) } rfl (by kernel_rfl) (by kernel_rfl) (by kernel_rfl) (fun _ _ _ h => h) (by rfl) hHeld ?_ ?_
  rotate_left
  · intro wS hSw; (try dsimp only at hSw); go_simp <;> with_reducible rfl
  try simp only [Act.put, List.setIfInBounds_toArray, List.set_cons_zero, List.set_cons_succ]
  refine rtake (i := 3) (v := ?_) { dst := some 35, op := Op.load 24 (Operand.tmp 9), type := 24, pos := _, after := #[{ on := 1, ground := Ground.guard }], guard := some (1, true) } rfl (by kernel_rfl) (by kernel_rfl) (by kernel_rfl) (fun _ _ _ h => h) (by rfl) hHeld ?_ ?_
  rotate_left
  · intro wS hSw; (try dsimp only at hSw); go_simp <;> with_reducible rfl
  try simp only [Act.put, List.setIfInBounds_toArray, List.set_cons_zero, List.set_cons_succ]
  refine rtake (i := 4) (v := ?_) { dst := some 36, op := Op.binOp BinOp.eql 24 (Operand.tmp 34) (Operand.tmp 35) 24, type := 4, pos := _, after := #[{ on := 2, ground := Ground.data }, { on := 3, ground := Ground.data }, { on := 1, ground := Ground.guard }], guard := some (1, true) } rfl (by kernel_rfl) (by kernel_rfl) (by kernel_rfl) (fun _ _ _ h => h) (by rfl) hHeld ?_ ?_
  rotate_left
  · intro wS hSw; (try dsimp only at hSw); go_simp <;> with_reducible rfl
  try simp only [Act.put, List.setIfInBounds_toArray, List.set_cons_zero, List.set_cons_succ]
  refine rtake (i := 5) (v := ?_) { dst := some 37, op := Op.pick (Operand.tmp 33) (Operand.tmp 36) (Operand.const (Value.bool false)), type := 4, pos := _, after := #[{ on := 1, ground := Ground.data }, { on := 4, ground := Ground.data }], guard := none } rfl (by kernel_rfl) (by kernel_rfl) (by kernel_rfl) (fun _ _ _ h => h) (by rfl) hHeld ?_ ?_
  rotate_left
  · intro wS hSw; (try dsimp only at hSw); go_simp <;> with_reducible rfl
  try simp only [Act.put, List.setIfInBounds_toArray, List.set_cons_zero, List.set_cons_succ]
  refine rtake (i := 6) (v := ?_) { dst := some 38, op := Op.move (Operand.tmp 37), type := 4, pos := _, after := #[{ on := 5, ground := Ground.data }, { on := 1, ground := Ground.chain }], guard := none } rfl (by kernel_rfl) (by kernel_rfl) (by kernel_rfl) (fun _ _ _ h => h) (by rfl) hHeld ?_ ?_
  rotate_left
  · intro wS hSw; (try dsimp only at hSw); go_simp <;> with_reducible rfl
  try simp only [Act.put, List.setIfInBounds_toArray, List.set_cons_zero, List.set_cons_succ]
  refine rtake (i := 7) (v := ?_) { dst := some 39, op := Op.move (Operand.tmp 8), type := 4, pos := _, after := #[{ on := 6, ground := Ground.guard }], guard := some (6, true) } rfl (by kernel_rfl) (by kernel_rfl) (by kernel_rfl) (fun _ _ _ h => h) (by rfl) hHeld ?_ ?_
  rotate_left
  · intro wS hSw; (try dsimp only at hSw); go_simp <;> with_reducible rfl
  try simp only [Act.put, List.setIfInBounds_toArray, List.set_cons_zero, List.set_cons_succ]
  refine rtake (i := 8) (v := ?_) { dst := some 40, op := Op.move (Operand.tmp 10), type := 4, pos := _, after := #[{ on := 6, ground := Ground.guard }], guard := some (6, true) } rfl (by kernel_rfl) (by kernel_rfl) (by kernel_rfl) (fun _ _ _ h => h) (by rfl) hHeld ?_ ?_
  rotate_left
  · intro wS hSw; (try dsimp only at hSw); go_simp <;> with_reducible rfl
  try simp only [Act.put, List.setIfInBounds_toArray, List.set_cons_zero, List.set_cons_succ]
  refine rtake (i := 9) (v := ?_) { dst := some 41, op := Op.binOp BinOp.eql 4 (Operand.tmp 39) (Operand.tmp 40) 4, type := 4, pos := _, after := #[{ on := 7, ground := Ground.data }, { on := 8, ground := Ground.data }, { on := 6, ground := Ground.guard }], guard := some (6, true) } rfl (by kernel_rfl) (by kernel_rfl) (by kernel_rfl) (fun _ _ _ h => h) (by rfl) hHeld ?_ ?_
  rotate_left
  · intro wS hSw; (try dsimp only at hSw); go_simp <;> with_reducible rfl
  try simp only [Act.put, List.setIfInBounds_toArray, List.set_cons_zero, List.set_cons_succ]
  refine rtake (i := 10) (v := ?_) { dst := some 42, op := Op.pick (Operand.tmp 38) (Operand.tmp 41) (Operand.const (Value.bool false)), type := 4, pos := _, after := #[{ on := 6, ground := Ground.data }, { on := 9, ground := Ground.data }], guard := none } rfl (by kernel_rfl) (by kernel_rfl) (by kernel_rfl) (fun _ _ _ h => h) (by rfl) hHeld ?_ ?_
  rotate_left
  · intro wS hSw; (try dsimp only at hSw); go_simp <;> with_reducible rfl
  try simp only [Act.put, List.setIfInBounds_toArray, List.set_cons_zero, List.set_cons_succ]
  refine rtake (i := 11) (v := ?_) { dst := some 43, op := Op.move (Operand.tmp 42), type := 4, pos := _, after := #[{ on := 10, ground := Ground.data }, { on := 6, ground := Ground.chain }], guard := none } rfl (by kernel_rfl) (by kernel_rfl) (by kernel_rfl) (fun _ _ _ h => h) (by rfl) hHeld ?_ ?_
  rotate_left
  · intro wS hSw; (try dsimp only at hSw); go_simp <;> with_reducible rfl
  try simp only [Act.put, List.setIfInBounds_toArray, List.set_cons_zero, List.set_cons_succ]
  refine rtake (i := 12) (v := ?_) { dst := some 44, op := Op.move (Operand.tmp 8), type := 4, pos := _, after := #[{ on := 11, ground := Ground.guard }], guard := some (11, true) } rfl (by kernel_rfl) (by kernel_rfl) (by kernel_rfl) (fun _ _ _ h => h) (by rfl) hHeld ?_ ?_
  rotate_left
  · intro wS hSw; (try dsimp only at hSw); go_simp <;> with_reducible rfl
  try simp only [Act.put, List.setIfInBounds_toArray, List.set_cons_zero, List.set_cons_succ]
  refine rtake (i := 13) (v := ?_) { dst := some 45, op := Op.move (Operand.tmp 44), type := 4, pos := _, after := #[{ on := 12, ground := Ground.data }, { on := 11, ground := Ground.chain }, { on := 11, ground := Ground.guard }], guard := some (11, true) } rfl (by kernel_rfl) (by kernel_rfl) (by kernel_rfl) (fun _ _ _ h => h) (by rfl) hHeld ?_ ?_
  rotate_left
  · intro wS hSw; (try dsimp only at hSw); go_simp <;> with_reducible rfl
  try simp only [Act.put, List.setIfInBounds_toArray, List.set_cons_zero, List.set_cons_succ]
  refine rskip (i := 14) { dst := some 46, op := Op.load 24 (Operand.tmp 7), type := 24, pos := _, after := #[{ on := 13, ground := Ground.guard }], guard := some (13, true) } rfl (by kernel_rfl) (by kernel_rfl) (by kernel_rfl) (fun _ _ _ h => h) (by rfl) hHeld ?_
  try simp only [Act.put, List.setIfInBounds_toArray, List.set_cons_zero, List.set_cons_succ]
  refine rskip (i := 15) { dst := some 47, op := Op.move (Operand.tmp 2), type := 22, pos := _, after := #[{ on := 13, ground := Ground.guard }], guard := some (13, true) } rfl (by kernel_rfl) (by kernel_rfl) (by kernel_rfl) (fun _ _ _ h => h) (by rfl) hHeld ?_
  try simp only [Act.put, List.setIfInBounds_toArray, List.set_cons_zero, List.set_cons_succ]
  refine rskip (i := 16) { dst := some 48, op := Op.call { callee := Callee.value (Operand.func 15), args := #[Operand.tmp 46, Operand.tmp 47], argTypes := #[24, 22] }, type := 4, pos := _, after := #[{ on := 14, ground := Ground.data }, { on := 15, ground := Ground.data }, { on := 13, ground := Ground.chain }, { on := 13, ground := Ground.guard }], guard := some (13, true) } rfl (by kernel_rfl) (by kernel_rfl) (by kernel_rfl) (fun _ _ _ h => h) (by rfl) hHeld ?_
  try simp only [Act.put, List.setIfInBounds_toArray, List.set_cons_zero, List.set_cons_succ]
  refine rtake (i := 17) (v := ?_) { dst := some 49, op := Op.pick (Operand.tmp 45) (Operand.tmp 48) (Operand.const (Value.bool false)), type := 4, pos := _, after := #[{ on := 13, ground := Ground.data }, { on := 16, ground := Ground.data }, { on := 11, ground := Ground.guard }], guard := some (11, true) } rfl (by kernel_rfl) (by kernel_rfl) (by kernel_rfl) (fun _ _ _ h => h) (by rfl) hHeld ?_ ?_
  rotate_left
  · intro wS hSw; (try dsimp only at hSw); go_simp <;> with_reducible rfl
  try simp only [Act.put, List.setIfInBounds_toArray, List.set_cons_zero, List.set_cons_succ]
  refine rtake (i := 18) (v := ?_) { dst := some 50, op := Op.load 24 (Operand.tmp 3), type := 24, pos := _, after := #[{ on := 11, ground := Ground.guard }], guard := some (11, true) } rfl (by kernel_rfl) (by kernel_rfl) (by kernel_rfl) (fun _ _ _ h => h) (by rfl) hHeld ?_ ?_
  rotate_left
  · intro wS hSw; (try dsimp only at hSw); go_simp <;> with_reducible rfl
  try simp only [Act.put, List.setIfInBounds_toArray, List.set_cons_zero, List.set_cons_succ]
  refine rtake (i := 19) (v := ?_) { dst := some 51, op := Op.move (Operand.tmp 2), type := 22, pos := _, after := #[{ on := 11, ground := Ground.guard }], guard := some (11, true) } rfl (by kernel_rfl) (by kernel_rfl) (by kernel_rfl) (fun _ _ _ h => h) (by rfl) hHeld ?_ ?_
  rotate_left
  · intro wS hSw; (try dsimp only at hSw); go_simp <;> with_reducible rfl
  try simp only [Act.put, List.setIfInBounds_toArray, List.set_cons_zero, List.set_cons_succ]
  refine wpAnyH_ready (rs := [20]) (by kernel_rfl) (by simp) (AllReadyH.cons (o := { dst := some 52, op := Op.call { callee := Callee.value (Operand.func 15), args := #[Operand.tmp 50, Operand.tmp 51], argTypes := #[24, 22] }, type := 4, pos := _, after := #[{ on := 18, ground := Ground.data }, { on := 19, ground := Ground.data }, { on := 16, ground := Ground.chain }, { on := 11, ground := Ground.guard }], guard := some (11, true) }) rfl (fun K hK => ?_) AllReadyH.nil)
  go_simp
  refine (K6.out _ _ _ _ _ (by assumption)).mono ?_
  rintro en wN ⟨rfl, hbN⟩
  have hbH := Lib.hid hbN; clear hbN
  go_wp2_with fail
  refine hK.out _ _ (keep_eight hHeld hbH) (fun hNew => ?_)
  clear hK K hHeld hbH
  have hHeld := hNew; clear hNew
  try simp only [Act.put, List.setIfInBounds_toArray, List.set_cons_zero, List.set_cons_succ]
  refine rtake (i := 21) (v := ?_) { dst := some 53, op := Op.move (Operand.tmp 52), type := 4, pos := _, after := #[{ on := 20, ground := Ground.data }, { on := 20, ground := Ground.chain }, { on := 11, ground := Ground.guard }], guard := some (11, true) } rfl (by kernel_rfl) (by kernel_rfl) (by kernel_rfl) (fun _ _ _ h => h) (by rfl) hHeld ?_ ?_
  rotate_left
  · intro wS hSw; (try dsimp only at hSw); go_simp <;> with_reducible rfl
  try simp only [Act.put, List.setIfInBounds_toArray, List.set_cons_zero, List.set_cons_succ]
  refine rskip (i := 22) { dst := some 54, op := Op.load 24 (Operand.tmp 4), type := 24, pos := _, after := #[{ on := 21, ground := Ground.guard }], guard := some (21, true) } rfl (by kernel_rfl) (by kernel_rfl) (by kernel_rfl) (fun _ _ _ h => h) (by rfl) hHeld ?_
  try simp only [Act.put, List.setIfInBounds_toArray, List.set_cons_zero, List.set_cons_succ]
  refine rskip (i := 23) { dst := some 55, op := Op.move (Operand.tmp 2), type := 22, pos := _, after := #[{ on := 21, ground := Ground.guard }], guard := some (21, true) } rfl (by kernel_rfl) (by kernel_rfl) (by kernel_rfl) (fun _ _ _ h => h) (by rfl) hHeld ?_
  try simp only [Act.put, List.setIfInBounds_toArray, List.set_cons_zero, List.set_cons_succ]
  refine rskip (i := 24) { dst := some 56, op := Op.call { callee := Callee.value (Operand.func 15), args := #[Operand.tmp 54, Operand.tmp 55], argTypes := #[24, 22] }, type := 4, pos := _, after := #[{ on := 22, ground := Ground.data }, { on := 23, ground := Ground.data }, { on := 21, ground := Ground.chain }, { on := 21, ground := Ground.guard }], guard := some (21, true) } rfl (by kernel_rfl) (by kernel_rfl) (by kernel_rfl) (fun _ _ _ h => h) (by rfl) hHeld ?_
  try simp only [Act.put, List.setIfInBounds_toArray, List.set_cons_zero, List.set_cons_succ]
  refine rtake (i := 25) (v := ?_) { dst := some 57, op := Op.pick (Operand.tmp 53) (Operand.tmp 56) (Operand.const (Value.bool false)), type := 4, pos := _, after := #[{ on := 21, ground := Ground.data }, { on := 24, ground := Ground.data }, { on := 11, ground := Ground.guard }], guard := some (11, true) } rfl (by kernel_rfl) (by kernel_rfl) (by kernel_rfl) (fun _ _ _ h => h) (by rfl) hHeld ?_ ?_
  rotate_left
  · intro wS hSw; (try dsimp only at hSw); go_simp <;> with_reducible rfl
  try simp only [Act.put, List.setIfInBounds_toArray, List.set_cons_zero, List.set_cons_succ]
  refine rtake (i := 26) (v := ?_) { dst := some 58, op := Op.binOp BinOp.eql 4 (Operand.tmp 49) (Operand.tmp 57) 4, type := 4, pos := _, after := #[{ on := 17, ground := Ground.data }, { on := 25, ground := Ground.data }, { on := 11, ground := Ground.guard }], guard := some (11, true) } rfl (by kernel_rfl) (by kernel_rfl) (by kernel_rfl) (fun _ _ _ h => h) (by rfl) hHeld ?_ ?_
  rotate_left
  · intro wS hSw; (try dsimp only at hSw); go_simp <;> with_reducible rfl
  try simp only [Act.put, List.setIfInBounds_toArray, List.set_cons_zero, List.set_cons_succ]
  refine rtake (i := 27) (v := ?_) { dst := some 59, op := Op.pick (Operand.tmp 43) (Operand.tmp 58) (Operand.const (Value.bool false)), type := 4, pos := _, after := #[{ on := 11, ground := Ground.data }, { on := 26, ground := Ground.data }], guard := none } rfl (by kernel_rfl) (by kernel_rfl) (by kernel_rfl) (fun _ _ _ h => h) (by rfl) hHeld ?_ ?_
  rotate_left
  · intro wS hSw; (try dsimp only at hSw); go_simp <;> with_reducible rfl
  try simp only [Act.put, List.setIfInBounds_toArray, List.set_cons_zero, List.set_cons_succ]
  refine rtake (i := 28) (v := ?_) { dst := some 6, op := Op.assign (Operand.tmp 59), type := 4, pos := _, after := #[{ on := 27, ground := Ground.data }, { on := 24, ground := Ground.chain }, { on := 0, ground := Ground.phase }, { on := 1, ground := Ground.phase }, { on := 2, ground := Ground.phase }, { on := 3, ground := Ground.phase }, { on := 4, ground := Ground.phase }, { on := 5, ground := Ground.phase }, { on := 6, ground := Ground.phase }, { on := 7, ground := Ground.phase }, { on := 8, ground := Ground.phase }, { on := 9, ground := Ground.phase }, { on := 10, ground := Ground.phase }, { on := 11, ground := Ground.phase }, { on := 12, ground := Ground.phase }, { on := 13, ground := Ground.phase }, { on := 14, ground := Ground.phase }, { on := 15, ground := Ground.phase }, { on := 16, ground := Ground.phase }, { on := 17, ground := Ground.phase }, { on := 18, ground := Ground.phase }, { on := 19, ground := Ground.phase }, { on := 20, ground := Ground.phase }, { on := 21, ground := Ground.phase }, { on := 22, ground := Ground.phase }, { on := 23, ground := Ground.phase }, { on := 24, ground := Ground.phase }, { on := 25, ground := Ground.phase }, { on := 26, ground := Ground.phase }, { on := 27, ground := Ground.phase }], guard := none } rfl (by kernel_rfl) (by kernel_rfl) (by kernel_rfl) (fun _ _ _ h => h) (by rfl) hHeld ?_ ?_
  rotate_left
  · intro wS hSw; (try dsimp only at hSw); go_simp <;> with_reducible rfl
  try simp only [Act.put, List.setIfInBounds_toArray, List.set_cons_zero, List.set_cons_succ]
  refine wpAnyH_done (by kernel_rfl) ?_ _
  go_wp2_with fail
  go_ret
  exact ⟨rfl, hHeld.1⟩

theorem meets_right (a b c d x : Int) (w : World) (hg : ErrT w) (ha : 0 ≤ a ∧ a ≤ 18446744073709551615) (hb : 0 ≤ b ∧ b ≤ 18446744073709551615) (hc : 0 ≤ c ∧ c ≤ 18446744073709551615) (hd : 0 ≤ d ∧ d ≤ 18446744073709551615) (h1 : a ≤ b) (h2 : c ≤ d) :
    Calls Tryd.prog 5 #[.agg #[.int .u64 a, .int .u64 b], .agg #[.int .u64 c, .int .u64 d], .int .u64 x] w (IsEnd true w) := by
  by_cases hn : ¬ b < c ∧ ¬ d < a
  · cases hp : hasB a b x
    · exact meets_yes0 a b c d x _ _ w hg ha hb hc hd h1 h2 rfl rfl (by split <;> split <;> omega) hn hp
    · exact meets_yes1 a b c d x _ _ w hg ha hb hc hd h1 h2 rfl rfl (by split <;> split <;> omega) hn hp
  · have hn' : b < c ∨ d < a := by omega
    cases hp : hasB a b x
    · exact meets_no0 a b c d x w hg ha hb hc hd h1 h2 hn' hp
    · exact meets_no1 a b c d x w hg ha hb hc hd h1 h2 hn' hp

theorem meets_any (a b c d x : Int) (w : World) (hg : ErrT w) (ha : 0 ≤ a ∧ a ≤ 18446744073709551615) (hb : 0 ≤ b ∧ b ≤ 18446744073709551615) (hc : 0 ≤ c ∧ c ≤ 18446744073709551615) (hd : 0 ≤ d ∧ d ≤ 18446744073709551615) :
    Calls Tryd.prog 5 #[.agg #[.int .u64 a, .int .u64 b], .agg #[.int .u64 c, .int .u64 d], .int .u64 x] w (IsEnd true w) := by
  by_cases h1 : a ≤ b
  · by_cases h2 : c ≤ d
    · exact meets_right a b c d x w hg ha hb hc hd h1 h2
    · exact meets_wrong2 a b c d x w hg h1 h2
  · exact meets_wrong1 a b c d x w hg h1
end Go.Proofs.YtciinnkcjiibfaaDoor
