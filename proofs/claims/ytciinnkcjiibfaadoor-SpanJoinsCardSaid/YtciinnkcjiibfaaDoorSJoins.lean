/- SpanJoins returns true for all intervals of numbers of 64 bits. Condition: the variable errors.errorType holds the type error. -/
import Derived.Test.YtciinnkcjiibfaaDoorSMeets
import Derived.Test.YtciinnkcjiibfaaDoorRegion
namespace Go.Proofs.YtciinnkcjiibfaaDoor
open Go.RowKit

theorem join_has {a b c d lo hi : Int} (x : Int) (h1 : a ≤ b) (h2 : c ≤ d) (h0 : relN a b c d ≠ 0) (h4 : relN a b c d ≠ 4) (hlo : (if c < a then c else a) = lo) (hhi : (if b < d then d else b) = hi) : hasB lo hi x = (hasB a b x || hasB c d x) := by
  have k1 : c ≤ b + 1 := by
    apply Classical.byContradiction; intro hx
    exact h0 (rel0 (by omega) (by omega))
  have k2 : a ≤ d + 1 := by
    apply Classical.byContradiction; intro hx
    exact h4 (rel4 (by omega) (by omega) (by omega))
  subst hlo hhi
  unfold hasB
  rw [Bool.eq_iff_iff]
  simp
  split <;> split <;> omega

set_option maxRecDepth 100000 in
theorem joins_wrong1 (a b c d x : Int) (w : World) (hg : ErrT w) (h : ¬ a ≤ b) :
    Calls Tryd.prog 6 #[.agg #[.int .u64 a, .int .u64 b], .agg #[.int .u64 c, .int .u64 d], .int .u64 x] w (IsEnd true w) := by
  have k1 := fun w => right_any a b w
  rw [show decide (a ≤ b) = false from by simpa using h] at k1
  have K1 := Lib.hid k1; clear k1
  have K5 := Lib.hid alive_any
  have Hg := Lib.hid hg; clear hg h
  go_enter Tryd.func6, Tryd.ntmps6
  go_wp2_with fail
  refine (K1.out _).mono ?_
  rintro e w1 ⟨rfl, h1⟩
  have S1 := Lib.hid ((Kp.two w _ _ _ _ _ _).call h1); clear h1
  go_wp2_with fail
  refine (K5.out _ (Hg.out.here S1.out.1)).mono ?_
  rintro e w3 ⟨rfl, h3⟩
  have S3 := Lib.hid (S1.out.call h3); clear h3 S1
  go_wp2_with fail
  go_ret
  exact ⟨rfl, S3.out.1⟩

set_option maxRecDepth 100000 in
theorem joins_wrong2 (a b c d x : Int) (w : World) (hg : ErrT w) (h1 : a ≤ b) (h : ¬ c ≤ d) :
    Calls Tryd.prog 6 #[.agg #[.int .u64 a, .int .u64 b], .agg #[.int .u64 c, .int .u64 d], .int .u64 x] w (IsEnd true w) := by
  have k1 := fun w => right_any a b w
  rw [show decide (a ≤ b) = true from by simpa using h1] at k1
  have K1 := Lib.hid k1; clear k1
  have k2 := fun w => right_any c d w
  rw [show decide (c ≤ d) = false from by simpa using h] at k2
  have K2 := Lib.hid k2; clear k2
  have K5 := Lib.hid alive_any
  have Hg := Lib.hid hg; clear hg h h1
  go_enter Tryd.func6, Tryd.ntmps6
  go_wp2_with fail
  refine (K1.out _).mono ?_
  rintro e w1 ⟨rfl, h1⟩
  have S1 := Lib.hid ((Kp.two w _ _ _ _ _ _).call h1); clear h1
  obtain ⟨_, c0, c1, a0, a1, _⟩ := S1.out
  go_wp2_with fail
  refine (K2.out _).mono ?_
  rintro e w2 ⟨rfl, h2⟩
  have S2 := Lib.hid (S1.out.call h2); clear h2 S1 c0 c1 a0 a1
  go_wp2_with fail
  refine (K5.out _ (Hg.out.here S2.out.1)).mono ?_
  rintro e w3 ⟨rfl, h3⟩
  have S3 := Lib.hid (S2.out.call h3); clear h3 S2
  go_wp2_with fail
  go_ret
  exact ⟨rfl, S3.out.1⟩

set_option maxRecDepth 100000 in
set_option maxHeartbeats 2000000 in
theorem joins_yes1 (a b c d x lo hi : Int) (w : World) (hg : ErrT w) (ha : 0 ≤ a ∧ a ≤ 18446744073709551615) (hb : 0 ≤ b ∧ b ≤ 18446744073709551615) (hc : 0 ≤ c ∧ c ≤ 18446744073709551615) (hd : 0 ≤ d ∧ d ≤ 18446744073709551615) (h1 : a ≤ b) (h2 : c ≤ d) (hlo : (if c < a then c else a) = lo) (hhi : (if b < d then d else b) = hi) (hn : relN a b c d ≠ 0 ∧ relN a b c d ≠ 4) (hp : hasB a b x = true) :
    Calls Tryd.prog 6 #[.agg #[.int .u64 a, .int .u64 b], .agg #[.int .u64 c, .int .u64 d], .int .u64 x] w (IsEnd true w) := by
  have k1 := fun w => right_any a b w
  rw [show decide (a ≤ b) = true from by simpa using h1] at k1
  have K1 := Lib.hid k1; clear k1
  have k2 := fun w => right_any c d w
  rw [show decide (c ≤ d) = true from by simpa using h2] at k2
  have K2 := Lib.hid k2; clear k2
  have K5 := Lib.hid alive_any
  obtain ⟨q, hq⟩ : ∃ q, hasB c d x = q := ⟨_, rfl⟩
  have K3 := Lib.hid (fun w => join_yes a b c d lo hi w hlo hhi hb.1 hc.2 hd.1 ha.2 hn.1 hn.2)
  have K4 := Lib.hid (fun w => refJoin_yes a b c d lo hi w hlo hhi hb.1 hc.2 hd.1 ha.2 hn.1 hn.2)
  have hh := join_has x h1 h2 hn.1 hn.2 hlo hhi
  rw [hq] at hh
  rw [hp, Bool.true_or] at hh
  clear hlo hhi hn
  have K6 := Lib.hid hasR
  have Hg := Lib.hid hg
  clear hg h1 h2 ha hb hc hd
  go_enter Tryd.func6, Tryd.ntmps6
  go_wp2_with fail
  refine (K1.out _).mono ?_
  rintro e w1 ⟨rfl, h1⟩
  have S1 := Lib.hid ((Kp.two w _ _ _ _ _ _).call h1); clear h1
  obtain ⟨_, c0, c1, a0, a1, _⟩ := S1.out
  go_wp2_with fail
  refine (K2.out _).mono ?_
  rintro e w2 ⟨rfl, h2⟩
  have S2 := Lib.hid (S1.out.call h2); clear h2 S1 c0 c1 a0 a1
  obtain ⟨_, c0, c1, a0, a1, _⟩ := S2.out
  go_wp2_with fail
  refine (K3.out _).mono ?_
  rintro e w3 ⟨rfl, h3⟩
  have S3 := Lib.hid ((S2.out.call h3).new2 (.int .u64 lo) (.int .u64 hi) 24 _ rfl); clear h3 S2 c0 c1 a0 a1
  obtain ⟨_, m0, m1, c0, c1, a0, a1, _⟩ := S3.out
  go_wp2_with fail
  refine (K4.out _).mono ?_
  rintro e w4 ⟨rfl, h4⟩
  have S4 := Lib.hid ((S3.out.call h4).new2 (.int .u64 lo) (.int .u64 hi) 24 _ rfl); clear h4 S3 m0 m1 c0 c1 a0 a1
  have hs : Below w.heap.size w (w4.alloc (.cells #[.int .u64 lo, .int .u64 hi] 24)) ∧ (w4.alloc (.cells #[.int .u64 lo, .int .u64 hi] 24)).cell? ⟨w.heap.size + 1, 0, none⟩ = some (.int .u64 c) ∧ (w4.alloc (.cells #[.int .u64 lo, .int .u64 hi] 24)).cell? ⟨w.heap.size + 1, 1, none⟩ = some (.int .u64 d) ∧ (w4.alloc (.cells #[.int .u64 lo, .int .u64 hi] 24)).cell? ⟨w.heap.size, 0, none⟩ = some (.int .u64 a) ∧ (w4.alloc (.cells #[.int .u64 lo, .int .u64 hi] 24)).cell? ⟨w.heap.size, 1, none⟩ = some (.int .u64 b) ∧ (w4.alloc (.cells #[.int .u64 lo, .int .u64 hi] 24)).cell? ⟨w3.heap.size, 0, none⟩ = some (.int .u64 lo) ∧ (w4.alloc (.cells #[.int .u64 lo, .int .u64 hi] 24)).cell? ⟨w3.heap.size, 1, none⟩ = some (.int .u64 hi) ∧ (w4.alloc (.cells #[.int .u64 lo, .int .u64 hi] 24)).cell? ⟨w4.heap.size, 0, none⟩ = some (.int .u64 lo) ∧ (w4.alloc (.cells #[.int .u64 lo, .int .u64 hi] 24)).cell? ⟨w4.heap.size, 1, none⟩ = some (.int .u64 hi) := by
    obtain ⟨q, n0, n1, m0, m1, c0, c1, a0, a1, _⟩ := S4.out
    exact ⟨q, c0, c1, a0, a1, m0, m1, n0, n1⟩
  have HS := Lib.hid hs; clear hs
  go_wp2_with fail
  refine wp_region_held_drew (S := (fun w' => Below w.heap.size w w' ∧ w'.cell? ⟨w.heap.size + 1, 0, none⟩ = some (.int .u64 c) ∧ w'.cell? ⟨w.heap.size + 1, 1, none⟩ = some (.int .u64 d) ∧ w'.cell? ⟨w.heap.size, 0, none⟩ = some (.int .u64 a) ∧ w'.cell? ⟨w.heap.size, 1, none⟩ = some (.int .u64 b) ∧ w'.cell? ⟨w3.heap.size, 0, none⟩ = some (.int .u64 lo) ∧ w'.cell? ⟨w3.heap.size, 1, none⟩ = some (.int .u64 hi) ∧ w'.cell? ⟨w4.heap.size, 0, none⟩ = some (.int .u64 lo) ∧ w'.cell? ⟨w4.heap.size, 1, none⟩ = some (.int .u64 hi))) (by kernel_rfl) (keep_eight_drew HS.out) (fun hHeld => ?_)
  refine wpAnyH_ready (rs := [0]) (by kernel_rfl) (by simp) (AllReadyH.cons (o := { dst := some 32, op := Op.call { callee := Callee.value (Operand.func 11), args := #[], argTypes := #[] }, type := 4, pos := _, after := #[], guard := none }) rfl (fun K hK => ?_) AllReadyH.nil)
  go_simp
  refine (K5.out _ (Hg.out.here hHeld.1)).mono ?_
  rintro en wN ⟨rfl, hbN⟩
  have hbH := Lib.hid hbN; clear hbN
  go_wp2_with fail
  refine hK.out _ _ (keep_eight hHeld hbH) (fun hNew => ?_)
  clear hK K hHeld hbH
  have hHeld := hNew; clear hNew
  try simp only [Act.put, List.setIfInBounds_toArray, List.set_cons_zero, List.set_cons_succ]
  refine rtake (i := 1) (v := ?_) { dst := some 33, op := Op.move (Operand.tmp 32), type := 4, pos := _, after := #[{ on := 0, ground := Ground.data }, { on := 0, ground := Ground.chain }], guard := none } rfl (by kernel_rfl) (by kernel_rfl) (by kernel_rfl) (fun _ _ _ h => h) (by rfl) hHeld ?_ ?_
  rotate_left
  · intro wS hSw; (try dsimp only at hSw); go_simp <;> with_reducible rfl
  try simp only [Act.put, List.setIfInBounds_toArray, List.set_cons_zero, List.set_cons_succ]
  refine rtake (i := 2) (v := ?_) { dst := some 34, op := Op.load 24 (Operand.tmp 7), type := 24, pos := _, after := #[{ on := 1, ground := Ground.guard }], guard := some (1, true) } rfl (by kernel_rfl) (by kernel_rfl) (by kernel_rfl) (fun _ _ _ h => h) (by rfl) hHeld ?_ ?_
  rotate_left
  · intro wS hSw; (try dsimp only at hSw); go_simp <;> with_reducible rfl
  try simp only [Act.put, List.setIfInBounds_toArray, List.set_cons_zero, List.set_cons_succ]
  refine rtake (i := 3) (v := ?_) { dst := some 35, op := Op.load 24 (Operand.tmp 9), type := 24, pos := _, after := #[{ on := 1, ground := Ground.guard }], guard := some (1, true) } rfl (by kernel_rfl) (by kernel_rfl) (by kernel_rfl) (fun _ _ _ h => h) (by rfl) hHeld ?_ ?_
  rotate_left
  · intro wS hSw; (try dsimp only at hSw); go_simp <;> with_reducible rfl
  try simp only [Act.put, List.setIfInBounds_toArray, List.set_cons_zero, List.set_cons_succ]
  refine rtake (i := 4) (v := ?_) { dst := some 36, op := Op.binOp BinOp.eql 24 (Operand.tmp 34) (Operand.tmp 35) 24, type := 4, pos := _, after := #[{ on := 2, ground := Ground.data }, { on := 3, ground := Ground.data }, { on := 1, ground := Ground.guard }], guard := some (1, true) } rfl (by kernel_rfl) (by kernel_rfl) (by kernel_rfl) (fun _ _ _ h => h) (by rfl) hHeld ?_ ?_
  rotate_left
  · intro wS hSw; (try dsimp only at hSw); go_simp <;> with_reducible rfl
  try simp only [Act.put, List.setIfInBounds_toArray, List.set_cons_zero, List.set_cons_succ]
  refine rtake (i := 5) (v := ?_) { dst := some 37, op := Op.pick (Operand.tmp 33) (Operand.tmp 36) (Operand.const (Value.bool false)), type := 4, pos := _, after := #[{ on := 1, ground := Ground.data }, { on := 4, ground := Ground.data }], guard := none } rfl (by kernel_rfl) (by kernel_rfl) (by kernel_rfl) (fun _ _ _ h => h) (by rfl) hHeld ?_ ?_
  rotate_left
  · intro wS hSw; (try dsimp only at hSw); go_simp <;> with_reducible rfl
  try simp only [Act.put, List.setIfInBounds_toArray, List.set_cons_zero, List.set_cons_succ]
  refine rtake (i := 6) (v := ?_) { dst := some 38, op := Op.move (Operand.tmp 37), type := 4, pos := _, after := #[{ on := 5, ground := Ground.data }, { on := 1, ground := Ground.chain }], guard := none } rfl (by kernel_rfl) (by kernel_rfl) (by kernel_rfl) (fun _ _ _ h => h) (by rfl) hHeld ?_ ?_
  rotate_left
  · intro wS hSw; (try dsimp only at hSw); go_simp <;> with_reducible rfl
  try simp only [Act.put, List.setIfInBounds_toArray, List.set_cons_zero, List.set_cons_succ]
  refine rtake (i := 7) (v := ?_) { dst := some 39, op := Op.move (Operand.tmp 8), type := 4, pos := _, after := #[{ on := 6, ground := Ground.guard }], guard := some (6, true) } rfl (by kernel_rfl) (by kernel_rfl) (by kernel_rfl) (fun _ _ _ h => h) (by rfl) hHeld ?_ ?_
  rotate_left
  · intro wS hSw; (try dsimp only at hSw); go_simp <;> with_reducible rfl
  try simp only [Act.put, List.setIfInBounds_toArray, List.set_cons_zero, List.set_cons_succ]
  refine rtake (i := 8) (v := ?_) { dst := some 40, op := Op.move (Operand.tmp 10), type := 4, pos := _, after := #[{ on := 6, ground := Ground.guard }], guard := some (6, true) } rfl (by kernel_rfl) (by kernel_rfl) (by kernel_rfl) (fun _ _ _ h => h) (by rfl) hHeld ?_ ?_
  rotate_left
  · intro wS hSw; (try dsimp only at hSw); go_simp <;> with_reducible rfl
  try simp only [Act.put, List.setIfInBounds_toArray, List.set_cons_zero, List.set_cons_succ]
  refine rtake (i := 9) (v := ?_) { dst := some 41, op := Op.binOp BinOp.eql 4 (Operand.tmp 39) (Operand.tmp 40) 4, type := 4, pos := _, after := #[{ on := 7, ground := Ground.data }, { on := 8, ground := Ground.data }, { on := 6, ground := Ground.guard }], guard := some (6, true) } rfl (by kernel_rfl) (by kernel_rfl) (by kernel_rfl) (fun _ _ _ h => h) (by rfl) hHeld ?_ ?_
  rotate_left
  · intro wS hSw; (try dsimp only at hSw); go_simp <;> with_reducible rfl
  try simp only [Act.put, List.setIfInBounds_toArray, List.set_cons_zero, List.set_cons_succ]
  refine rtake (i := 10) (v := ?_) { dst := some 42, op := Op.pick (Operand.tmp 38) (Operand.tmp 41) (Operand.const (Value.bool false)), type := 4, pos := _, after := #[{ on := 6, ground := Ground.data }, { on := 9, ground := Ground.data }], guard := none } rfl (by kernel_rfl) (by kernel_rfl) (by kernel_rfl) (fun _ _ _ h => h) (by rfl) hHeld ?_ ?_
  rotate_left
  · intro wS hSw; (try dsimp only at hSw); go_simp <;> with_reducible rfl
  try simp only [Act.put, List.setIfInBounds_toArray, List.set_cons_zero, List.set_cons_succ]
  refine rtake (i := 11) (v := ?_) { dst := some 43, op := Op.move (Operand.tmp 42), type := 4, pos := _, after := #[{ on := 10, ground := Ground.data }, { on := 6, ground := Ground.chain }], guard := none } rfl (by kernel_rfl) (by kernel_rfl) (by kernel_rfl) (fun _ _ _ h => h) (by rfl) hHeld ?_ ?_
  rotate_left
  · intro wS hSw; (try dsimp only at hSw); go_simp <;> with_reducible rfl
  try simp only [Act.put, List.setIfInBounds_toArray, List.set_cons_zero, List.set_cons_succ]
  refine rtake (i := 12) (v := ?_) { dst := some 44, op := Op.move (Operand.tmp 8), type := 4, pos := _, after := #[{ on := 11, ground := Ground.guard }], guard := some (11, true) } rfl (by kernel_rfl) (by kernel_rfl) (by kernel_rfl) (fun _ _ _ h => h) (by rfl) hHeld ?_ ?_
  rotate_left
  · intro wS hSw; (try dsimp only at hSw); go_simp <;> with_reducible rfl
  try simp only [Act.put, List.setIfInBounds_toArray, List.set_cons_zero, List.set_cons_succ]
  refine rtake (i := 13) (v := ?_) { dst := some 45, op := Op.unOp UnOp.not 4 (Operand.tmp 44), type := 4, pos := _, after := #[{ on := 12, ground := Ground.data }, { on := 11, ground := Ground.guard }], guard := some (11, true) } rfl (by kernel_rfl) (by kernel_rfl) (by kernel_rfl) (fun _ _ _ h => h) (by rfl) hHeld ?_ ?_
  rotate_left
  · intro wS hSw; (try dsimp only at hSw); go_simp <;> with_reducible rfl
  try simp only [Act.put, List.setIfInBounds_toArray, List.set_cons_zero, List.set_cons_succ]
  refine rtake (i := 14) (v := ?_) { dst := some 46, op := Op.move (Operand.tmp 45), type := 4, pos := _, after := #[{ on := 13, ground := Ground.data }, { on := 11, ground := Ground.chain }, { on := 11, ground := Ground.guard }], guard := some (11, true) } rfl (by kernel_rfl) (by kernel_rfl) (by kernel_rfl) (fun _ _ _ h => h) (by rfl) hHeld ?_ ?_
  rotate_left
  · intro wS hSw; (try dsimp only at hSw); go_simp <;> with_reducible rfl
  try simp only [Act.put, List.setIfInBounds_toArray, List.set_cons_zero, List.set_cons_succ]
  refine rtake (i := 15) (v := ?_) { dst := some 47, op := Op.load 24 (Operand.tmp 7), type := 24, pos := _, after := #[{ on := 14, ground := Ground.guard }], guard := some (14, false) } rfl (by kernel_rfl) (by kernel_rfl) (by kernel_rfl) (fun _ _ _ h => h) (by rfl) hHeld ?_ ?_
  rotate_left
  · intro wS hSw; (try dsimp only at hSw); go_simp <;> with_reducible rfl
  try simp only [Act.put, List.setIfInBounds_toArray, List.set_cons_zero, List.set_cons_succ]
  refine rtake (i := 16) (v := ?_) { dst := some 48, op := Op.move (Operand.tmp 2), type := 22, pos := _, after := #[{ on := 14, ground := Ground.guard }], guard := some (14, false) } rfl (by kernel_rfl) (by kernel_rfl) (by kernel_rfl) (fun _ _ _ h => h) (by rfl) hHeld ?_ ?_
  rotate_left
  · intro wS hSw; (try dsimp only at hSw); go_simp <;> with_reducible rfl
  try simp only [Act.put, List.setIfInBounds_toArray, List.set_cons_zero, List.set_cons_succ]
  refine rtake (i := 18) (v := ?_) { dst := some 50, op := Op.load 24 (Operand.tmp 3), type := 24, pos := _, after := #[{ on := 14, ground := Ground.guard }], guard := some (14, false) } rfl (by kernel_rfl) (by kernel_rfl) (by kernel_rfl) (fun _ _ _ h => h) (by rfl) hHeld ?_ ?_
  rotate_left
  · intro wS hSw; (try dsimp only at hSw); go_simp <;> with_reducible rfl
  try simp only [Act.put, List.setIfInBounds_toArray, List.set_cons_zero, List.set_cons_succ]
  refine rtake (i := 19) (v := ?_) { dst := some 51, op := Op.move (Operand.tmp 2), type := 22, pos := _, after := #[{ on := 14, ground := Ground.guard }], guard := some (14, false) } rfl (by kernel_rfl) (by kernel_rfl) (by kernel_rfl) (fun _ _ _ h => h) (by rfl) hHeld ?_ ?_
  rotate_left
  · intro wS hSw; (try dsimp only at hSw); go_simp <;> with_reducible rfl
  try simp only [Act.put, List.setIfInBounds_toArray, List.set_cons_zero, List.set_cons_succ]
  refine wpAnyH_ready (rs := [17]) (by kernel_rfl) (by simp) (AllReadyH.cons (o := { dst := some 49, op := Op.call { callee := Callee.value (Operand.func 15), args := #[Operand.tmp 47, Operand.tmp 48], argTypes := #[24, 22] }, type := 4, pos := _, after := #[{ on := 15, ground := Ground.data }, { on := 16, ground := Ground.data }, { on := 14, ground := Ground.chain }, { on := 14, ground := Ground.guard }], guard := some (14, false) }) rfl (fun K hK => ?_) AllReadyH.nil)
  go_simp
  refine (K6.out _ _ _ _ _ (by assumption)).mono ?_
  rintro en wN ⟨rfl, hbN⟩
  have hbH := Lib.hid hbN; clear hbN
  go_wp2_with fail
  refine hK.out _ _ (keep_eight hHeld hbH) (fun hNew => ?_)
  clear hK K hHeld hbH
  have hHeld := hNew; clear hNew
  try simp only [Act.put, List.setIfInBounds_toArray, List.set_cons_zero, List.set_cons_succ]
  refine wpAnyH_ready (rs := [20]) (by kernel_rfl) (by simp) (AllReadyH.cons (o := { dst := some 52, op := Op.call { callee := Callee.value (Operand.func 15), args := #[Operand.tmp 50, Operand.tmp 51], argTypes := #[24, 22] }, type := 4, pos := _, after := #[{ on := 18, ground := Ground.data }, { on := 19, ground := Ground.data }, { on := 17, ground := Ground.chain }, { on := 14, ground := Ground.guard }], guard := some (14, false) }) rfl (fun K hK => ?_) AllReadyH.nil)
  go_simp
  refine (K6.out _ _ _ _ _ (by assumption)).mono ?_
  rintro en wN ⟨rfl, hbN⟩
  have hbH := Lib.hid hbN; clear hbN
  go_wp2_with fail
  refine hK.out _ _ (keep_eight hHeld hbH) (fun hNew => ?_)
  clear hK K hHeld hbH
  have hHeld := hNew; clear hNew
  try simp only [Act.put, List.setIfInBounds_toArray, List.set_cons_zero, List.set_cons_succ]
  refine rtake (i := 21) (v := ?_) { dst := some 53, op := Op.move (Operand.tmp 52), type := 4, pos := _, after := #[{ on := 20, ground := Ground.data }, { on := 20, ground := Ground.chain }, { on := 14, ground := Ground.guard }], guard := some (14, false) } rfl (by kernel_rfl) (by kernel_rfl) (by kernel_rfl) (fun _ _ _ h => h) (by rfl) hHeld ?_ ?_
  rotate_left
  · intro wS hSw; (try dsimp only at hSw); go_simp <;> with_reducible rfl
  try simp only [Act.put, List.setIfInBounds_toArray, List.set_cons_zero, List.set_cons_succ]
  refine rskip (i := 22) { dst := some 54, op := Op.load 24 (Operand.tmp 4), type := 24, pos := _, after := #[{ on := 21, ground := Ground.guard }], guard := some (21, false) } rfl (by kernel_rfl) (by kernel_rfl) (by kernel_rfl) (fun _ _ _ h => h) (by rfl) hHeld ?_
  try simp only [Act.put, List.setIfInBounds_toArray, List.set_cons_zero, List.set_cons_succ]
  refine rskip (i := 23) { dst := some 55, op := Op.move (Operand.tmp 2), type := 22, pos := _, after := #[{ on := 21, ground := Ground.guard }], guard := some (21, false) } rfl (by kernel_rfl) (by kernel_rfl) (by kernel_rfl) (fun _ _ _ h => h) (by rfl) hHeld ?_
  try simp only [Act.put, List.setIfInBounds_toArray, List.set_cons_zero, List.set_cons_succ]
  refine rskip (i := 24) { dst := some 56, op := Op.call { callee := Callee.value (Operand.func 15), args := #[Operand.tmp 54, Operand.tmp 55], argTypes := #[24, 22] }, type := 4, pos := _, after := #[{ on := 22, ground := Ground.data }, { on := 23, ground := Ground.data }, { on := 21, ground := Ground.chain }, { on := 21, ground := Ground.guard }], guard := some (21, false) } rfl (by kernel_rfl) (by kernel_rfl) (by kernel_rfl) (fun _ _ _ h => h) (by rfl) hHeld ?_
  try simp only [Act.put, List.setIfInBounds_toArray, List.set_cons_zero, List.set_cons_succ]
  refine rtake (i := 25) (v := ?_) { dst := some 57, op := Op.pick (Operand.tmp 53) (Operand.const (Value.bool true)) (Operand.tmp 56), type := 4, pos := _, after := #[{ on := 21, ground := Ground.data }, { on := 24, ground := Ground.data }, { on := 14, ground := Ground.guard }], guard := some (14, false) } rfl (by kernel_rfl) (by kernel_rfl) (by kernel_rfl) (fun _ _ _ h => h) (by rfl) hHeld ?_ ?_
  rotate_left
  · intro wS hSw; (try dsimp only at hSw); go_simp <;> with_reducible rfl
  try simp only [Act.put, List.setIfInBounds_toArray, List.set_cons_zero, List.set_cons_succ]
  refine rtake (i := 26) (v := ?_) { dst := some 58, op := Op.binOp BinOp.eql 4 (Operand.tmp 49) (Operand.tmp 57) 4, type := 4, pos := _, after := #[{ on := 17, ground := Ground.data }, { on := 25, ground := Ground.data }, { on := 14, ground := Ground.guard }], guard := some (14, false) } rfl (by kernel_rfl) (by kernel_rfl) (by kernel_rfl) (fun _ _ _ h => h) (by rfl) hHeld ?_ ?_
  rotate_left
  · intro wS hSw; (try dsimp only at hSw); go_simp <;> with_reducible rfl
  try simp only [Act.put, List.setIfInBounds_toArray, List.set_cons_zero, List.set_cons_succ]
  refine rtake (i := 27) (v := ?_) { dst := some 59, op := Op.pick (Operand.tmp 46) (Operand.const (Value.bool true)) (Operand.tmp 58), type := 4, pos := _, after := #[{ on := 14, ground := Ground.data }, { on := 26, ground := Ground.data }, { on := 11, ground := Ground.guard }], guard := some (11, true) } rfl (by kernel_rfl) (by kernel_rfl) (by kernel_rfl) (fun _ _ _ h => h) (by rfl) hHeld ?_ ?_
  rotate_left
  · intro wS hSw; (try dsimp only at hSw); go_simp <;> with_reducible rfl
  try simp only [Act.put, List.setIfInBounds_toArray, List.set_cons_zero, List.set_cons_succ]
  refine rtake (i := 28) (v := ?_) { dst := some 60, op := Op.pick (Operand.tmp 43) (Operand.tmp 59) (Operand.const (Value.bool false)), type := 4, pos := _, after := #[{ on := 11, ground := Ground.data }, { on := 27, ground := Ground.data }], guard := none } rfl (by kernel_rfl) (by kernel_rfl) (by kernel_rfl) (fun _ _ _ h => h) (by rfl) hHeld ?_ ?_
  rotate_left
  · intro wS hSw; (try dsimp only at hSw); go_simp <;> with_reducible rfl
  try simp only [Act.put, List.setIfInBounds_toArray, List.set_cons_zero, List.set_cons_succ]
  refine rtake (i := 29) (v := ?_) { dst := some 6, op := Op.assign (Operand.tmp 60), type := 4, pos := _, after := #[{ on := 28, ground := Ground.data }, { on := 24, ground := Ground.chain }, { on := 0, ground := Ground.phase }, { on := 1, ground := Ground.phase }, { on := 2, ground := Ground.phase }, { on := 3, ground := Ground.phase }, { on := 4, ground := Ground.phase }, { on := 5, ground := Ground.phase }, { on := 6, ground := Ground.phase }, { on := 7, ground := Ground.phase }, { on := 8, ground := Ground.phase }, { on := 9, ground := Ground.phase }, { on := 10, ground := Ground.phase }, { on := 11, ground := Ground.phase }, { on := 12, ground := Ground.phase }, { on := 13, ground := Ground.phase }, { on := 14, ground := Ground.phase }, { on := 15, ground := Ground.phase }, { on := 16, ground := Ground.phase }, { on := 17, ground := Ground.phase }, { on := 18, ground := Ground.phase }, { on := 19, ground := Ground.phase }, { on := 20, ground := Ground.phase }, { on := 21, ground := Ground.phase }, { on := 22, ground := Ground.phase }, { on := 23, ground := Ground.phase }, { on := 24, ground := Ground.phase }, { on := 25, ground := Ground.phase }, { on := 26, ground := Ground.phase }, { on := 27, ground := Ground.phase }, { on := 28, ground := Ground.phase }], guard := none } rfl (by kernel_rfl) (by kernel_rfl) (by kernel_rfl) (fun _ _ _ h => h) (by rfl) hHeld ?_ ?_
  rotate_left
  · intro wS hSw; (try dsimp only at hSw); go_simp <;> with_reducible rfl
  try simp only [Act.put, List.setIfInBounds_toArray, List.set_cons_zero, List.set_cons_succ]
  refine wpAnyH_done (by kernel_rfl) ?_ _
  go_wp2_with fail
  go_ret
  exact ⟨rfl, hHeld.1⟩

set_option maxRecDepth 100000 in
set_option maxHeartbeats 2000000 in
theorem joins_yes0 (a b c d x lo hi : Int) (w : World) (hg : ErrT w) (ha : 0 ≤ a ∧ a ≤ 18446744073709551615) (hb : 0 ≤ b ∧ b ≤ 18446744073709551615) (hc : 0 ≤ c ∧ c ≤ 18446744073709551615) (hd : 0 ≤ d ∧ d ≤ 18446744073709551615) (h1 : a ≤ b) (h2 : c ≤ d) (hlo : (if c < a then c else a) = lo) (hhi : (if b < d then d else b) = hi) (hn : relN a b c d ≠ 0 ∧ relN a b c d ≠ 4) (hp : hasB a b x = false) :
    Calls Tryd.prog 6 #[.agg #[.int .u64 a, .int .u64 b], .agg #[.int .u64 c, .int .u64 d], .int .u64 x] w (IsEnd true w) := by
  have k1 := fun w => right_any a b w
  rw [show decide (a ≤ b) = true from by simpa using h1] at k1
  have K1 := Lib.hid k1; clear k1
  have k2 := fun w => right_any c d w
  rw [show decide (c ≤ d) = true from by simpa using h2] at k2
  have K2 := Lib.hid k2; clear k2
  have K5 := Lib.hid alive_any
  obtain ⟨q, hq⟩ : ∃ q, hasB c d x = q := ⟨_, rfl⟩
  have K3 := Lib.hid (fun w => join_yes a b c d lo hi w hlo hhi hb.1 hc.2 hd.1 ha.2 hn.1 hn.2)
  have K4 := Lib.hid (fun w => refJoin_yes a b c d lo hi w hlo hhi hb.1 hc.2 hd.1 ha.2 hn.1 hn.2)
  have hh := join_has x h1 h2 hn.1 hn.2 hlo hhi
  rw [hq] at hh
  rw [hp, Bool.false_or] at hh
  clear hlo hhi hn
  have K6 := Lib.hid hasR
  have Hg := Lib.hid hg
  clear hg h1 h2 ha hb hc hd
  go_enter Tryd.func6, Tryd.ntmps6
  go_wp2_with fail
  refine (K1.out _).mono ?_
  rintro e w1 ⟨rfl, h1⟩
  have S1 := Lib.hid ((Kp.two w _ _ _ _ _ _).call h1); clear h1
  obtain ⟨_, c0, c1, a0, a1, _⟩ := S1.out
  go_wp2_with fail
  refine (K2.out _).mono ?_
  rintro e w2 ⟨rfl, h2⟩
  have S2 := Lib.hid (S1.out.call h2); clear h2 S1 c0 c1 a0 a1
  obtain ⟨_, c0, c1, a0, a1, _⟩ := S2.out
  go_wp2_with fail
  refine (K3.out _).mono ?_
  rintro e w3 ⟨rfl, h3⟩
  have S3 := Lib.hid ((S2.out.call h3).new2 (.int .u64 lo) (.int .u64 hi) 24 _ rfl); clear h3 S2 c0 c1 a0 a1
  obtain ⟨_, m0, m1, c0, c1, a0, a1, _⟩ := S3.out
  go_wp2_with fail
  refine (K4.out _).mono ?_
  rintro e w4 ⟨rfl, h4⟩
  have S4 := Lib.hid ((S3.out.call h4).new2 (.int .u64 lo) (.int .u64 hi) 24 _ rfl); clear h4 S3 m0 m1 c0 c1 a0 a1
  have hs : Below w.heap.size w (w4.alloc (.cells #[.int .u64 lo, .int .u64 hi] 24)) ∧ (w4.alloc (.cells #[.int .u64 lo, .int .u64 hi] 24)).cell? ⟨w.heap.size + 1, 0, none⟩ = some (.int .u64 c) ∧ (w4.alloc (.cells #[.int .u64 lo, .int .u64 hi] 24)).cell? ⟨w.heap.size + 1, 1, none⟩ = some (.int .u64 d) ∧ (w4.alloc (.cells #[.int .u64 lo, .int .u64 hi] 24)).cell? ⟨w.heap.size, 0, none⟩ = some (.int .u64 a) ∧ (w4.alloc (.cells #[.int .u64 lo, .int .u64 hi] 24)).cell? ⟨w.heap.size, 1, none⟩ = some (.int .u64 b) ∧ (w4.alloc (.cells #[.int .u64 lo, .int .u64 hi] 24)).cell? ⟨w3.heap.size, 0, none⟩ = some (.int .u64 lo) ∧ (w4.alloc (.cells #[.int .u64 lo, .int .u64 hi] 24)).cell? ⟨w3.heap.size, 1, none⟩ = some (.int .u64 hi) ∧ (w4.alloc (.cells #[.int .u64 lo, .int .u64 hi] 24)).cell? ⟨w4.heap.size, 0, none⟩ = some (.int .u64 lo) ∧ (w4.alloc (.cells #[.int .u64 lo, .int .u64 hi] 24)).cell? ⟨w4.heap.size, 1, none⟩ = some (.int .u64 hi) := by
    obtain ⟨q, n0, n1, m0, m1, c0, c1, a0, a1, _⟩ := S4.out
    exact ⟨q, c0, c1, a0, a1, m0, m1, n0, n1⟩
  have HS := Lib.hid hs; clear hs
  go_wp2_with fail
  go_region_held3 (fun w' => Below w.heap.size w w' ∧ w'.cell? ⟨w.heap.size + 1, 0, none⟩ = some (.int .u64 c) ∧ w'.cell? ⟨w.heap.size + 1, 1, none⟩ = some (.int .u64 d) ∧ w'.cell? ⟨w.heap.size, 0, none⟩ = some (.int .u64 a) ∧ w'.cell? ⟨w.heap.size, 1, none⟩ = some (.int .u64 b) ∧ w'.cell? ⟨w3.heap.size, 0, none⟩ = some (.int .u64 lo) ∧ w'.cell? ⟨w3.heap.size, 1, none⟩ = some (.int .u64 hi) ∧ w'.cell? ⟨w4.heap.size, 0, none⟩ = some (.int .u64 lo) ∧ w'.cell? ⟨w4.heap.size, 1, none⟩ = some (.int .u64 hi))
    (first
      | exact keep_eight (by assumption) (by assumption)
      | exact keep_eight_drew (by assumption)
      | exact HS.out
      | assumption)
    (first
      | (go_at_call 11; refine (K5.out _ (Hg.out.here (by first | exact (‹Below w.heap.size w _ ∧ _›).1))).mono ?_; rintro en w' ⟨rfl, hb4'⟩; have hb4 := Lib.hid hb4'; clear hb4')
      | (go_at_call 15; refine (K6.out _ _ _ _ _ (by assumption)).mono ?_; rintro en w' ⟨rfl, hb4'⟩; have hb4 := Lib.hid hb4'; clear hb4'))
  all_goals
    rename_i hE
    go_wp2_with fail
    go_ret
    exact ⟨rfl, hE.1⟩

set_option maxRecDepth 100000 in
set_option maxHeartbeats 2000000 in
theorem joins_no (a b c d x : Int) (w : World) (hg : ErrT w) (ha : 0 ≤ a ∧ a ≤ 18446744073709551615) (hb : 0 ≤ b ∧ b ≤ 18446744073709551615) (hc : 0 ≤ c ∧ c ≤ 18446744073709551615) (hd : 0 ≤ d ∧ d ≤ 18446744073709551615) (h1 : a ≤ b) (h2 : c ≤ d) (hn : relN a b c d = 0 ∨ relN a b c d = 4) :
    Calls Tryd.prog 6 #[.agg #[.int .u64 a, .int .u64 b], .agg #[.int .u64 c, .int .u64 d], .int .u64 x] w (IsEnd true w) := by
  have k1 := fun w => right_any a b w
  rw [show decide (a ≤ b) = true from by simpa using h1] at k1
  have K1 := Lib.hid k1; clear k1
  have k2 := fun w => right_any c d w
  rw [show decide (c ≤ d) = true from by simpa using h2] at k2
  have K2 := Lib.hid k2; clear k2
  have K5 := Lib.hid alive_any
  obtain ⟨q, hq⟩ : ∃ q, hasB c d x = q := ⟨_, rfl⟩
  have K3 := Lib.hid (fun w => join_no a b c d w hb.1 hc.2 hd.1 ha.2 hn)
  have K4 := Lib.hid (fun w => refJoin_no a b c d w hb.1 hc.2 hd.1 ha.2 hn)
  clear hn
  have K6 := Lib.hid hasR
  have Hg := Lib.hid hg
  clear hg h1 h2 ha hb hc hd
  go_enter Tryd.func6, Tryd.ntmps6
  go_wp2_with fail
  refine (K1.out _).mono ?_
  rintro e w1 ⟨rfl, h1⟩
  have S1 := Lib.hid ((Kp.two w _ _ _ _ _ _).call h1); clear h1
  obtain ⟨_, c0, c1, a0, a1, _⟩ := S1.out
  go_wp2_with fail
  refine (K2.out _).mono ?_
  rintro e w2 ⟨rfl, h2⟩
  have S2 := Lib.hid (S1.out.call h2); clear h2 S1 c0 c1 a0 a1
  obtain ⟨_, c0, c1, a0, a1, _⟩ := S2.out
  go_wp2_with fail
  refine (K3.out _).mono ?_
  rintro e w3 ⟨rfl, h3⟩
  have S3 := Lib.hid ((S2.out.call h3).new2 (.int .u64 0) (.int .u64 0) 24 _ rfl); clear h3 S2 c0 c1 a0 a1
  obtain ⟨_, m0, m1, c0, c1, a0, a1, _⟩ := S3.out
  go_wp2_with fail
  refine (K4.out _).mono ?_
  rintro e w4 ⟨rfl, h4⟩
  have S4 := Lib.hid ((S3.out.call h4).new2 (.int .u64 0) (.int .u64 0) 24 _ rfl); clear h4 S3 m0 m1 c0 c1 a0 a1
  have hs : Below w.heap.size w (w4.alloc (.cells #[.int .u64 0, .int .u64 0] 24)) ∧ (w4.alloc (.cells #[.int .u64 0, .int .u64 0] 24)).cell? ⟨w.heap.size + 1, 0, none⟩ = some (.int .u64 c) ∧ (w4.alloc (.cells #[.int .u64 0, .int .u64 0] 24)).cell? ⟨w.heap.size + 1, 1, none⟩ = some (.int .u64 d) ∧ (w4.alloc (.cells #[.int .u64 0, .int .u64 0] 24)).cell? ⟨w.heap.size, 0, none⟩ = some (.int .u64 a) ∧ (w4.alloc (.cells #[.int .u64 0, .int .u64 0] 24)).cell? ⟨w.heap.size, 1, none⟩ = some (.int .u64 b) ∧ (w4.alloc (.cells #[.int .u64 0, .int .u64 0] 24)).cell? ⟨w3.heap.size, 0, none⟩ = some (.int .u64 0) ∧ (w4.alloc (.cells #[.int .u64 0, .int .u64 0] 24)).cell? ⟨w3.heap.size, 1, none⟩ = some (.int .u64 0) ∧ (w4.alloc (.cells #[.int .u64 0, .int .u64 0] 24)).cell? ⟨w4.heap.size, 0, none⟩ = some (.int .u64 0) ∧ (w4.alloc (.cells #[.int .u64 0, .int .u64 0] 24)).cell? ⟨w4.heap.size, 1, none⟩ = some (.int .u64 0) := by
    obtain ⟨q, n0, n1, m0, m1, c0, c1, a0, a1, _⟩ := S4.out
    exact ⟨q, c0, c1, a0, a1, m0, m1, n0, n1⟩
  have HS := Lib.hid hs; clear hs
  go_wp2_with fail
  refine wp_region_held_drew (S := (fun w' => Below w.heap.size w w' ∧ w'.cell? ⟨w.heap.size + 1, 0, none⟩ = some (.int .u64 c) ∧ w'.cell? ⟨w.heap.size + 1, 1, none⟩ = some (.int .u64 d) ∧ w'.cell? ⟨w.heap.size, 0, none⟩ = some (.int .u64 a) ∧ w'.cell? ⟨w.heap.size, 1, none⟩ = some (.int .u64 b) ∧ w'.cell? ⟨w3.heap.size, 0, none⟩ = some (.int .u64 0) ∧ w'.cell? ⟨w3.heap.size, 1, none⟩ = some (.int .u64 0) ∧ w'.cell? ⟨w4.heap.size, 0, none⟩ = some (.int .u64 0) ∧ w'.cell? ⟨w4.heap.size, 1, none⟩ = some (.int .u64 0))) (by kernel_rfl) (keep_eight_drew HS.out) (fun hHeld => ?_)
  refine wpAnyH_ready (rs := [0]) (by kernel_rfl) (by simp) (AllReadyH.cons (o := { dst := some 32, op := Op.call { callee := Callee.value (Operand.func 11), args := #[], argTypes := #[] }, type := 4, pos := _, after := #[], guard := none }) rfl (fun K hK => ?_) AllReadyH.nil)
  go_simp
  refine (K5.out _ (Hg.out.here hHeld.1)).mono ?_
  rintro en wN ⟨rfl, hbN⟩
  have hbH := Lib.hid hbN; clear hbN
  go_wp2_with fail
  refine hK.out _ _ (keep_eight hHeld hbH) (fun hNew => ?_)
  clear hK K hHeld hbH
  have hHeld := hNew; clear hNew
  try simp only [Act.put, List.setIfInBounds_toArray, List.set_cons_zero, List.set_cons_succ]
  refine rtake (i := 1) (v := ?_) { dst := some 33, op := Op.move (Operand.tmp 32), type := 4, pos := _, after := #[{ on := 0, ground := Ground.data }, { on := 0, ground := Ground.chain }], guard := none } rfl (by kernel_rfl) (by kernel_rfl) (by kernel_rfl) (fun _ _ _ h => h) (by rfl) hHeld ?_ ?_
  rotate_left
  · intro wS hSw; (try dsimp only at hSw); go_simp <;> with_reducible rfl
  try simp only [Act.put, List.setIfInBounds_toArray, List.set_cons_zero, List.set_cons_succ]
  refine rtake (i := 2) (v := ?_) { dst := some 34, op := Op.load 24 (Operand.tmp 7), type := 24, pos := _, after := #[{ on := 1, ground := Ground.guard }], guard := some (1, true) } rfl (by kernel_rfl) (by kernel_rfl) (by kernel_rfl) (fun _ _ _ h => h) (by rfl) hHeld ?_ ?_
  rotate_left
  · intro wS hSw; (try dsimp only at hSw); go_simp <;> with_reducible rfl
  try simp only [Act.put, List.setIfInBounds_toArray, List.set_cons_zero, List.set_cons_succ]
  refine rtake (i := 3) (v := ?_) { dst := some 35, op := Op.load 24 (Operand.tmp 9), type := 24, pos := _, after := #[{ on := 1, ground := Ground.guard }], guard := some (1, true) } rfl (by kernel_rfl) (by kernel_rfl) (by kernel_rfl) (fun _ _ _ h => h) (by rfl) hHeld ?_ ?_
  rotate_left
  · intro wS hSw; (try dsimp only at hSw); go_simp <;> with_reducible rfl
  try simp only [Act.put, List.setIfInBounds_toArray, List.set_cons_zero, List.set_cons_succ]
  refine rtake (i := 4) (v := ?_) { dst := some 36, op := Op.binOp BinOp.eql 24 (Operand.tmp 34) (Operand.tmp 35) 24, type := 4, pos := _, after := #[{ on := 2, ground := Ground.data }, { on := 3, ground := Ground.data }, { on := 1, ground := Ground.guard }], guard := some (1, true) } rfl (by kernel_rfl) (by kernel_rfl) (by kernel_rfl) (fun _ _ _ h => h) (by rfl) hHeld ?_ ?_
  rotate_left
  · intro wS hSw; (try dsimp only at hSw); go_simp <;> with_reducible rfl
  try simp only [Act.put, List.setIfInBounds_toArray, List.set_cons_zero, List.set_cons_succ]
  refine rtake (i := 5) (v := ?_) { dst := some 37, op := Op.pick (Operand.tmp 33) (Operand.tmp 36) (Operand.const (Value.bool false)), type := 4, pos := _, after := #[{ on := 1, ground := Ground.data }, { on := 4, ground := Ground.data }], guard := none } rfl (by kernel_rfl) (by kernel_rfl) (by kernel_rfl) (fun _ _ _ h => h) (by rfl) hHeld ?_ ?_
  rotate_left
  · intro wS hSw; (try dsimp only at hSw); go_simp <;> with_reducible rfl
  try simp only [Act.put, List.setIfInBounds_toArray, List.set_cons_zero, List.set_cons_succ]
  refine rtake (i := 6) (v := ?_) { dst := some 38, op := Op.move (Operand.tmp 37), type := 4, pos := _, after := #[{ on := 5, ground := Ground.data }, { on := 1, ground := Ground.chain }], guard := none } rfl (by kernel_rfl) (by kernel_rfl) (by kernel_rfl) (fun _ _ _ h => h) (by rfl) hHeld ?_ ?_
  rotate_left
  · intro wS hSw; (try dsimp only at hSw); go_simp <;> with_reducible rfl
  try simp only [Act.put, List.setIfInBounds_toArray, List.set_cons_zero, List.set_cons_succ]
  refine rtake (i := 7) (v := ?_) { dst := some 39, op := Op.move (Operand.tmp 8), type := 4, pos := _, after := #[{ on := 6, ground := Ground.guard }], guard := some (6, true) } rfl (by kernel_rfl) (by kernel_rfl) (by kernel_rfl) (fun _ _ _ h => h) (by rfl) hHeld ?_ ?_
  rotate_left
  · intro wS hSw; (try dsimp only at hSw); go_simp <;> with_reducible rfl
  try simp only [Act.put, List.setIfInBounds_toArray, List.set_cons_zero, List.set_cons_succ]
  refine rtake (i := 8) (v := ?_) { dst := some 40, op := Op.move (Operand.tmp 10), type := 4, pos := _, after := #[{ on := 6, ground := Ground.guard }], guard := some (6, true) } rfl (by kernel_rfl) (by kernel_rfl) (by kernel_rfl) (fun _ _ _ h => h) (by rfl) hHeld ?_ ?_
  rotate_left
  · intro wS hSw; (try dsimp only at hSw); go_simp <;> with_reducible rfl
  try simp only [Act.put, List.setIfInBounds_toArray, List.set_cons_zero, List.set_cons_succ]
  refine rtake (i := 9) (v := ?_) { dst := some 41, op := Op.binOp BinOp.eql 4 (Operand.tmp 39) (Operand.tmp 40) 4, type := 4, pos := _, after := #[{ on := 7, ground := Ground.data }, { on := 8, ground := Ground.data }, { on := 6, ground := Ground.guard }], guard := some (6, true) } rfl (by kernel_rfl) (by kernel_rfl) (by kernel_rfl) (fun _ _ _ h => h) (by rfl) hHeld ?_ ?_
  rotate_left
  · intro wS hSw; (try dsimp only at hSw); go_simp <;> with_reducible rfl
  try simp only [Act.put, List.setIfInBounds_toArray, List.set_cons_zero, List.set_cons_succ]
  refine rtake (i := 10) (v := ?_) { dst := some 42, op := Op.pick (Operand.tmp 38) (Operand.tmp 41) (Operand.const (Value.bool false)), type := 4, pos := _, after := #[{ on := 6, ground := Ground.data }, { on := 9, ground := Ground.data }], guard := none } rfl (by kernel_rfl) (by kernel_rfl) (by kernel_rfl) (fun _ _ _ h => h) (by rfl) hHeld ?_ ?_
  rotate_left
  · intro wS hSw; (try dsimp only at hSw); go_simp <;> with_reducible rfl
  try simp only [Act.put, List.setIfInBounds_toArray, List.set_cons_zero, List.set_cons_succ]
  refine rtake (i := 11) (v := ?_) { dst := some 43, op := Op.move (Operand.tmp 42), type := 4, pos := _, after := #[{ on := 10, ground := Ground.data }, { on := 6, ground := Ground.chain }], guard := none } rfl (by kernel_rfl) (by kernel_rfl) (by kernel_rfl) (fun _ _ _ h => h) (by rfl) hHeld ?_ ?_
  rotate_left
  · intro wS hSw; (try dsimp only at hSw); go_simp <;> with_reducible rfl
  try simp only [Act.put, List.setIfInBounds_toArray, List.set_cons_zero, List.set_cons_succ]
  refine rtake (i := 12) (v := ?_) { dst := some 44, op := Op.move (Operand.tmp 8), type := 4, pos := _, after := #[{ on := 11, ground := Ground.guard }], guard := some (11, true) } rfl (by kernel_rfl) (by kernel_rfl) (by kernel_rfl) (fun _ _ _ h => h) (by rfl) hHeld ?_ ?_
  rotate_left
  · intro wS hSw; (try dsimp only at hSw); go_simp <;> with_reducible rfl
  try simp only [Act.put, List.setIfInBounds_toArray, List.set_cons_zero, List.set_cons_succ]
  refine rtake (i := 13) (v := ?_) { dst := some 45, op := Op.unOp UnOp.not 4 (Operand.tmp 44), type := 4, pos := _, after := #[{ on := 12, ground := Ground.data }, { on := 11, ground := Ground.guard }], guard := some (11, true) } rfl (by kernel_rfl) (by kernel_rfl) (by kernel_rfl) (fun _ _ _ h => h) (by rfl) hHeld ?_ ?_
  rotate_left
  · intro wS hSw; (try dsimp only at hSw); go_simp <;> with_reducible rfl
  try simp only [Act.put, List.setIfInBounds_toArray, List.set_cons_zero, List.set_cons_succ]
  refine rtake (i := 14) (v := ?_) { dst := some 46, op := Op.move (Operand.tmp 45), type := 4, pos := _, after := #[{ on := 13, ground := Ground.data }, { on := 11, ground := Ground.chain }, { on := 11, ground := Ground.guard }], guard := some (11, true) } rfl (by kernel_rfl) (by kernel_rfl) (by kernel_rfl) (fun _ _ _ h => h) (by rfl) hHeld ?_ ?_
  rotate_left
  · intro wS hSw; (try dsimp only at hSw); go_simp <;> with_reducible rfl
  try simp only [Act.put, List.setIfInBounds_toArray, List.set_cons_zero, List.set_cons_succ]
  refine rskip (i := 15) { dst := some 47, op := Op.load 24 (Operand.tmp 7), type := 24, pos := _, after := #[{ on := 14, ground := Ground.guard }], guard := some (14, false) } rfl (by kernel_rfl) (by kernel_rfl) (by kernel_rfl) (fun _ _ _ h => h) (by rfl) hHeld ?_
  try simp only [Act.put, List.setIfInBounds_toArray, List.set_cons_zero, List.set_cons_succ]
  refine rskip (i := 16) { dst := some 48, op := Op.move (Operand.tmp 2), type := 22, pos := _, after := #[{ on := 14, ground := Ground.guard }], guard := some (14, false) } rfl (by kernel_rfl) (by kernel_rfl) (by kernel_rfl) (fun _ _ _ h => h) (by rfl) hHeld ?_
  try simp only [Act.put, List.setIfInBounds_toArray, List.set_cons_zero, List.set_cons_succ]
  refine rskip (i := 17) { dst := some 49, op := Op.call { callee := Callee.value (Operand.func 15), args := #[Operand.tmp 47, Operand.tmp 48], argTypes := #[24, 22] }, type := 4, pos := _, after := #[{ on := 15, ground := Ground.data }, { on := 16, ground := Ground.data }, { on := 14, ground := Ground.chain }, { on := 14, ground := Ground.guard }], guard := some (14, false) } rfl (by kernel_rfl) (by kernel_rfl) (by kernel_rfl) (fun _ _ _ h => h) (by rfl) hHeld ?_
  try simp only [Act.put, List.setIfInBounds_toArray, List.set_cons_zero, List.set_cons_succ]
  refine rskip (i := 18) { dst := some 50, op := Op.load 24 (Operand.tmp 3), type := 24, pos := _, after := #[{ on := 14, ground := Ground.guard }], guard := some (14, false) } rfl (by kernel_rfl) (by kernel_rfl) (by kernel_rfl) (fun _ _ _ h => h) (by rfl) hHeld ?_
  try simp only [Act.put, List.setIfInBounds_toArray, List.set_cons_zero, List.set_cons_succ]
  refine rskip (i := 19) { dst := some 51, op := Op.move (Operand.tmp 2), type := 22, pos := _, after := #[{ on := 14, ground := Ground.guard }], guard := some (14, false) } rfl (by kernel_rfl) (by kernel_rfl) (by kernel_rfl) (fun _ _ _ h => h) (by rfl) hHeld ?_
  try simp only [Act.put, List.setIfInBounds_toArray, List.set_cons_zero, List.set_cons_succ]
  refine rskip (i := 20) { dst := some 52, op := Op.call { callee := Callee.value (Operand.func 15), args := #[Operand.tmp 50, Operand.tmp 51], argTypes := #[24, 22] }, type := 4, pos := _, after := #[{ on := 18, ground := Ground.data }, { on := 19, ground := Ground.data }, { on := 17, ground := Ground.chain }, { on := 14, ground := Ground.guard }], guard := some (14, false) } rfl (by kernel_rfl) (by kernel_rfl) (by kernel_rfl) (fun _ _ _ h => h) (by rfl) hHeld ?_
  try simp only [Act.put, List.setIfInBounds_toArray, List.set_cons_zero, List.set_cons_succ]
  refine rskip (i := 21) { dst := some 53, op := Op.move (Operand.tmp 52), type := 4, pos := _, after := #[{ on := 20, ground := Ground.data }, { on := 20, ground := Ground.chain }, { on := 14, ground := Ground.guard }], guard := some (14, false) } rfl (by kernel_rfl) (by kernel_rfl) (by kernel_rfl) (fun _ _ _ h => h) (by rfl) hHeld ?_
  try simp only [Act.put, List.setIfInBounds_toArray, List.set_cons_zero, List.set_cons_succ]
  refine rskip (i := 22) { dst := some 54, op := Op.load 24 (Operand.tmp 4), type := 24, pos := _, after := #[{ on := 21, ground := Ground.guard }], guard := some (21, false) } rfl (by kernel_rfl) (by kernel_rfl) (by kernel_rfl) (fun _ _ _ h => h) (by rfl) hHeld ?_
  try simp only [Act.put, List.setIfInBounds_toArray, List.set_cons_zero, List.set_cons_succ]
  refine rskip (i := 23) { dst := some 55, op := Op.move (Operand.tmp 2), type := 22, pos := _, after := #[{ on := 21, ground := Ground.guard }], guard := some (21, false) } rfl (by kernel_rfl) (by kernel_rfl) (by kernel_rfl) (fun _ _ _ h => h) (by rfl) hHeld ?_
  try simp only [Act.put, List.setIfInBounds_toArray, List.set_cons_zero, List.set_cons_succ]
  refine rskip (i := 24) { dst := some 56, op := Op.call { callee := Callee.value (Operand.func 15), args := #[Operand.tmp 54, Operand.tmp 55], argTypes := #[24, 22] }, type := 4, pos := _, after := #[{ on := 22, ground := Ground.data }, { on := 23, ground := Ground.data }, { on := 21, ground := Ground.chain }, { on := 21, ground := Ground.guard }], guard := some (21, false) } rfl (by kernel_rfl) (by kernel_rfl) (by kernel_rfl) (fun _ _ _ h => h) (by rfl) hHeld ?_
  try simp only [Act.put, List.setIfInBounds_toArray, List.set_cons_zero, List.set_cons_succ]
  refine rskip (i := 25) { dst := some 57, op := Op.pick (Operand.tmp 53) (Operand.const (Value.bool true)) (Operand.tmp 56), type := 4, pos := _, after := #[{ on := 21, ground := Ground.data }, { on := 24, ground := Ground.data }, { on := 14, ground := Ground.guard }], guard := some (14, false) } rfl (by kernel_rfl) (by kernel_rfl) (by kernel_rfl) (fun _ _ _ h => h) (by rfl) hHeld ?_
  try simp only [Act.put, List.setIfInBounds_toArray, List.set_cons_zero, List.set_cons_succ]
  refine rskip (i := 26) { dst := some 58, op := Op.binOp BinOp.eql 4 (Operand.tmp 49) (Operand.tmp 57) 4, type := 4, pos := _, after := #[{ on := 17, ground := Ground.data }, { on := 25, ground := Ground.data }, { on := 14, ground := Ground.guard }], guard := some (14, false) } rfl (by kernel_rfl) (by kernel_rfl) (by kernel_rfl) (fun _ _ _ h => h) (by rfl) hHeld ?_
  try simp only [Act.put, List.setIfInBounds_toArray, List.set_cons_zero, List.set_cons_succ]
  refine rtake (i := 27) (v := ?_) { dst := some 59, op := Op.pick (Operand.tmp 46) (Operand.const (Value.bool true)) (Operand.tmp 58), type := 4, pos := _, after := #[{ on := 14, ground := Ground.data }, { on := 26, ground := Ground.data }, { on := 11, ground := Ground.guard }], guard := some (11, true) } rfl (by kernel_rfl) (by kernel_rfl) (by kernel_rfl) (fun _ _ _ h => h) (by rfl) hHeld ?_ ?_
  rotate_left
  · intro wS hSw; (try dsimp only at hSw); go_simp <;> with_reducible rfl
  try simp only [Act.put, List.setIfInBounds_toArray, List.set_cons_zero, List.set_cons_succ]
  refine rtake (i := 28) (v := ?_) { dst := some 60, op := Op.pick (Operand.tmp 43) (Operand.tmp 59) (Operand.const (Value.bool false)), type := 4, pos := _, after := #[{ on := 11, ground := Ground.data }, { on := 27, ground := Ground.data }], guard := none } rfl (by kernel_rfl) (by kernel_rfl) (by kernel_rfl) (fun _ _ _ h => h) (by rfl) hHeld ?_ ?_
  rotate_left
  · intro wS hSw; (try dsimp only at hSw); go_simp <;> with_reducible rfl
  try simp only [Act.put, List.setIfInBounds_toArray, List.set_cons_zero, List.set_cons_succ]
  refine rtake (i := 29) (v := ?_) { dst := some 6, op := Op.assign (Operand.tmp 60), type := 4, pos := _, after := #[{ on := 28, ground := Ground.data }, { on := 24, ground := Ground.chain }, { on := 0, ground := Ground.phase }, { on := 1, ground := Ground.phase }, { on := 2, ground := Ground.phase }, { on := 3, ground := Ground.phase }, { on := 4, ground := Ground.phase }, { on := 5, ground := Ground.phase }, { on := 6, ground := Ground.phase }, { on := 7, ground := Ground.phase }, { on := 8, ground := Ground.phase }, { on := 9, ground := Ground.phase }, { on := 10, ground := Ground.phase }, { on := 11, ground := Ground.phase }, { on := 12, ground := Ground.phase }, { on := 13, ground := Ground.phase }, { on := 14, ground := Ground.phase }, { on := 15, ground := Ground.phase }, { on := 16, ground := Ground.phase }, { on := 17, ground := Ground.phase }, { on := 18, ground := Ground.phase }, { on := 19, ground := Ground.phase }, { on := 20, ground := Ground.phase }, { on := 21, ground := Ground.phase }, { on := 22, ground := Ground.phase }, { on := 23, ground := Ground.phase }, { on := 24, ground := Ground.phase }, { on := 25, ground := Ground.phase }, { on := 26, ground := Ground.phase }, { on := 27, ground := Ground.phase }, { on := 28, ground := Ground.phase }], guard := none } rfl (by kernel_rfl) (by kernel_rfl) (by kernel_rfl) (fun _ _ _ h => h) (by rfl) hHeld ?_ ?_
  rotate_left
  · intro wS hSw; (try dsimp only at hSw); go_simp <;> with_reducible rfl
  try simp only [Act.put, List.setIfInBounds_toArray, List.set_cons_zero, List.set_cons_succ]
  refine wpAnyH_done (by kernel_rfl) ?_ _
  go_wp2_with fail
  go_ret
  exact ⟨rfl, hHeld.1⟩

theorem joins_right (a b c d x : Int) (w : World) (hg : ErrT w) (ha : 0 ≤ a ∧ a ≤ 18446744073709551615) (hb : 0 ≤ b ∧ b ≤ 18446744073709551615) (hc : 0 ≤ c ∧ c ≤ 18446744073709551615) (hd : 0 ≤ d ∧ d ≤ 18446744073709551615) (h1 : a ≤ b) (h2 : c ≤ d) :
    Calls Tryd.prog 6 #[.agg #[.int .u64 a, .int .u64 b], .agg #[.int .u64 c, .int .u64 d], .int .u64 x] w (IsEnd true w) := by
  by_cases hn : relN a b c d = 0 ∨ relN a b c d = 4
  · exact joins_no a b c d x w hg ha hb hc hd h1 h2 hn
  · have hn' : relN a b c d ≠ 0 ∧ relN a b c d ≠ 4 := ⟨fun e => hn (.inl e), fun e => hn (.inr e)⟩
    cases hp : hasB a b x
    · exact joins_yes0 a b c d x _ _ w hg ha hb hc hd h1 h2 rfl rfl hn' hp
    · exact joins_yes1 a b c d x _ _ w hg ha hb hc hd h1 h2 rfl rfl hn' hp

theorem joins_any (a b c d x : Int) (w : World) (hg : ErrT w) (ha : 0 ≤ a ∧ a ≤ 18446744073709551615) (hb : 0 ≤ b ∧ b ≤ 18446744073709551615) (hc : 0 ≤ c ∧ c ≤ 18446744073709551615) (hd : 0 ≤ d ∧ d ≤ 18446744073709551615) :
    Calls Tryd.prog 6 #[.agg #[.int .u64 a, .int .u64 b], .agg #[.int .u64 c, .int .u64 d], .int .u64 x] w (IsEnd true w) := by
  by_cases h1 : a ≤ b
  · by_cases h2 : c ≤ d
    · exact joins_right a b c d x w hg ha hb hc hd h1 h2
    · exact joins_wrong2 a b c d x w hg h1 h2
  · exact joins_wrong1 a b c d x w hg h1
end Go.Proofs.YtciinnkcjiibfaaDoor
