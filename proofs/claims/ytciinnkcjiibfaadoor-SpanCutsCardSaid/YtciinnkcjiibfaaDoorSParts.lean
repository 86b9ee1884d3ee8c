/- The range-function of Cut: for every loop body it yields the part in front and the part behind, in this order. Conditions: the ends are numbers of 64 bits, kept in memory between two rounds. -/
import Derived.Test.YtciinnkcjiibfaaDoorSRel2
import Derived.RangeFuncNested
import Derived.RangeFuncBound
import Derived.RangeFuncCalls
import Derived.RangeFuncLeaves
import Derived.Shelf.Abstract
import Derived.Shelf.RegionOpen
import Derived.WalkKit
import Derived.OwnWalkIn
import Derived.TacticsInMore
import Derived.LoopNIn
import Derived.LoopIn
import Derived.WalkLawsBesides
namespace Go.Proofs.YtciinnkcjiibfaaDoor
open Go.RowKit Go.Shelf
attribute [local go_sem] Oper.semAt_some

def IsTup' (a : Int) (b : Bool) (w : World) (e : Ending) (w' : World) : Prop := e = .returned (.tuple #[.int .u64 a, .bool b]) ∧ w' = w
theorem next_any (x : Int) (w : World) (h0 : 0 ≤ x) (h : x < 18446744073709551615) :
    Calls Tryd.prog 39 #[.int .u64 x] w (IsTup' (x + 1) true w) := by
  go_enter Tryd.func39, Tryd.ntmps39
  go_wp2
  go_ret2
  exact ⟨rfl, rfl⟩
theorem next_top (w : World) :
    Calls Tryd.prog 39 #[.int .u64 18446744073709551615] w (IsTup' 0 false w) := by
  go_enter Tryd.func39, Tryd.ntmps39
  go_wp2
  go_ret2
  exact ⟨rfl, rfl⟩
theorem prev_any (x : Int) (w : World) (h0 : 0 < x) (h : x ≤ 18446744073709551615) :
    Calls Tryd.prog 38 #[.int .u64 x] w (IsTup' (x - 1) true w) := by
  go_enter Tryd.func38, Tryd.ntmps38
  go_wp2
  go_ret2
  exact ⟨rfl, rfl⟩
theorem prev_zero (w : World) :
    Calls Tryd.prog 38 #[.int .u64 0] w (IsTup' 0 false w) := by
  go_enter Tryd.func38, Tryd.ntmps38
  go_wp2
  go_ret2
  exact ⟨rfl, rfl⟩

/-- What Prev and Next return. -/
def prevB (x : Int) : Bool := decide (0 < x)
def prevV (x : Int) : Int := if 0 < x then x - 1 else 0
def nextB (x : Int) : Bool := decide (x < 18446744073709551615)
def nextV (x : Int) : Int := if x < 18446744073709551615 then x + 1 else 0
theorem prev_is (x : Int) (w : World) (h0 : 0 ≤ x) (h : x ≤ 18446744073709551615) :
    Calls Tryd.prog 38 #[.int .u64 x] w (IsTup' (prevV x) (prevB x) w) := by
  by_cases hz : 0 < x
  · rw [show prevV x = x - 1 from if_pos hz, show prevB x = true from by simpa [prevB] using hz]; exact prev_any x w hz h
  · obtain rfl : x = 0 := by omega
    exact prev_zero w
theorem next_is (x : Int) (w : World) (h0 : 0 ≤ x) (h : x ≤ 18446744073709551615) :
    Calls Tryd.prog 39 #[.int .u64 x] w (IsTup' (nextV x) (nextB x) w) := by
  by_cases hz : x < 18446744073709551615
  · rw [show nextV x = x + 1 from if_pos hz, show nextB x = true from by simpa [nextB] using hz]; exact next_any x w h0 hz
  · obtain rfl : x = 18446744073709551615 := by omega
    exact next_top w

abbrev Iv := Int × Int
def ivV (x : Iv) : Value := .agg #[.int .u64 x.1, .int .u64 x.2]
/-- The parts of an interval that are not in another one. -/
def frontL (a b c : Int) : List Iv := if a < c then [(a, if c - 1 < b then c - 1 else b)] else []
def backL (a b d : Int) : List Iv := if d < b then [(if a < d + 1 then d + 1 else a, b)] else []
def cutL (a b c d : Int) : List Iv := frontL a b c ++ backL a b d

/-- What a round keeps: the two captured intervals. -/
def KpC (ka kb : Nat) (W W' : World) : Prop := ∀ (o : Nat) (v : Value), (W.cell? ⟨ka, o, none⟩ = some v → W'.cell? ⟨ka, o, none⟩ = some v) ∧ (W.cell? ⟨kb, o, none⟩ = some v → W'.cell? ⟨kb, o, none⟩ = some v)
theorem KpC.trans {ka kb : Nat} {A B C : World} (h : KpC ka kb A B) (k : KpC ka kb B C) : KpC ka kb A C := fun o v => ⟨fun x => (k o v).1 ((h o v).1 x), fun x => (k o v).2 ((h o v).2 x)⟩
theorem KpC.book {ka kb : Nat} (W : World) (l : Nat) (o o' : Obj) (h : W.heap[l]? = some o) (hc : o.isCells = false) : KpC ka kb W (W.putObj l o') := fun i v =>
  ⟨fun x => cell_kept x (grownBy_putObj' _ l o') (fun r e => by cases e; exact ⟨_, h, hc⟩), fun x => cell_kept x (grownBy_putObj' _ l o') (fun r e => by cases e; exact ⟨_, h, hc⟩)⟩

set_option maxRecDepth 100000 in
set_option maxHeartbeats 1000000 in
theorem parts1_both (n : Nat) (hn : 1 ≤ n) (l ka kb : Nat) (a b c d hi lo : Int) (hd : 0 ≤ d ∧ d ≤ 18446744073709551615) (hc : 0 ≤ c ∧ c ≤ 18446744073709551615) (ha : 0 ≤ a) (hb : b ≤ 18446744073709551615)
    (h1 : a < c) (h2 : d < b) (hhi : (if c - 1 < b then c - 1 else b) = hi) (hlo : (if a < d + 1 then d + 1 else a) = lo) (J Jx : List Iv → World → Prop)
    (hY : ∀ pre x W, J pre W → pre.length < 2 → YieldAt Fence.wide (n - 1) Tryd.prog l #[ivV x] W fun e W' =>
      (e = .returned (.bool true) ∧ J (pre ++ [x]) W' ∧ KpC ka kb W W') ∨ (e = .returned (.bool false) ∧ Jx (pre ++ [x]) W'))
    (W : World) (hA : At W [(ka, 0, .int .u64 a), (ka, 1, .int .u64 b), (kb, 0, .int .u64 c), (kb, 1, .int .u64 d)]) (h0 : J [] W) :
    CallsIn Fence.wide n Tryd.prog 37 #[.func (.yield l) #[] #[], .pointer (some ⟨kb, 0, none⟩), .pointer (some ⟨ka, 0, none⟩)] W fun e W' => (∃ v, e = .returned v) ∧
      ((∃ ys, ys = ([(a, hi), (lo, b)] : List Iv) ∧ J ys W') ∨ (∃ pre, pre <+: ([(a, hi), (lo, b)] : List Iv) ∧ Jx pre W')) := by
  have k1 := fun w => prev_is c w hc.1 hc.2
  have k2 := fun w => next_is d w hd.1 hd.2
  have _ := ha; have _ := hb; have _ := hY
  rw [show prevB c = true from by simp [prevB]; omega, show prevV c = c - 1 from if_pos (by omega)] at k1
  have e1 : decide (a ≤ c - 1) = true := by simp; omega
  rw [show nextB d = true from by simp [nextB]; omega, show nextV d = d + 1 from if_pos (by omega)] at k2
  have e2 : decide (d + 1 ≤ b) = true := by simp; omega
  have K1 := Lib.hid k1; clear k1
  have K2 := Lib.hid k2; clear k2
  obtain ⟨fn, tmps, assign, body, hy, hR⟩ := hY [] (a, hi) W h0 (by simp)
  have HR := Lib.hid hR; clear hR
  unfold ivV at hy
  have HY := Lib.hid hY; clear hY
  have H0 := Lib.hid h0; clear h0
  obtain ⟨a0, a1, b0, b1, _⟩ := hA
  clear hd hc ha hb h1 h2
  refine callsIn_of_wp Tryd.func37 rfl trivial ?_ rfl
  simp only [Tryd.ntmps37, List.size_toArray, List.length_cons, List.length_nil, Nat.reduceAdd, Nat.reduceSub, Array.replicate_succ, Array.replicate_zero, List.push_toArray, List.append_toArray, List.nil_append, List.cons_append]
  gi_wp2_with (refine ⟨trivial, ?_⟩; gi_at_call 38; refine (callsIn_wide.2 (K1.out _)).mono ?_; rintro e w' ⟨rfl, rfl⟩)
  refine HR.out.mono ?_
  rintro e W1 (⟨rfl, hJ, hk⟩ | ⟨rfl, hJx⟩)
  · have a0' := (hk 0 _).1 a0
    have a1' := (hk 1 _).1 a1
    have b1' := (hk 1 _).2 b1
    clear a0 a1 b0 b1 hy HR hk
    obtain ⟨fn2, tmps2, assign2, body2, hy2, hR2⟩ := HY.out [(a, hi)] (lo, b) W1 hJ (by simp)
    have HR2 := Lib.hid hR2; clear hR2
    unfold ivV at hy2
    have HJ := Lib.hid hJ; clear hJ
    gi_wp2_with (refine ⟨trivial, ?_⟩; gi_at_call 39; refine (callsIn_wide.2 (K2.out _)).mono ?_; rintro e w' ⟨rfl, rfl⟩)
    refine HR2.out.mono ?_
    rintro e W2 (⟨rfl, hJ2, _⟩ | ⟨rfl, hJx2⟩)
    · have HJ2 := Lib.hid hJ2; clear hJ2
      gi_wp2
      go_end0
      exact ⟨⟨_, rfl⟩, .inl ⟨_, rfl, HJ2.out⟩⟩
    · have HJ2 := Lib.hid hJx2; clear hJx2
      gi_wp2
      go_end0
      exact ⟨⟨_, rfl⟩, .inr ⟨_, List.prefix_refl _, HJ2.out⟩⟩
  · have HJx := Lib.hid hJx; clear hJx
    gi_wp2
    refine bodyPost_ret (results_none rfl _ _ _) rfl ?_
    exact ⟨⟨_, rfl⟩, .inr ⟨_, by simp, HJx.out⟩⟩

set_option maxRecDepth 100000 in
set_option maxHeartbeats 1000000 in
theorem parts1_front (n : Nat) (hn : 1 ≤ n) (l ka kb : Nat) (a b c d hi : Int) (hd : 0 ≤ d ∧ d ≤ 18446744073709551615) (hc : 0 ≤ c ∧ c ≤ 18446744073709551615) (ha : 0 ≤ a) (hb : b ≤ 18446744073709551615)
    (h1 : a < c) (h2 : ¬ d < b) (hhi : (if c - 1 < b then c - 1 else b) = hi) (J Jx : List Iv → World → Prop)
    (hY : ∀ pre x W, J pre W → pre.length < 1 → YieldAt Fence.wide (n - 1) Tryd.prog l #[ivV x] W fun e W' =>
      (e = .returned (.bool true) ∧ J (pre ++ [x]) W' ∧ KpC ka kb W W') ∨ (e = .returned (.bool false) ∧ Jx (pre ++ [x]) W'))
    (W : World) (hA : At W [(ka, 0, .int .u64 a), (ka, 1, .int .u64 b), (kb, 0, .int .u64 c), (kb, 1, .int .u64 d)]) (h0 : J [] W) :
    CallsIn Fence.wide n Tryd.prog 37 #[.func (.yield l) #[] #[], .pointer (some ⟨kb, 0, none⟩), .pointer (some ⟨ka, 0, none⟩)] W fun e W' => (∃ v, e = .returned v) ∧
      ((∃ ys, ys = ([(a, hi)] : List Iv) ∧ J ys W') ∨ (∃ pre, pre <+: ([(a, hi)] : List Iv) ∧ Jx pre W')) := by
  have k1 := fun w => prev_is c w hc.1 hc.2
  have k2 := fun w => next_is d w hd.1 hd.2
  have _ := ha; have _ := hb; have _ := hY
  rw [show prevB c = true from by simp [prevB]; omega, show prevV c = c - 1 from if_pos (by omega)] at k1
  have e1 : decide (a ≤ c - 1) = true := by simp; omega
  have K1 := Lib.hid k1; clear k1
  have K2 := Lib.hid k2; clear k2
  obtain ⟨s, u, k2, hs⟩ : ∃ s u, (∀ w, Calls Tryd.prog 39 #[.int .u64 d] w (IsTup' s u w)) ∧ (u = false ∨ (u = true ∧ decide (s ≤ b) = false)) := by
    refine ⟨_, _, K2.out, ?_⟩
    by_cases hz : d < 18446744073709551615
    · right; rw [show nextB d = true from by simpa [nextB] using hz, show nextV d = d + 1 from if_pos hz]; simp; omega
    · left; simpa [nextB] using hz
  clear K2
  have K2 := Lib.hid k2; clear k2
  obtain ⟨fn, tmps, assign, body, hy, hR⟩ := hY [] (a, hi) W h0 (by simp)
  have HR := Lib.hid hR; clear hR
  unfold ivV at hy
  have HY := Lib.hid hY; clear hY
  have H0 := Lib.hid h0; clear h0
  obtain ⟨a0, a1, b0, b1, _⟩ := hA
  clear hd hc ha hb h1 h2
  refine callsIn_of_wp Tryd.func37 rfl trivial ?_ rfl
  simp only [Tryd.ntmps37, List.size_toArray, List.length_cons, List.length_nil, Nat.reduceAdd, Nat.reduceSub, Array.replicate_succ, Array.replicate_zero, List.push_toArray, List.append_toArray, List.nil_append, List.cons_append]
  gi_wp2_with (refine ⟨trivial, ?_⟩; gi_at_call 38; refine (callsIn_wide.2 (K1.out _)).mono ?_; rintro e w' ⟨rfl, rfl⟩)
  refine HR.out.mono ?_
  rintro e W1 (⟨rfl, hJ, hk⟩ | ⟨rfl, hJx⟩)
  · have a0' := (hk 0 _).1 a0
    have a1' := (hk 1 _).1 a1
    have b1' := (hk 1 _).2 b1
    clear a0 a1 b0 b1 hy HR hk
    have HJ := Lib.hid hJ; clear hJ
    rcases hs with rfl | ⟨rfl, hs⟩
    · gi_wp2_with (refine ⟨trivial, ?_⟩; gi_at_call 39; refine (callsIn_wide.2 (K2.out _)).mono ?_; rintro e w' ⟨rfl, rfl⟩)
      go_end0
      exact ⟨⟨_, rfl⟩, .inl ⟨_, rfl, HJ.out⟩⟩
    · gi_wp2_with (refine ⟨trivial, ?_⟩; gi_at_call 39; refine (callsIn_wide.2 (K2.out _)).mono ?_; rintro e w' ⟨rfl, rfl⟩)
      go_end0
      exact ⟨⟨_, rfl⟩, .inl ⟨_, rfl, HJ.out⟩⟩
  · have HJx := Lib.hid hJx; clear hJx
    gi_wp2
    refine bodyPost_ret (results_none rfl _ _ _) rfl ?_
    exact ⟨⟨_, rfl⟩, .inr ⟨_, by simp, HJx.out⟩⟩

set_option maxRecDepth 100000 in
set_option maxHeartbeats 1000000 in
theorem parts1_back (n : Nat) (hn : 1 ≤ n) (l ka kb : Nat) (a b c d lo : Int) (hd : 0 ≤ d ∧ d ≤ 18446744073709551615) (hc : 0 ≤ c ∧ c ≤ 18446744073709551615) (ha : 0 ≤ a) (hb : b ≤ 18446744073709551615)
    (h1 : ¬ a < c) (h2 : d < b) (hlo : (if a < d + 1 then d + 1 else a) = lo) (J Jx : List Iv → World → Prop)
    (hY : ∀ pre x W, J pre W → pre.length < 1 → YieldAt Fence.wide (n - 1) Tryd.prog l #[ivV x] W fun e W' =>
      (e = .returned (.bool true) ∧ J (pre ++ [x]) W' ∧ KpC ka kb W W') ∨ (e = .returned (.bool false) ∧ Jx (pre ++ [x]) W'))
    (W : World) (hA : At W [(ka, 0, .int .u64 a), (ka, 1, .int .u64 b), (kb, 0, .int .u64 c), (kb, 1, .int .u64 d)]) (h0 : J [] W) :
    CallsIn Fence.wide n Tryd.prog 37 #[.func (.yield l) #[] #[], .pointer (some ⟨kb, 0, none⟩), .pointer (some ⟨ka, 0, none⟩)] W fun e W' => (∃ v, e = .returned v) ∧
      ((∃ ys, ys = ([(lo, b)] : List Iv) ∧ J ys W') ∨ (∃ pre, pre <+: ([(lo, b)] : List Iv) ∧ Jx pre W')) := by
  have k1 := fun w => prev_is c w hc.1 hc.2
  have k2 := fun w => next_is d w hd.1 hd.2
  have _ := ha; have _ := hb; have _ := hY
  rw [show nextB d = true from by simp [nextB]; omega, show nextV d = d + 1 from if_pos (by omega)] at k2
  have e2 : decide (d + 1 ≤ b) = true := by simp; omega
  have K1 := Lib.hid k1; clear k1
  have K2 := Lib.hid k2; clear k2
  obtain ⟨q, r, k1, hq⟩ : ∃ q r, (∀ w, Calls Tryd.prog 38 #[.int .u64 c] w (IsTup' q r w)) ∧ (r = false ∨ (r = true ∧ decide (a ≤ q) = false)) := by
    refine ⟨_, _, K1.out, ?_⟩
    by_cases hz : 0 < c
    · right; rw [show prevB c = true from by simpa [prevB] using hz, show prevV c = c - 1 from if_pos hz]; simp; omega
    · left; simpa [prevB] using hz
  clear K1
  have K1 := Lib.hid k1; clear k1
  obtain ⟨fn, tmps, assign, body, hy, hR⟩ := hY [] (lo, b) W h0 (by simp)
  have HR := Lib.hid hR; clear hR
  unfold ivV at hy
  have HY := Lib.hid hY; clear hY
  have H0 := Lib.hid h0; clear h0
  obtain ⟨a0, a1, b0, b1, _⟩ := hA
  clear hd hc ha hb h1 h2
  rcases hq with rfl | ⟨rfl, hq⟩
  · refine callsIn_of_wp Tryd.func37 rfl trivial ?_ rfl
    simp only [Tryd.ntmps37, List.size_toArray, List.length_cons, List.length_nil, Nat.reduceAdd, Nat.reduceSub, Array.replicate_succ, Array.replicate_zero, List.push_toArray, List.append_toArray, List.nil_append, List.cons_append]
    gi_wp2_with (first | (refine ⟨trivial, ?_⟩; gi_at_call 38; refine (callsIn_wide.2 (K1.out _)).mono ?_; rintro e w' ⟨rfl, rfl⟩) | (refine ⟨trivial, ?_⟩; gi_at_call 39; refine (callsIn_wide.2 (K2.out _)).mono ?_; rintro e w' ⟨rfl, rfl⟩))
    refine HR.out.mono ?_
    rintro e W1 (⟨rfl, hJ, hk⟩ | ⟨rfl, hJx⟩)
    · have HJ := Lib.hid hJ; clear hJ
      gi_wp2
      go_end0
      exact ⟨⟨_, rfl⟩, .inl ⟨_, rfl, HJ.out⟩⟩
    · have HJx := Lib.hid hJx; clear hJx
      gi_wp2
      go_end0
      exact ⟨⟨_, rfl⟩, .inr ⟨_, List.prefix_refl _, HJx.out⟩⟩
  · refine callsIn_of_wp Tryd.func37 rfl trivial ?_ rfl
    simp only [Tryd.ntmps37, List.size_toArray, List.length_cons, List.length_nil, Nat.reduceAdd, Nat.reduceSub, Array.replicate_succ, Array.replicate_zero, List.push_toArray, List.append_toArray, List.nil_append, List.cons_append]
    gi_wp2_with (first | (refine ⟨trivial, ?_⟩; gi_at_call 38; refine (callsIn_wide.2 (K1.out _)).mono ?_; rintro e w' ⟨rfl, rfl⟩) | (refine ⟨trivial, ?_⟩; gi_at_call 39; refine (callsIn_wide.2 (K2.out _)).mono ?_; rintro e w' ⟨rfl, rfl⟩))
    refine HR.out.mono ?_
    rintro e W1 (⟨rfl, hJ, hk⟩ | ⟨rfl, hJx⟩)
    · have HJ := Lib.hid hJ; clear hJ
      gi_wp2
      go_end0
      exact ⟨⟨_, rfl⟩, .inl ⟨_, rfl, HJ.out⟩⟩
    · have HJx := Lib.hid hJx; clear hJx
      gi_wp2
      go_end0
      exact ⟨⟨_, rfl⟩, .inr ⟨_, List.prefix_refl _, HJx.out⟩⟩

set_option maxRecDepth 100000 in
set_option maxHeartbeats 1000000 in
theorem parts1_none (n : Nat) (hn : 1 ≤ n) (l ka kb : Nat) (a b c d : Int) (hd : 0 ≤ d ∧ d ≤ 18446744073709551615) (hc : 0 ≤ c ∧ c ≤ 18446744073709551615) (ha : 0 ≤ a) (hb : b ≤ 18446744073709551615)
    (h1 : ¬ a < c) (h2 : ¬ d < b) (J Jx : List Iv → World → Prop)
    (hY : ∀ pre x W, J pre W → pre.length < 0 → YieldAt Fence.wide (n - 1) Tryd.prog l #[ivV x] W fun e W' =>
      (e = .returned (.bool true) ∧ J (pre ++ [x]) W' ∧ KpC ka kb W W') ∨ (e = .returned (.bool false) ∧ Jx (pre ++ [x]) W'))
    (W : World) (hA : At W [(ka, 0, .int .u64 a), (ka, 1, .int .u64 b), (kb, 0, .int .u64 c), (kb, 1, .int .u64 d)]) (h0 : J [] W) :
    CallsIn Fence.wide n Tryd.prog 37 #[.func (.yield l) #[] #[], .pointer (some ⟨kb, 0, none⟩), .pointer (some ⟨ka, 0, none⟩)] W fun e W' => (∃ v, e = .returned v) ∧
      ((∃ ys, ys = ([] : List Iv) ∧ J ys W') ∨ (∃ pre, pre <+: ([] : List Iv) ∧ Jx pre W')) := by
  have k1 := fun w => prev_is c w hc.1 hc.2
  have k2 := fun w => next_is d w hd.1 hd.2
  have _ := ha; have _ := hb; have _ := hY
  have K1 := Lib.hid k1; clear k1
  have K2 := Lib.hid k2; clear k2
  obtain ⟨q, r, k1, hq⟩ : ∃ q r, (∀ w, Calls Tryd.prog 38 #[.int .u64 c] w (IsTup' q r w)) ∧ (r = false ∨ (r = true ∧ decide (a ≤ q) = false)) := by
    refine ⟨_, _, K1.out, ?_⟩
    by_cases hz : 0 < c
    · right; rw [show prevB c = true from by simpa [prevB] using hz, show prevV c = c - 1 from if_pos hz]; simp; omega
    · left; simpa [prevB] using hz
  clear K1
  have K1 := Lib.hid k1; clear k1
  obtain ⟨s, u, k2, hs⟩ : ∃ s u, (∀ w, Calls Tryd.prog 39 #[.int .u64 d] w (IsTup' s u w)) ∧ (u = false ∨ (u = true ∧ decide (s ≤ b) = false)) := by
    refine ⟨_, _, K2.out, ?_⟩
    by_cases hz : d < 18446744073709551615
    · right; rw [show nextB d = true from by simpa [nextB] using hz, show nextV d = d + 1 from if_pos hz]; simp; omega
    · left; simpa [nextB] using hz
  clear K2
  have K2 := Lib.hid k2; clear k2
  clear hY
  have H0 := Lib.hid h0; clear h0
  obtain ⟨a0, a1, b0, b1, _⟩ := hA
  clear hd hc ha hb h1 h2
  rcases hq with rfl | ⟨rfl, hq⟩
  · refine callsIn_of_wp Tryd.func37 rfl trivial ?_ rfl
    simp only [Tryd.ntmps37, List.size_toArray, List.length_cons, List.length_nil, Nat.reduceAdd, Nat.reduceSub, Array.replicate_succ, Array.replicate_zero, List.push_toArray, List.append_toArray, List.nil_append, List.cons_append]
    rcases hs with rfl | ⟨rfl, hs⟩
    · gi_wp2_with (first | (refine ⟨trivial, ?_⟩; gi_at_call 38; refine (callsIn_wide.2 (K1.out _)).mono ?_; rintro e w' ⟨rfl, rfl⟩) | (refine ⟨trivial, ?_⟩; gi_at_call 39; refine (callsIn_wide.2 (K2.out _)).mono ?_; rintro e w' ⟨rfl, rfl⟩))
      go_end0
      exact ⟨⟨_, rfl⟩, .inl ⟨_, rfl, H0.out⟩⟩
    · gi_wp2_with (first | (refine ⟨trivial, ?_⟩; gi_at_call 38; refine (callsIn_wide.2 (K1.out _)).mono ?_; rintro e w' ⟨rfl, rfl⟩) | (refine ⟨trivial, ?_⟩; gi_at_call 39; refine (callsIn_wide.2 (K2.out _)).mono ?_; rintro e w' ⟨rfl, rfl⟩))
      go_end0
      exact ⟨⟨_, rfl⟩, .inl ⟨_, rfl, H0.out⟩⟩
  · refine callsIn_of_wp Tryd.func37 rfl trivial ?_ rfl
    simp only [Tryd.ntmps37, List.size_toArray, List.length_cons, List.length_nil, Nat.reduceAdd, Nat.reduceSub, Array.replicate_succ, Array.replicate_zero, List.push_toArray, List.append_toArray, List.nil_append, List.cons_append]
    rcases hs with rfl | ⟨rfl, hs⟩
    · gi_wp2_with (first | (refine ⟨trivial, ?_⟩; gi_at_call 38; refine (callsIn_wide.2 (K1.out _)).mono ?_; rintro e w' ⟨rfl, rfl⟩) | (refine ⟨trivial, ?_⟩; gi_at_call 39; refine (callsIn_wide.2 (K2.out _)).mono ?_; rintro e w' ⟨rfl, rfl⟩))
      go_end0
      exact ⟨⟨_, rfl⟩, .inl ⟨_, rfl, H0.out⟩⟩
    · gi_wp2_with (first | (refine ⟨trivial, ?_⟩; gi_at_call 38; refine (callsIn_wide.2 (K1.out _)).mono ?_; rintro e w' ⟨rfl, rfl⟩) | (refine ⟨trivial, ?_⟩; gi_at_call 39; refine (callsIn_wide.2 (K2.out _)).mono ?_; rintro e w' ⟨rfl, rfl⟩))
      go_end0
      exact ⟨⟨_, rfl⟩, .inl ⟨_, rfl, H0.out⟩⟩

/-- The closure yields the parts of the interval in order. -/
theorem parts1_in (n : Nat) (hn : 1 ≤ n) (ka kb : Nat) (a b c d : Int) (hd : 0 ≤ d ∧ d ≤ 18446744073709551615) (hc : 0 ≤ c ∧ c ≤ 18446744073709551615) (ha : 0 ≤ a) (hb : b ≤ 18446744073709551615)
    (w : World) (hA : At w [(ka, 0, .int .u64 a), (ka, 1, .int .u64 b), (kb, 0, .int .u64 c), (kb, 1, .int .u64 d)]) :
    SeqStopsK Fence.wide n Tryd.prog 37 #[.pointer (some ⟨kb, 0, none⟩), .pointer (some ⟨ka, 0, none⟩)] (fun x : Iv => #[ivV x]) (KpC ka kb) (fun ys => ys = cutL a b c d) (fun pre => pre <+: cutL a b c d) (cutL a b c d).length w := fun l J Jx W hW _ _ hY h0 => by
  have hA' := hA.call hW
  unfold cutL frontL backL at hY ⊢
  by_cases h1 : a < c
  · by_cases h2 : d < b
    · rw [if_pos h1, if_pos h2] at hY ⊢
      exact parts1_both n hn l ka kb a b c d _ _ hd hc ha hb h1 h2 rfl rfl J Jx hY W hA' h0
    · rw [if_pos h1, if_neg h2] at hY ⊢
      exact parts1_front n hn l ka kb a b c d _ hd hc ha hb h1 h2 rfl J Jx hY W hA' h0
  · by_cases h2 : d < b
    · rw [if_neg h1, if_pos h2] at hY ⊢
      exact parts1_back n hn l ka kb a b c d _ hd hc ha hb h1 h2 rfl J Jx hY W hA' h0
    · rw [if_neg h1, if_neg h2] at hY ⊢
      exact parts1_none n hn l ka kb a b c d hd hc ha hb h1 h2 J Jx hY W hA' h0

/-- parts boxes both intervals and returns the closure. -/
theorem parts_call (a b c d : Int) (w : World) :
    Calls Tryd.prog 30 #[.agg #[.int .u64 a, .int .u64 b], .agg #[.int .u64 c, .int .u64 d]] w fun e w' =>
      e = .returned (.func (.func 37) #[] #[.pointer (some ⟨w.heap.size + 1, 0, none⟩), .pointer (some ⟨w.heap.size, 0, none⟩)]) ∧ w' = (w.alloc (.cells #[.int .u64 a, .int .u64 b] 24)).alloc (.cells #[.int .u64 c, .int .u64 d] 24) := by
  go_enter Tryd.func30, Tryd.ntmps30
  go_wp2
  go_ret
  exact ⟨rfl, rfl⟩
end Go.Proofs.YtciinnkcjiibfaaDoor
