/- Sum of package word and the reference's Sum. Conditions: the arguments are numbers of 64 bits in memory. -/
import Derived.Test.YtciinnkcjiibfaaDoorCells
import Derived.Laws.Externs
import Derived.WalkSmall
import Derived.Deep.QuietTactic
import Derived.BigQuiet
namespace Go.Proofs.YtciinnkcjiibfaaDoor
open Go.RowKit Go.ChangeShapes Go.WideShapes

def IsNum (k : IntKind) (a : Int) (w : World) (e : Ending) (w' : World) : Prop := e = .returned (.int k a) ∧ w = w'
theorem max_any (w : World) :
    Calls Tryd.prog 41 #[] w (IsNum .u64 18446744073709551615 w) := by
  go_enter Tryd.func41, Tryd.ntmps41
  go_wp2
  go_ret
  exact ⟨rfl, rfl⟩
/-- Add64, as an equation of the call. -/
theorem add64_run (x y c : Int) (w : World) (hx : 0 ≤ x) (hy : 0 ≤ y) (hc0 : 0 ≤ c) (hc : c ≤ 1) :
    (callFunc 40 #[.int .u64 x, .int .u64 y, .int .u64 c]).run Tryd.prog w = .ok (.value (.tuple #[.int .u64 ((x + y + c) % 18446744073709551616), .int .u64 ((x + y + c) / 18446744073709551616)])) w := by
  rw [run_callFunc_extern Tryd.func40 (by kernel_rfl) (by kernel_rfl) (by kernel_rfl) (e := add64Entry) (by kernel_rfl), run_add64 x y c hx hy hc0 hc]
  simp only [Result.andThen]
/-- A slice of numbers in memory. -/
def NumsAt (w : World) (s : Value) (zs : List Int) : Prop :=
  ∃ p cap, s = .slice p zs.length cap ∧ zs.length ≤ 9223372036854775807 ∧ (∀ z ∈ zs, 0 ≤ z ∧ z ≤ 18446744073709551615) ∧
    (zs ≠ [] → ∃ b o, p = some ⟨b, o, none⟩ ∧ ∀ i, i < zs.length → w.cell? ⟨b, o + i, none⟩ = some (.int .u64 (zs.getD i 0)))

theorem NumsAt.drew {w w' : World} {s : Value} {zs : List Int} (h : NumsAt w s zs) (hb : Below w.heap.size w w') : NumsAt w' s zs := by
  obtain ⟨p, cap, h1, h2, h3, h4⟩ := h
  refine ⟨p, cap, h1, h2, h3, fun hne => ?_⟩
  obtain ⟨b, o, h5, h6⟩ := h4 hne
  exact ⟨b, o, h5, fun i hi => keep_cell (h6 i hi) hb⟩

theorem sum_nonneg : ∀ (zs : List Int), (∀ z ∈ zs, 0 ≤ z ∧ z ≤ 18446744073709551615) → 0 ≤ zs.sum := by
  intro zs
  induction zs with
  | nil => intro _; simp
  | cons z zs ih =>
    intro h
    have h1 := (h z (List.mem_cons_self ..)).1
    have h2 := ih (fun y hy => h y (List.mem_cons_of_mem _ hy))
    simp only [List.sum_cons]; omega

theorem sum_step (zs : List Int) (k : Nat) (hk : k < zs.length) : (zs.take (k + 1)).sum = (zs.take k).sum + zs.getD k 0 := by
  rw [List.take_succ_eq_append_getElem hk, List.sum_append]
  simp [hk]

theorem sum_take_le (zs : List Int) (k : Nat) (h : ∀ z ∈ zs, 0 ≤ z ∧ z ≤ 18446744073709551615) : (zs.take k).sum ≤ zs.sum := by
  have h1 : zs.sum = (zs.take k).sum + (zs.drop k).sum := by rw [← List.sum_append, List.take_append_drop]
  have h2 := sum_nonneg (zs.drop k) (fun z hz => h z (List.mem_of_mem_drop hz))
  omega

def sumV (zs : List Int) : Int := if zs.sum ≤ 18446744073709551615 then zs.sum else 0
def sumB (zs : List Int) : Bool := decide (zs.sum ≤ 18446744073709551615)
theorem sum_all {zs : List Int} (h : zs.sum ≤ 18446744073709551615) : sumV zs = zs.sum ∧ sumB zs = true := by unfold sumV sumB; rw [if_pos h]; exact ⟨rfl, by simpa using h⟩
theorem sum_none {zs : List Int} (h : ¬ zs.sum ≤ 18446744073709551615) : sumV zs = 0 ∧ sumB zs = false := by unfold sumV sumB; rw [if_neg h]; exact ⟨rfl, by simpa using h⟩

def TupB (a : Int) (b : Bool) (w : World) (e : Ending) (w' : World) : Prop := e = .returned (.tuple #[.int .u64 a, .bool b]) ∧ Below w.heap.size w w'

theorem ret_tup {a c : Int} {b d : Bool} (h : a = c) (k : b = d) : Ending.returned (.tuple #[.int .u64 a, .bool b]) = .returned (.tuple #[.int .u64 c, .bool d]) := by rw [h, k]

set_option maxRecDepth 100000 in
theorem sum_any (zs : List Int) (s : Value) (w : World) (h : NumsAt w s zs) :
    Calls Tryd.prog 31 #[s] w (TupB (sumV zs) (sumB zs) w) := by
  obtain ⟨p, cap, rfl, hl, hz, hc⟩ := h
  have HZ := Lib.hid hz; clear hz
  have HC := Lib.hid hc; clear hc
  go_enter Tryd.func31, Tryd.ntmps31
  go_wp2_with fail
  go_loop [4, 11] (fun a i => ∃ k : Nat, k ≤ zs.length ∧ i = .int .i64 k ∧ a = .int .u64 (zs.take k).sum ∧ (zs.take k).sum ≤ 18446744073709551615) (fun _ i => zs.length - (intOf i).toNat)
  case atStart => exact ⟨0, Nat.zero_le _, rfl, by simp, by simp⟩
  case round =>
    obtain ⟨k, hk, rfl, rfl, hs⟩ := hrel
    by_cases hlt : k < zs.length
    · have hne : zs ≠ [] := by intro h; subst h; simp at hlt
      obtain ⟨b, o, rfl, hcell⟩ := HC.out hne
      have hc := hcell k hlt
      clear hcell hne
      have hs0 := sum_nonneg (zs.take k) (fun z hz => HZ.out z (List.mem_of_mem_take hz))
      have hst := sum_step zs k hlt
      have hx := HZ.out (zs.getD k 0) (by simp [hlt])
      have hle := sum_take_le zs (k + 1) HZ.out
      generalize hS : (zs.take k).sum = S at *
      generalize hX : zs.getD k 0 = X at *
      have hx0 := hx.1
      have hx1 := hx.2
      clear hx
      have HS := Lib.hid hS; clear hS
      have HX := Lib.hid hX; clear hX
      by_cases hm : S + X ≤ 18446744073709551615
      · have ha := fun w => add64_run S X 0 w hs0 hx0 (by omega) (by omega)
        have e1 : (S + X + 0) % 18446744073709551616 = S + X := by omega
        have e2 : (S + X + 0) / 18446744073709551616 = 0 := by omega
        rw [e1, e2] at ha
        clear e1 e2
        have HST := Lib.hid hst; clear hst hle
        go_wp2_with fail
        go_round
        case rel => exact ⟨k + 1, by omega, by go_num, by rw [HST.out], by rw [HST.out]; exact hm⟩
        case measure => simp [intOf]; omega
      · have ha := fun w => add64_run S X 0 w hs0 hx0 (by omega) (by omega)
        have e2 : (S + X + 0) / 18446744073709551616 = 1 := by omega
        rw [e2] at ha
        have hn := sum_none (zs := zs) (by omega)
        have HN := Lib.hid hn; clear hn
        clear e2 hst hle
        go_wp2_with fail
        go_ret2
        exact ⟨ret_tup HN.out.1.symm HN.out.2.symm, Below.refl _ _⟩
    · obtain rfl : k = zs.length := by omega
      rw [List.take_length] at *
      have HN := Lib.hid (sum_all hs)
      go_wp2_with fail
      go_ret2
      exact ⟨ret_tup HN.out.1.symm HN.out.2.symm, Below.refl _ _⟩

theorem max_same (w : World) : Calls Tryd.prog 41 #[] w fun e w' => e = .returned (.int .u64 18446744073709551615) ∧ w' = w :=
  (max_any w).mono fun _ _ h => ⟨h.1, h.2.symm⟩

set_option maxRecDepth 100000 in
theorem refSum_any (zs : List Int) (s : Value) (w : World) (h : NumsAt w s zs) :
    Calls Tryd.prog 32 #[s] w (TupB (sumV zs) (sumB zs) w) := by
  have h0 := h
  obtain ⟨p, cap, rfl, hl, hz, hc⟩ := h
  have HZ := Lib.hid hz; clear hz
  have HC := Lib.hid hc; clear hc
  have H0 := Lib.hid h0; clear h0
  go_enter Tryd.func32, Tryd.ntmps32
  go_wp2_with fail
  go_loopw [4, 5] (fun a i wr => ∃ k : Nat, k ≤ zs.length ∧ i = .int .i64 k ∧ a = .int .u64 (zs.take k).sum ∧ (zs.take k).sum ≤ 18446744073709551615 ∧ Below w.heap.size w wr) (fun _ i _ => zs.length - (intOf i).toNat)
  case atStart => exact ⟨0, Nat.zero_le _, rfl, by simp, by simp, Below.refl _ _⟩
  case round =>
    obtain ⟨k, hk, rfl, rfl, hs, hb⟩ := hrel
    have HB := Lib.hid hb; clear hb
    by_cases hlt : k < zs.length
    · have hne : zs ≠ [] := by intro h; subst h; simp at hlt
      obtain ⟨b, o, rfl, hcell⟩ := HC.out hne
      have hc : wr.cell? ⟨b, o + k, none⟩ = some (.int .u64 (zs.getD k 0)) := keep_cell (hcell k hlt) HB.out
      clear hcell hne
      have hs0 := sum_nonneg (zs.take k) (fun z hz => HZ.out z (List.mem_of_mem_take hz))
      have hst := sum_step zs k hlt
      have hx := HZ.out (zs.getD k 0) (by simp [hlt])
      have hle := sum_take_le zs (k + 1) HZ.out
      generalize hS : (zs.take k).sum = S at *
      generalize hX : zs.getD k 0 = X at *
      have hx0 := hx.1
      have hx1 := hx.2
      clear hx
      have HS := Lib.hid hS; clear hS
      have HX := Lib.hid hX; clear hX
      by_cases hm : S + X ≤ 18446744073709551615
      · have HST := Lib.hid hst; clear hst hle
        have hd : decide (18446744073709551615 - S < X) = false := by simp; omega
        go_wp2_with fail
        go_quiet ((go_at_call 41; exact Calls.quiet_of_same (max_same _)))
        go_wp2_with fail
        go_roundw
        case rel => exact ⟨k + 1, by omega, by go_num, by rw [HST.out], by rw [HST.out]; exact hm, below_drewN HB.out _⟩
        case measure => simp [intOf]; omega
      · have hd : decide (18446744073709551615 - S < X) = true := by simp; omega
        have hn := sum_none (zs := zs) (by omega)
        have HN := Lib.hid hn; clear hn
        clear hst hle
        go_wp2_with fail
        go_quiet ((go_at_call 41; exact Calls.quiet_of_same (max_same _)))
        go_wp2_with fail
        go_ret2
        exact ⟨ret_tup HN.out.1.symm HN.out.2.symm, below_drewN HB.out _⟩
    · obtain rfl : k = zs.length := by omega
      rw [List.take_length] at *
      have HN := Lib.hid (sum_all hs)
      go_wp2_with fail
      go_ret2
      exact ⟨ret_tup HN.out.1.symm HN.out.2.symm, HB.out⟩

theorem sum_ok (zs : List Int) (s : Value) (w : World) (V : Int) (h : NumsAt w s zs) (hs : zs.sum = V) (hv : V ≤ 18446744073709551615) :
    Calls Tryd.prog 31 #[s] w (TupB V true w) := by
  subst hs
  have k := sum_any zs s w h
  rw [(sum_all hv).1, (sum_all hv).2] at k
  exact k
theorem sum_bad (zs : List Int) (s : Value) (w : World) (h : NumsAt w s zs) (hv : 18446744073709551615 < zs.sum) :
    Calls Tryd.prog 31 #[s] w (TupB 0 false w) := by
  have k := sum_any zs s w h
  rw [(sum_none (by omega)).1, (sum_none (zs := zs) (by omega)).2] at k
  exact k
theorem refSum_ok (zs : List Int) (s : Value) (w : World) (V : Int) (h : NumsAt w s zs) (hs : zs.sum = V) (hv : V ≤ 18446744073709551615) :
    Calls Tryd.prog 32 #[s] w (TupB V true w) := by
  subst hs
  have k := refSum_any zs s w h
  rw [(sum_all hv).1, (sum_all hv).2] at k
  exact k
theorem refSum_bad (zs : List Int) (s : Value) (w : World) (h : NumsAt w s zs) (hv : 18446744073709551615 < zs.sum) :
    Calls Tryd.prog 32 #[s] w (TupB 0 false w) := by
  have k := refSum_any zs s w h
  rw [(sum_none (by omega)).1, (sum_none (zs := zs) (by omega)).2] at k
  exact k
/-- Literal slices of two and of three numbers. -/
theorem nums_two (w : World) (b : Nat) (x y : Int) (h : At w [(b, 0, .int .u64 x), (b, 1, .int .u64 y)]) (hx : 0 ≤ x ∧ x ≤ 18446744073709551615) (hy : 0 ≤ y ∧ y ≤ 18446744073709551615) :
    NumsAt w (.slice (some ⟨b, 0, none⟩) 2 2) [x, y] := by
  refine ⟨_, _, rfl, by simp, ?_, fun _ => ⟨b, 0, rfl, ?_⟩⟩
  · intro z hz; simp at hz; rcases hz with rfl | rfl <;> assumption
  · intro i hi
    match i, hi with
    | 0, _ => exact h.1
    | 1, _ => exact h.2.1
theorem nums_three (w : World) (b : Nat) (x y z : Int) (h : At w [(b, 0, .int .u64 x), (b, 1, .int .u64 y), (b, 2, .int .u64 z)]) (hx : 0 ≤ x ∧ x ≤ 18446744073709551615) (hy : 0 ≤ y ∧ y ≤ 18446744073709551615) (hz : 0 ≤ z ∧ z ≤ 18446744073709551615) :
    NumsAt w (.slice (some ⟨b, 0, none⟩) 3 3) [x, y, z] := by
  refine ⟨_, _, rfl, by simp, ?_, fun _ => ⟨b, 0, rfl, ?_⟩⟩
  · intro u hu; simp at hu; rcases hu with rfl | rfl | rfl <;> assumption
  · intro i hi
    match i, hi with
    | 0, _ => exact h.1
    | 1, _ => exact h.2.1
    | 2, _ => exact h.2.2.1
theorem At.new3 {w : World} {l : List (Nat × Nat × Value)} (h : At w l) (v0 v1 v2 : Value) (t : TypeId) (k : Nat) (hk : k = w.heap.size) :
    At (w.alloc (.cells #[v0, v1, v2] t)) ((k, 0, v0) :: (k, 1, v1) :: (k, 2, v2) :: l) := by
  subst hk; exact ⟨by simp, by simp, by simp, h.alloc _⟩
end Go.Proofs.YtciinnkcjiibfaaDoor
