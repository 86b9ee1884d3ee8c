/- Piece and Max of the references; slices of numbers in memory. Conditions: none but the index in its range. -/
import Derived.Test.YtefiobfljhmkkaaROwn
import Derived.Deep.DrawnRows
import Derived.StillTailTactics
import Derived.RegionTactic
import Derived.Deep.RegionWith
namespace Go.Proofs.Ytefiobfljhmkkaa
open Go.RowKit
attribute [local go_sem ↓] Go.wp_at_zero Go.wp_at_succ
/-- A slice of numbers in memory. -/
def NumsAt (w : World) (s : Value) (l : List Int) : Prop :=
  ∃ p cap, s = .slice p l.length cap ∧ l.length ≤ 4194304 ∧ (l ≠ [] → ∃ b o, p = some ⟨b, o, none⟩ ∧ ∀ i x, l[i]? = some x → w.cell? ⟨b, o + i, none⟩ = some (.int .u64 x))
theorem NumsAt.call {w w' : World} {s : Value} {l : List Int} (h : NumsAt w s l) (hb : Below w.heap.size w w') : NumsAt w' s l := by
  obtain ⟨p, cap, h1, h2, h3⟩ := h
  refine ⟨p, cap, h1, h2, fun hne => ?_⟩
  obtain ⟨b, o, h5, h6⟩ := h3 hne
  exact ⟨b, o, h5, fun i x hi => keep_cell (h6 i x hi) hb⟩
theorem NumsAt.elem {w : World} {s : Value} {l : List Int} (h : NumsAt w s l) {i : Nat} {x : Int} (hi : l[i]? = some x) :
    ∃ b o cap, s = .slice (some ⟨b, o, none⟩) l.length cap ∧ w.cell? ⟨b, o + i, none⟩ = some (.int .u64 x) := by
  obtain ⟨p, cap, rfl, _, h3⟩ := h
  obtain ⟨b, o, rfl, h6⟩ := h3 (by intro e; subst e; simp at hi)
  exact ⟨b, o, cap, rfl, h6 i x hi⟩
theorem NumsAt.cells {w : World} {b o n cap : Nat} {l : List Int} (h : NumsAt w (.slice (some ⟨b, o, none⟩) n cap) l) {i : Nat} {x : Int} (hi : l[i]? = some x) : w.cell? ⟨b, o + i, none⟩ = some (.int .u64 x) := by
  obtain ⟨b', o', cap', e, h1⟩ := h.elem hi
  cases e
  exact h1
theorem NumsAt.shape {w : World} {s : Value} {l : List Int} (h : NumsAt w s l) : ∃ p cap, s = .slice p l.length cap ∧ l.length ≤ 4194304 := by
  obtain ⟨p, cap, h1, h2, _⟩ := h; exact ⟨p, cap, h1, h2⟩
theorem max_any (w : World) : Calls Try.prog 58 #[] w fun e w' => e = .returned (.int .u64 18446744073709551615) ∧ w = w' := by
  go_enter Try.func58, Try.ntmps58
  go_wp2_with fail
  go_ret
  exact ⟨rfl, rfl⟩
def IsIvl (x : Iv) (w : World) (e : Ending) (w' : World) : Prop := e = .returned (.agg #[.int .u64 x.1, .int .u64 x.2]) ∧ Below w.heap.size w w'
set_option maxRecDepth 100000 in
set_option maxHeartbeats 2000000 in
theorem piece_any (S : List Int) (s : Value) (k : Nat) (w : World) (hS : NumsAt w s S) (hk : k < S.length) (ha : ∀ (i : Nat) (x : Int), S[i]? = some x → 0 ≤ x ∧ x ≤ 18446744073709551615) (hlo : ∀ x : Int, S[k + 1]? = some x → 1 ≤ x) :
    Calls Try.prog 52 #[s, .int .i64 k] w (IsIvl (pieceS 18446744073709551615 S k) w) := by
  have hx : S[k]? = some S[k] := by simp [hk]
  have hlen := hS.shape.choose_spec.choose_spec.2
  obtain ⟨b, o, cap, rfl, c0⟩ := hS.elem hx
  have hp1 : S.getD k 0 = S[k] := by simp [hk]
  have hj0 : (0 : Int) ≤ (k : Int) := by omega
  have hj1 : (k : Int) < (S.length : Int) := by omega
  have hw1 : IntKind.i64.wrap ((k : Int) + 1) = (k : Int) + 1 := IntWalk.i64_in _ (by omega)
  by_cases h2 : k + 1 < S.length
  · have hy : S[k + 1]? = some S[k + 1] := by simp [h2]
    have c1 := hS.cells hy
    have hb := ha _ _ hy
    have hlo := hlo _ hy
    have HP := Lib.hid (show pieceS 18446744073709551615 S k = (S[k], S[k + 1] - 1) by unfold pieceS boundS; rw [hp1, hy])
    clear hp1 hx hy
    generalize S[k] = x at *
    generalize S[k + 1] = y at *
    have hj2 : (0 : Int) ≤ (k : Int) + 1 := by omega
    have hj3 : (k : Int) + 1 < (S.length : Int) := by omega
    have hA := (Kp.start w).new2 (.int .u64 0) (.int .u64 0) 70 w.heap.size rfl
    have hF := (Free.new2 (w := w) (l := []) trivial (.int .u64 0) (.int .u64 0) 70 w.heap.size rfl)
    have d0 := keep_cell c0 (below_new w (.cells #[.int .u64 0, .int .u64 0] 70))
    have d1 := keep_cell c1 (below_new w (.cells #[.int .u64 0, .int .u64 0] 70))
    obtain ⟨W0, hW0⟩ : ∃ W0, w.alloc (.cells #[.int .u64 0, .int .u64 0] 70) = W0 := ⟨_, rfl⟩
    rw [hW0] at hA hF d0 d1
    have HW0 := Lib.hid hW0; clear hW0 c0 c1
    obtain ⟨HA0, ha0, ha1, _⟩ := hA
    obtain ⟨⟨hf0, _⟩, ⟨hf1, _⟩, _⟩ := hF
    have HA := Lib.hid HA0; clear HA0
    clear hS ha
    go_enter Try.func52, Try.ntmps52
    go_wp2_with fail
    rw [HW0.out]
    go_still_tail 11, (by kernel_rfl)
    change wpList _ _ _ _ _ W0.drew
    obtain ⟨W1, hW1⟩ : ∃ W1, W0.drew = W1 := ⟨_, rfl⟩
    have g0 : W1.cell? ⟨w.heap.size, 0, none⟩ = some (.int .u64 0) := by rw [← hW1]; simpa using ha0
    have g1 : W1.cell? ⟨w.heap.size, 1, none⟩ = some (.int .u64 0) := by rw [← hW1]; simpa using ha1
    have g2 : W1.frozen? ⟨w.heap.size, 0, none⟩ = false := by rw [← hW1]; simpa using hf0
    have g3 : W1.frozen? ⟨w.heap.size, 1, none⟩ = false := by rw [← hW1]; simpa using hf1
    have HD := Lib.hid (show Below w.heap.size w W1 by rw [← hW1]; exact HA.out.drew)
    rw [hW1]
    clear hW1 ha0 ha1 hf0 hf1 HW0
    go_wp2_with fail
    obtain ⟨q0, q1, _⟩ := At.set2 g0 g1 (l := []) trivial (by simp) (.int .u64 x) (.int .u64 (y - 1))
    refine bodyPost_ret (v := .agg #[.int .u64 x, .int .u64 (y - 1)]) (by simp [results, Try.results52, go_sem, q0, q1]) rfl ⟨by rw [HP.out], ?_⟩
    exact below_set (below_set HD.out (Nat.le_refl _) _ _) (Nat.le_refl _) _ _
  · have hn : S[k + 1]? = none := List.getElem?_eq_none_iff.2 (by omega)
    have HP := Lib.hid (show pieceS 18446744073709551615 S k = (S[k], 18446744073709551615) by unfold pieceS boundS; rw [hp1, hn]; rfl)
    clear hp1 hx hn
    generalize S[k] = x at *
    have hj3 : ¬ (k : Int) + 1 < (S.length : Int) := by omega
    have hA := (Kp.start w).new2 (.int .u64 0) (.int .u64 0) 70 w.heap.size rfl
    have hF := (Free.new2 (w := w) (l := []) trivial (.int .u64 0) (.int .u64 0) 70 w.heap.size rfl)
    have d0 := keep_cell c0 (below_new w (.cells #[.int .u64 0, .int .u64 0] 70))
    obtain ⟨W0, hW0⟩ : ∃ W0, w.alloc (.cells #[.int .u64 0, .int .u64 0] 70) = W0 := ⟨_, rfl⟩
    rw [hW0] at hA hF d0
    have HW0 := Lib.hid hW0; clear hW0 c0
    obtain ⟨HA0, ha0, ha1, _⟩ := hA
    obtain ⟨⟨hf0, _⟩, ⟨hf1, _⟩, _⟩ := hF
    have HA := Lib.hid HA0; clear HA0
    clear hS ha
    have KM := max_any
    go_enter Try.func52, Try.ntmps52
    go_wp2_with fail
    rw [HW0.out]
    go_region_with ((go_at_call 58; refine (KM _).mono ?_; rintro e w' ⟨rfl, rfl⟩))
    all_goals
      have q0 : (W0.setCell ⟨w.heap.size, 0, none⟩ (.int .u64 x)).cell? ⟨w.heap.size, 0, none⟩ = some (.int .u64 x) := World.cell?_setCell_same' _ _ _ (by rw [ha0]; rfl)
      have q1 : ((W0.setCell ⟨w.heap.size, 0, none⟩ (.int .u64 x)).setCell ⟨w.heap.size, 1, none⟩ (.int .u64 18446744073709551615)).cell? ⟨w.heap.size, 1, none⟩ = some (.int .u64 18446744073709551615) := World.cell?_setCell_same' _ _ _ (by rw [World.cell?_setCell_other _ _ _ _ (by simp), ha1]; rfl)
      go_wp2_with fail
      refine bodyPost_ret (v := .agg #[.int .u64 x, .int .u64 18446744073709551615]) (by simp [results, Try.results52, go_sem, q0, q1]) rfl ⟨by rw [HP.out], ?_⟩
      first
        | exact below_set (below_set HA.out (Nat.le_refl _) _ _) (Nat.le_refl _) _ _
        | exact (below_set (below_set HA.out (Nat.le_refl _) _ _) (Nat.le_refl _) _ _).drew
        | exact (below_set (below_set HA.out (Nat.le_refl _) _ _) (Nat.le_refl _) _ _).drew.drew
end Go.Proofs.Ytefiobfljhmkkaa
