/- edge of package setops: the number at which the membership in a list changes for the i-th time. Conditions: the list is correct. -/
import Derived.Test.YtnlbohaealkelaaDoorOSet
import Derived.Test.YtnlbohaealkelaaDoorVMath
import Derived.Test.YtnlbohaealkelaaDoorVApart
namespace Go.Proofs.YtnlbohaealkelaaDoor
open Go.RowKit
attribute [local go_sem] Oper.semAt_some
/-- A call that returns a number and whether there is one. -/
def IsNB (a : Int) (b : Bool) (w : World) (e : Ending) (w' : World) : Prop := e = .returned (.tuple #[.int .u64 a, .bool b]) ∧ w' = w
theorem nxt_any (x : Int) (w : World) (h0 : 0 ≤ x) (h : x < 18446744073709551615) :
    Calls Tryd.prog 25 #[.int .u64 x] w (IsNB (x + 1) true w) := by
  go_enter Tryd.func25, Tryd.ntmps25
  go_wp2
  go_ret2
  exact ⟨rfl, rfl⟩
theorem nxt_top (w : World) :
    Calls Tryd.prog 25 #[.int .u64 18446744073709551615] w (IsNB 0 false w) := by
  go_enter Tryd.func25, Tryd.ntmps25
  go_wp2
  go_ret2
  exact ⟨rfl, rfl⟩
set_option maxRecDepth 100000 in
theorem edge_behind (s : Value) (l : List Iv) (i k : Nat) (w : World) (hl : IvsAt w s l) (hi : i = 2 * k ∨ i = 2 * k + 1) (hk : l.length ≤ k) (hik : i ≤ 4000000) :
    Calls Tryd.prog 67 #[s, .int .i64 i] w (IsNB 0 false w) := by
  obtain ⟨p, cap, rfl, hlen⟩ := hl.shape
  have hq : (i : Int) / 2 = (k : Int) := by omega
  have hge : decide ((l.length : Int) ≤ (k : Int)) = true := by simp; omega
  clear hl hi
  go_enter Tryd.func67, Tryd.ntmps67
  go_wp2_with fail
  go_ret2
  exact ⟨rfl, rfl⟩
set_option maxRecDepth 100000 in
theorem edge_even (s : Value) (l : List Iv) (i k : Nat) (y : Iv) (w : World) (hl : IvsAt w s l) (hi : i = 2 * k) (hy : l[k]? = some y) :
    Calls Tryd.prog 67 #[s, .int .i64 i] w (IsNB y.1 true w) := by
  obtain ⟨_, _, _, hlen⟩ := hl.shape
  have hk : k < l.length := (List.getElem?_eq_some_iff.1 hy).1
  obtain ⟨b, o, cap, rfl, c0, c1⟩ := hl.elem hy
  have hq : (i : Int) / 2 = (k : Int) := by omega
  have hi4 : i ≤ 4000000 := by omega
  have hr : (i : Int) % 2 = 0 := by omega
  have hge : decide ((l.length : Int) ≤ (k : Int)) = false := by simp; omega
  have hj0 : (0 : Int) ≤ (k : Int) := by omega
  have hj1 : (k : Int) < (l.length : Int) := by omega
  obtain ⟨y1, y2⟩ := y
  dsimp only at c0 c1 ⊢
  clear hl hi hy
  go_enter Tryd.func67, Tryd.ntmps67
  go_wp2_with fail
  go_ret2
  exact ⟨rfl, rfl⟩
set_option maxRecDepth 100000 in
theorem edge_odd (s : Value) (l : List Iv) (i k : Nat) (y : Iv) (v : Int) (r : Bool) (w : World) (hl : IvsAt w s l) (hi : i = 2 * k + 1) (hy : l[k]? = some y)
    (hN : ∀ w, Calls Tryd.prog 25 #[.int .u64 y.2] w (IsNB v r w)) :
    Calls Tryd.prog 67 #[s, .int .i64 i] w (IsNB v r w) := by
  obtain ⟨_, _, _, hlen⟩ := hl.shape
  have hk : k < l.length := (List.getElem?_eq_some_iff.1 hy).1
  obtain ⟨b, o, cap, rfl, c0, c1⟩ := hl.elem hy
  have hq : (i : Int) / 2 = (k : Int) := by omega
  have hi4 : i ≤ 4000000 := by omega
  have hr : (i : Int) % 2 = 1 := by omega
  have hge : decide ((l.length : Int) ≤ (k : Int)) = false := by simp; omega
  have hj0 : (0 : Int) ≤ (k : Int) := by omega
  have hj1 : (k : Int) < (l.length : Int) := by omega
  obtain ⟨y1, y2⟩ := y
  dsimp only at c0 c1 hN ⊢
  have HN := Lib.hid hN; clear hN
  clear hl hi hy
  go_enter Tryd.func67, Tryd.ntmps67
  go_wp2_with (go_at_call 25; refine (HN.out _).mono ?_; rintro e w' ⟨rfl, hw⟩; obtain rfl := hw.symm)
  all_goals try go_ret2
  all_goals exact ⟨rfl, rfl⟩
/-- The i-th edge, off the list of edges. -/
theorem edge_get {l : List Iv} (hc : canon l) (hU : ∀ y ∈ l, y.2 ≤ UM) : ∀ (i k : Nat), (i = 2 * k → (edgeL UM l)[i]? = l[k]?.map (·.1)) ∧
    (i = 2 * k + 1 → (edgeL UM l)[i]? = l[k]?.bind fun y => if y.2 < UM then some (y.2 + 1) else none) := by
  induction l with
  | nil => intro i k; simp [edgeL]
  | cons y l ih =>
    obtain ⟨h1, h2, h3⟩ := hc
    have hy := hU y (by simp)
    have ih := ih h3 fun z hz => hU z (by simp [hz])
    have hend : ¬ y.2 < UM → l = [] := by
      intro hn
      cases l with
      | nil => rfl
      | cons z r =>
        have e1 := h2 z rfl
        have e2 := h3.1
        have e3 := hU z (by simp)
        omega
    intro i k
    match k with
    | 0 =>
      refine ⟨?_, ?_⟩
      · rintro rfl; simp [edgeL]
      · rintro rfl
        unfold edgeL
        by_cases c : y.2 < UM
        · rw [if_pos c]; simp [c]
        · rw [if_neg c]; simp [c]
    | k + 1 =>
      by_cases c : y.2 < UM
      · have e : ∀ j, (edgeL UM (y :: l))[j + 1 + 1]? = (edgeL UM l)[j]? := by
          intro j; rw [show edgeL UM (y :: l) = y.1 :: (y.2 + 1) :: edgeL UM l from by rw [edgeL, if_pos c]]; rfl
        refine ⟨?_, ?_⟩
        · rintro rfl
          rw [show 2 * (k + 1) = 2 * k + 1 + 1 by omega, e]
          simpa using (ih (2 * k) k).1 rfl
        · rintro rfl
          rw [show 2 * (k + 1) + 1 = 2 * k + 1 + 1 + 1 by omega, e]
          simpa using (ih (2 * k + 1) k).2 rfl
      · obtain rfl := hend c
        have e : edgeL UM [y] = [y.1] := by unfold edgeL; rw [if_neg c]
        refine ⟨?_, ?_⟩ <;> rintro rfl <;> rw [e] <;> simp
theorem edge_some {s : Value} {l : List Iv} {i : Nat} {v : Int} {w : World} (hl : OpAt w s l) (hv : (edgeL UM l)[i]? = some v) :
    Calls Tryd.prog 67 #[s, .int .i64 i] w (IsNB v true w) := by
  have hg := edge_get hl.good.can (fun y hy => (hl.good.ok y hy).2.2) i (i / 2)
  rcases Nat.mod_two_eq_zero_or_one i with h | h
  · have hi : i = 2 * (i / 2) := by omega
    have e := hg.1 hi
    rw [hv] at e
    cases hy : l[i / 2]? with
    | none => rw [hy] at e; cases e
    | some y =>
      rw [hy] at e
      obtain rfl : v = y.1 := by simpa using e
      exact edge_even s l i _ y w hl.at' hi hy
  · have hi : i = 2 * (i / 2) + 1 := by omega
    have e := hg.2 hi
    rw [hv] at e
    cases hy : l[i / 2]? with
    | none => rw [hy] at e; cases e
    | some y =>
      rw [hy] at e
      have h0 := hl.good.ok y (List.mem_of_getElem? hy)
      by_cases c : y.2 < UM
      · obtain rfl : v = y.2 + 1 := by simpa [c] using e
        exact edge_odd s l i _ y _ _ w hl.at' hi hy fun w => nxt_any y.2 w (by omega) c
      · simp [c] at e
theorem edge_none {s : Value} {l : List Iv} {i : Nat} {w : World} (hl : OpAt w s l) (hv : (edgeL UM l)[i]? = none) (hi : i ≤ 40000) :
    Calls Tryd.prog 67 #[s, .int .i64 i] w (IsNB 0 false w) := by
  have hg := edge_get hl.good.can (fun y hy => (hl.good.ok y hy).2.2) i (i / 2)
  rcases Nat.mod_two_eq_zero_or_one i with h | h
  · have hi : i = 2 * (i / 2) := by omega
    have e := hg.1 hi
    rw [hv] at e
    cases hy : l[i / 2]? with
    | none => exact edge_behind s l i (i / 2) w hl.at' (.inl hi) (List.getElem?_eq_none_iff.1 hy) (by omega)
    | some y => rw [hy] at e; cases e
  · have hi : i = 2 * (i / 2) + 1 := by omega
    have e := hg.2 hi
    rw [hv] at e
    cases hy : l[i / 2]? with
    | none => exact edge_behind s l i (i / 2) w hl.at' (.inr hi) (List.getElem?_eq_none_iff.1 hy) (by omega)
    | some y =>
      rw [hy] at e
      have h0 := hl.good.ok y (List.mem_of_getElem? hy)
      by_cases c : y.2 < UM
      · simp [c] at e
      · have hu : UM = 18446744073709551615 := rfl
        obtain ⟨y1, y2⟩ := y
        obtain rfl : y2 = 18446744073709551615 := by dsimp only at c h0; omega
        exact edge_odd s l i _ _ _ _ w hl.at' hi hy fun w => nxt_top w
end Go.Proofs.YtnlbohaealkelaaDoor
