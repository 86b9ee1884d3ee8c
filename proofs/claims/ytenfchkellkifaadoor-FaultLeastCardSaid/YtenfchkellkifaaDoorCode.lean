/- Code, At and Has of package fault, for errors in memory and nil. Condition: the variable errors.errorType holds the type error. -/
import Derived.Test.YtenfchkellkifaaDoorFirst
namespace Go.Proofs.YtenfchkellkifaaDoor
open Go.RowKit Go.Extern.Stop Go.Stop Go.Extern

/-- The first fault of the chain, as first returns it. -/
def FirstFault (b : Option (Int × Option Int)) (w : World) (e : Ending) (w' : World) : Prop :=
  Below w.heap.size w w' ∧ match b with
    | some (c, some x) => e = .returned (.tuple #[.agg #[.int .i64 c, .int .i64 x], .bool true])
    | _ => e = .returned (.tuple #[.agg #[.int .i64 0, .int .i64 0], .bool false])

theorem first_fault_nil (w : World) : Calls Tryd.prog 30 #[.nilIface] w (FirstFault none w) := by
  go_enter_defers Tryd.func30, Tryd.ntmps30
  go_wp2_with fail
  refine (As_nil _ _).mono ?_
  rintro e w' ⟨rfl, rfl⟩
  go_wp2_with fail
  refine leaves_cons (f := 38) (args := #[]) (by simp) (by simp [go_sem]) ?_
  refine (idle_fault _).mono ?_
  rintro e u' w'' ⟨rfl, rfl, rfl⟩
  refine ⟨.tuple #[.agg #[.int .i64 0, .int .i64 0], .bool false], by simp [results, Tryd.results30, go_sem], ?_, rfl⟩
  exact ((Below.refl _ _).alloc (Nat.le_refl _) _).alloc (by simp) _

set_option maxRecDepth 100000 in
theorem first_fault (b : Option (Int × Option Int)) (s : ByteArray) (ns : List ByteArray) (v : Value) (w : World) (hg : ErrT w) (h : ErrV w.heap.size w b s ns v) :
    Calls Tryd.prog 30 #[v] w (FirstFault b w) := by
  have hB1 : Below w.heap.size w (w.alloc (.cells #[.int .i64 0, .int .i64 0] 28)) := (Below.refl _ _).alloc (Nat.le_refl _) _
  have hB : Below w.heap.size w ((w.alloc (.cells #[.int .i64 0, .int .i64 0] 28)).alloc (.cells #[.int .i64 0, .int .i64 0] 28)) := hB1.alloc (by simp) _
  have k := As_fault b s ns v (w.heap.size + 1) (.int .i64 0) (.int .i64 0) ((w.alloc (.cells #[.int .i64 0, .int .i64 0] 28)).alloc (.cells #[.int .i64 0, .int .i64 0] 28)) (hg.here hB) (h.below hB (by omega)) (by simp) (by simp) (by simp) (by simp) (by have := hg.lt; omega)
  have K := Lib.hid k; clear k
  have HB := Lib.hid hB; clear hB
  have HB1 := Lib.hid hB1; clear hB1
  have H := Lib.hid h; clear h
  have Hg := Lib.hid hg; clear hg
  go_enter_defers Tryd.func30, Tryd.ntmps30
  go_wp2_with fail
  refine K.out.mono ?_
  intro e w' he
  have old : ∀ (w' : World), Below (w.heap.size + 1) ((w.alloc (.cells #[.int .i64 0, .int .i64 0] 28)).alloc (.cells #[.int .i64 0, .int .i64 0] 28)) w' →
      w'.cell? ⟨w.heap.size, 0, none⟩ = some (.int .i64 0) ∧ w'.cell? ⟨w.heap.size, 1, none⟩ = some (.int .i64 0) ∧ w'.frozen? ⟨w.heap.size, 0, none⟩ = false ∧ w'.frozen? ⟨w.heap.size, 1, none⟩ = false := by
    intro w' hb
    refine ⟨?_, ?_, ?_, ?_⟩
    · rw [hb.cell (p := ⟨w.heap.size, 0, none⟩) (by simp)]; simp
    · rw [hb.cell (p := ⟨w.heap.size, 1, none⟩) (by simp)]; simp
    · rw [hb.frozen (p := ⟨w.heap.size, 0, none⟩) (by simp)]; simp
    · rw [hb.frozen (p := ⟨w.heap.size, 1, none⟩) (by simp)]; simp
  rcases b with _ | ⟨c, _ | o⟩
  · obtain ⟨rfl, hb⟩ := he
    obtain ⟨o0, o1, o2, o3⟩ := old _ hb
    clear old
    have Hb := Lib.hid hb; clear hb
    go_wp2_with fail
    refine leaves_cons (f := 38) (args := #[]) (by simp) (by simp [go_sem]) ?_
    refine (idle_fault _).mono ?_
    rintro e u' w'' ⟨rfl, rfl, rfl⟩
    have hcs := cells_two w' w.heap.size (.int .i64 0) (.int .i64 0) _ _ o0 o1
    exact ⟨.tuple #[.agg #[.int .i64 0, .int .i64 0], .bool false], by simp [results, Tryd.results30, go_sem, hcs.1, hcs.2],
      ((HB.out.trans (Hb.out.mono (Nat.le_succ _))).setCell (p := ⟨w.heap.size, 0, none⟩) (Nat.le_refl _) _).setCell (p := ⟨w.heap.size, 1, none⟩) (Nat.le_refl _) _, rfl⟩
  · obtain ⟨rfl, hb⟩ := he
    obtain ⟨o0, o1, o2, o3⟩ := old _ hb
    clear old
    have Hb := Lib.hid hb; clear hb
    go_wp2_with fail
    refine leaves_cons (f := 38) (args := #[]) (by simp) (by simp [go_sem]) ?_
    refine (idle_fault _).mono ?_
    rintro e u' w'' ⟨rfl, rfl, rfl⟩
    have hcs := cells_two w' w.heap.size (.int .i64 0) (.int .i64 0) _ _ o0 o1
    exact ⟨.tuple #[.agg #[.int .i64 0, .int .i64 0], .bool false], by simp [results, Tryd.results30, go_sem, hcs.1, hcs.2],
      ((HB.out.trans (Hb.out.mono (Nat.le_succ _))).setCell (p := ⟨w.heap.size, 0, none⟩) (Nat.le_refl _) _).setCell (p := ⟨w.heap.size, 1, none⟩) (Nat.le_refl _) _, rfl⟩
  · obtain ⟨rfl, hb, hc0, hc1⟩ := he
    obtain ⟨o0, o1, o2, o3⟩ := old _ hb
    clear old
    have Hb := Lib.hid hb; clear hb
    go_wp2_with fail
    refine leaves_cons (f := 38) (args := #[]) (by simp) (by simp [go_sem]) ?_
    refine (idle_fault _).mono ?_
    rintro e u' w'' ⟨rfl, rfl, rfl⟩
    have hcs := cells_two w' w.heap.size (.int .i64 c) (.int .i64 o) _ _ o0 o1
    exact ⟨.tuple #[.agg #[.int .i64 c, .int .i64 o], .bool true], by simp [results, Tryd.results30, go_sem, hcs.1, hcs.2],
      ((HB.out.trans (Hb.out.mono (Nat.le_succ _))).setCell (p := ⟨w.heap.size, 0, none⟩) (Nat.le_refl _) _).setCell (p := ⟨w.heap.size, 1, none⟩) (Nat.le_refl _) _, rfl⟩

theorem first_code_nil (w : World) : Calls Tryd.prog 29 #[.nilIface] w (FirstCode none w) := by
  go_enter_defers Tryd.func29, Tryd.ntmps29
  go_wp2_with fail
  refine (As_nil _ _).mono ?_
  rintro e w' ⟨rfl, rfl⟩
  go_wp2_with fail
  refine leaves_cons (f := 37) (args := #[]) (by simp) (by simp [go_sem]) ?_
  refine (idle_code _).mono ?_
  rintro e u' w'' ⟨rfl, rfl, rfl⟩
  exact ⟨.tuple #[.int .i64 0, .bool false], by simp [results, Tryd.results29, go_sem], (Below.refl _ _).alloc (Nat.le_refl _) _, rfl⟩

/-- An error in memory, or nil. -/
def ErrN (W : World) (e : Option (Option (Int × Option Int))) (s : ByteArray) (ns : List ByteArray) (v : Value) : Prop :=
  match e with
  | none => v = .nilIface
  | some b => ErrV W.heap.size W b s ns v

theorem ErrN.below {W W' : World} {e : Option (Option (Int × Option Int))} {s : ByteArray} {ns : List ByteArray} {v : Value} (h : ErrN W e s ns v) (hb : Below W.heap.size W W') : ErrN W' e s ns v := by
  cases e with
  | none => exact h
  | some b => exact ErrV.below hb hb.size h

/-- The code of an error. -/
def codeOf : Option (Option (Int × Option Int)) → Int
  | none => 0
  | some (some (c, _)) => c
  | some none => 17

/-- Its fault's offset, if it has a fault. -/
def atOf : Option (Option (Int × Option Int)) → Option Int
  | some (some (_, o)) => o
  | _ => none

def IntEnd (r : Int) (w : World) (e : Ending) (w' : World) : Prop := e = .returned (.int .i64 r) ∧ Below w.heap.size w w'

set_option maxRecDepth 100000 in
theorem Code_any (e : Option (Option (Int × Option Int))) (s : ByteArray) (ns : List ByteArray) (v : Value) (w : World) (hg : ErrT w) (h : ErrN w e s ns v) :
    Calls Tryd.prog 12 #[v] w (IntEnd (codeOf e) w) := by
  cases e with
  | none =>
    obtain rfl : v = .nilIface := h
    go_enter Tryd.func12, Tryd.ntmps12
    go_wp2_with fail
    go_ret
    exact ⟨rfl, Below.refl _ _⟩
  | some b =>
    have h : ErrV w.heap.size w b s ns v := h
    have k := first_code b s ns v w hg h
    obtain ⟨ty, x, rfl⟩ := h.not_nil
    have K := Lib.hid k; clear k
    have H := Lib.hid h; clear h
    have Hg := Lib.hid hg; clear hg
    go_enter Tryd.func12, Tryd.ntmps12
    go_wp2_with fail
    refine K.out.mono ?_
    intro e w' he
    rcases b with _ | ⟨c, o⟩
    · obtain ⟨hb, rfl⟩ := he
      go_wp2_with fail
      go_ret
      exact ⟨rfl, hb⟩
    · obtain ⟨hb, rfl⟩ := he
      go_wp2_with fail
      go_ret
      exact ⟨rfl, hb⟩

theorem fault_any (e : Option (Option (Int × Option Int))) (s : ByteArray) (ns : List ByteArray) (v : Value) (w : World) (hg : ErrT w) (h : ErrN w e s ns v) :
    Calls Tryd.prog 30 #[v] w (fun en w' => Below w.heap.size w w' ∧ en = .returned (match atOf e with
      | some a => .tuple #[.agg #[.int .i64 (codeOf e), .int .i64 a], .bool true]
      | none => .tuple #[.agg #[.int .i64 0, .int .i64 0], .bool false])) := by
  cases e with
  | none =>
    obtain rfl : v = .nilIface := h
    exact (first_fault_nil w).mono fun en w' he => he
  | some b =>
    refine (first_fault b s ns v w hg h).mono fun en w' he => ?_
    rcases b with _ | ⟨c, _ | o⟩ <;> exact he

set_option maxRecDepth 100000 in
theorem At_any (e : Option (Option (Int × Option Int))) (s : ByteArray) (ns : List ByteArray) (v : Value) (w : World) (hg : ErrT w) (h : ErrN w e s ns v) :
    Calls Tryd.prog 13 #[v] w (IntEnd ((atOf e).getD (-1)) w) := by
  have k := fault_any e s ns v w hg h
  have K := Lib.hid k; clear k
  have H := Lib.hid h; clear h
  have Hg := Lib.hid hg; clear hg
  go_enter Tryd.func13, Tryd.ntmps13
  go_wp2_with fail
  refine K.out.mono ?_
  intro en w' ⟨hb, he⟩
  have Hb := Lib.hid hb; clear hb
  cases ha : atOf e with
  | none =>
    rw [ha] at he
    subst he
    have Ha := Lib.hid ha; clear ha
    go_wp2_with fail
    go_ret
    exact ⟨by simp [Ha.out], Hb.out.trans (((Below.refl _ _).alloc (Nat.le_refl _) _).mono Hb.out.size)⟩
  | some a =>
    rw [ha] at he
    subst he
    have Ha := Lib.hid ha; clear ha
    go_wp2_with fail
    go_ret
    exact ⟨by simp [Ha.out], Hb.out.trans (((Below.refl _ _).alloc (Nat.le_refl _) _).mono Hb.out.size)⟩
end Go.Proofs.YtenfchkellkifaaDoor
