/- errors.As, first, Code and At of package fault, for nil and for errors that are a code or a fault. Condition: the variable errors.errorType holds the type error. -/
import Derived.Test.YtciinnkcjiibfaaDoorEAs
namespace Go.Proofs.YtciinnkcjiibfaaDoor
open Go.RowKit Go.Extern.Stop Go.Stop Go.Extern

/-- The package-level variable errors.errorType holds its type. -/
def ErrT (w : World) : Prop := w.cell? ⟨0, 0, none⟩ = some (.iface 81 (.agg #[.pointer (some ⟨1, 26, none⟩)]))

theorem ErrT.lt {w : World} (h : ErrT w) : 0 < w.heap.size := World.block_lt_of_cell? w _ h
theorem ErrT.below {w w' : World} {B : Nat} (h : ErrT w) (hb : Below B w w') (hB : 0 < B) : ErrT w' := by
  unfold ErrT at *; rw [hb.cell (p := ⟨0, 0, none⟩) hB]; exact h
theorem ErrT.here {w w' : World} (h : ErrT w) (hb : Below w.heap.size w w') : ErrT w' := h.below hb h.lt

theorem As_nil (t : Value) (w : World) :
    Calls Tryd.prog 34 #[.nilIface, t] w fun e w' => e = .returned (.bool false) ∧ w = w' := by
  go_enter Tryd.func34, Tryd.ntmps34
  go_wp2
  go_ret
  exact ⟨rfl, rfl⟩

set_option maxRecDepth 100000 in
set_option maxHeartbeats 4000000 in
theorem As_code (c : Int) (o : Option Int) (tb : Nat) (old : Value) (w : World) (hg : ErrT w)
    (ht : w.cell? ⟨tb, 0, none⟩ = some old) (hf : w.frozen? ⟨tb, 0, none⟩ = false) (hgt : 0 < tb) :
    Calls Tryd.prog 34 #[baseV c o, .iface 61 (.pointer (some ⟨tb, 0, none⟩))] w (AsCode c tb w) := by
  have htl : tb < w.heap.size := World.block_lt_of_cell? w _ ht
  have hB : Below tb w ((w.alloc (.cells #[.pointer (some ⟨tb, 0, none⟩)] 61)).alloc (.cells #[.pointer (some ⟨1, 61, none⟩), .pointer (some ⟨w.heap.size, 0, none⟩), .int .u64 150] 71)) :=
    ((Below.refl _ _).alloc (Nat.le_of_lt htl) _).alloc (by simp; omega) _
  have e0 : ((w.alloc (.cells #[.pointer (some ⟨tb, 0, none⟩)] 61)).alloc (.cells #[.pointer (some ⟨1, 61, none⟩), .pointer (some ⟨w.heap.size, 0, none⟩), .int .u64 150] 71)).cell? ⟨w.heap.size, 0, none⟩ = some (.pointer (some ⟨tb, 0, none⟩)) := by
    rw [World.cell?_alloc_lt _ _ ⟨w.heap.size, 0, none⟩ (by simp)]; simp
  have hg2 : ((w.alloc (.cells #[.pointer (some ⟨tb, 0, none⟩)] 61)).alloc (.cells #[.pointer (some ⟨1, 61, none⟩), .pointer (some ⟨w.heap.size, 0, none⟩), .int .u64 150] 71)).cell? ⟨0, 0, none⟩ = some (.iface 81 (.agg #[.pointer (some ⟨1, 26, none⟩)])) :=
    hg.below hB hgt
  have n8 := isNil_code ⟨w.heap.size, 0, none⟩ ⟨tb, 0, none⟩ ((w.alloc (.cells #[.pointer (some ⟨tb, 0, none⟩)] 61)).alloc (.cells #[.pointer (some ⟨1, 61, none⟩), .pointer (some ⟨w.heap.size, 0, none⟩), .int .u64 150] 71)) e0
  have k := as_code c o w.heap.size tb old ((w.alloc (.cells #[.pointer (some ⟨tb, 0, none⟩)] 61)).alloc (.cells #[.pointer (some ⟨1, 61, none⟩), .pointer (some ⟨w.heap.size, 0, none⟩), .int .u64 150] 71))
    e0 (by simp; omega) (by rw [World.cell?_alloc_lt _ _ ⟨tb, 0, none⟩ (by simp; omega), World.cell?_alloc_lt _ _ ⟨tb, 0, none⟩ htl]; exact ht)
    (by rw [World.frozen?_alloc_old _ _ ⟨tb, 0, none⟩ (by simp; omega), World.frozen?_alloc_old _ _ ⟨tb, 0, none⟩ (Nat.ne_of_lt htl)]; exact hf) (by simp; omega)
  have K := Lib.hid k; clear k
  have HB := Lib.hid hB; clear hB
  have Ht := Lib.hid ht; clear ht
  have Hf := Lib.hid hf; clear hf
  have Hg := Lib.hid hg; clear hg
  have E0 := Lib.hid e0; clear e0
  obtain ⟨ty0, u0, hnn⟩ : ∃ t u, baseV c o = .iface t u := by cases o <;> exact ⟨_, _, rfl⟩
  rw [hnn] at K ⊢
  clear hnn
  have f1 := valueOf_code
  have f2 := type_code
  have f3 := rt_kind
  have f4 := kindP_code
  have f5 := kindE_code
  have f6 := rt_elem
  have f7 := elemT_code
  have f8 := rt_impl
  have f9 := impl_code
  go_enter Tryd.func34, Tryd.ntmps34
  go_wp2_with fail
  refine K.out.mono ?_
  intro e w' he
  obtain ⟨rfl, hb, hc⟩ := he
  have Hb := Lib.hid hb; clear hb
  have Hc := Lib.hid hc; clear hc
  go_wp2_with fail
  go_ret
  exact ⟨rfl, HB.out.trans Hb.out, Hc.out⟩
set_option maxRecDepth 100000 in
set_option maxHeartbeats 4000000 in
theorem As_fault (c : Int) (o : Option Int) (tb : Nat) (old o2 : Value) (w : World) (hg : ErrT w)
    (ht : w.cell? ⟨tb, 0, none⟩ = some old) (hf : w.frozen? ⟨tb, 0, none⟩ = false) (ht1 : w.cell? ⟨tb, 1, none⟩ = some o2) (hf1 : w.frozen? ⟨tb, 1, none⟩ = false) (hgt : 0 < tb) :
    Calls Tryd.prog 34 #[baseV c o, .iface 62 (.pointer (some ⟨tb, 0, none⟩))] w (AsFault c o tb w) := by
  have htl : tb < w.heap.size := World.block_lt_of_cell? w _ ht
  have hB : Below tb w ((w.alloc (.cells #[.pointer (some ⟨tb, 0, none⟩)] 62)).alloc (.cells #[.pointer (some ⟨1, 62, none⟩), .pointer (some ⟨w.heap.size, 0, none⟩), .int .u64 150] 71)) :=
    ((Below.refl _ _).alloc (Nat.le_of_lt htl) _).alloc (by simp; omega) _
  have e0 : ((w.alloc (.cells #[.pointer (some ⟨tb, 0, none⟩)] 62)).alloc (.cells #[.pointer (some ⟨1, 62, none⟩), .pointer (some ⟨w.heap.size, 0, none⟩), .int .u64 150] 71)).cell? ⟨w.heap.size, 0, none⟩ = some (.pointer (some ⟨tb, 0, none⟩)) := by
    rw [World.cell?_alloc_lt _ _ ⟨w.heap.size, 0, none⟩ (by simp)]; simp
  have hg2 : ((w.alloc (.cells #[.pointer (some ⟨tb, 0, none⟩)] 62)).alloc (.cells #[.pointer (some ⟨1, 62, none⟩), .pointer (some ⟨w.heap.size, 0, none⟩), .int .u64 150] 71)).cell? ⟨0, 0, none⟩ = some (.iface 81 (.agg #[.pointer (some ⟨1, 26, none⟩)])) :=
    hg.below hB hgt
  have n8 := isNil_fault ⟨w.heap.size, 0, none⟩ ⟨tb, 0, none⟩ ((w.alloc (.cells #[.pointer (some ⟨tb, 0, none⟩)] 62)).alloc (.cells #[.pointer (some ⟨1, 62, none⟩), .pointer (some ⟨w.heap.size, 0, none⟩), .int .u64 150] 71)) e0
  have k := as_fault c o w.heap.size tb old o2 ((w.alloc (.cells #[.pointer (some ⟨tb, 0, none⟩)] 62)).alloc (.cells #[.pointer (some ⟨1, 62, none⟩), .pointer (some ⟨w.heap.size, 0, none⟩), .int .u64 150] 71))
    e0 (by simp; omega) (by rw [World.cell?_alloc_lt _ _ ⟨tb, 0, none⟩ (by simp; omega), World.cell?_alloc_lt _ _ ⟨tb, 0, none⟩ htl]; exact ht)
    (by rw [World.frozen?_alloc_old _ _ ⟨tb, 0, none⟩ (by simp; omega), World.frozen?_alloc_old _ _ ⟨tb, 0, none⟩ (Nat.ne_of_lt htl)]; exact hf) (by rw [World.cell?_alloc_lt _ _ ⟨tb, 1, none⟩ (by simp; omega), World.cell?_alloc_lt _ _ ⟨tb, 1, none⟩ htl]; exact ht1)
    (by rw [World.frozen?_alloc_old _ _ ⟨tb, 1, none⟩ (by simp; omega), World.frozen?_alloc_old _ _ ⟨tb, 1, none⟩ (Nat.ne_of_lt htl)]; exact hf1) (by simp; omega)
  have K := Lib.hid k; clear k
  have HB := Lib.hid hB; clear hB
  have Ht := Lib.hid ht; clear ht
  have Hf := Lib.hid hf; clear hf
  have Ht1 := Lib.hid ht1; clear ht1
  have Hf1 := Lib.hid hf1; clear hf1
  have Hg := Lib.hid hg; clear hg
  have E0 := Lib.hid e0; clear e0
  obtain ⟨ty0, u0, hnn⟩ : ∃ t u, baseV c o = .iface t u := by cases o <;> exact ⟨_, _, rfl⟩
  rw [hnn] at K ⊢
  clear hnn
  have f1 := valueOf_fault
  have f2 := type_fault
  have f3 := rt_kind
  have f4 := kindP_fault
  have f5 := kindE_fault
  have f6 := rt_elem
  have f7 := elemT_fault
  have f8 := rt_impl
  have f9 := impl_fault
  go_enter Tryd.func34, Tryd.ntmps34
  go_wp2_with fail
  refine K.out.mono ?_
  intro e w' he
  cases o with
  | none =>
    obtain ⟨rfl, hb⟩ := he
    have Hb := Lib.hid hb; clear hb
    go_wp2_with fail
    go_ret
    exact ⟨rfl, HB.out.trans Hb.out⟩
  | some o =>
    obtain ⟨rfl, hb, hc0, hc1⟩ := he
    have Hb := Lib.hid hb; clear hb
    have Hc0 := Lib.hid hc0; clear hc0
    have Hc1 := Lib.hid hc1; clear hc1
    go_wp2_with fail
    go_ret
    exact ⟨rfl, HB.out.trans Hb.out, Hc0.out, Hc1.out⟩

/-- An error as a value: nil, a code, or a fault with a code and an offset. -/
def errV : Option (Int × Option Int) → Value
  | none => .nilIface
  | some (c, o) => baseV c o

def codeE : Option (Int × Option Int) → Int
  | none => 0
  | some (c, _) => c
def atE : Option (Int × Option Int) → Option Int
  | none => none
  | some (_, o) => o

def IntEnd (r : Int) (w : World) (e : Ending) (w' : World) : Prop := e = .returned (.int .i64 r) ∧ Below w.heap.size w w'

theorem first_code_nil (w : World) : Calls Tryd.prog 27 #[.nilIface] w fun e w' => e = .returned (.tuple #[.int .i64 0, .bool false]) ∧ Below w.heap.size w w' := by
  go_enter_defers Tryd.func27, Tryd.ntmps27
  go_wp2_with fail
  refine (As_nil _ _).mono ?_
  rintro e w' ⟨rfl, rfl⟩
  go_wp2_with fail
  refine leaves_cons (f := 33) (args := #[]) (by simp) (by simp [go_sem]) ?_
  refine (idle_code _).mono ?_
  rintro e u' w'' ⟨rfl, rfl, rfl⟩
  exact ⟨.tuple #[.int .i64 0, .bool false], by simp [results, Tryd.results27, go_sem], rfl, (Below.refl _ _).alloc (Nat.le_refl _) _⟩

set_option maxRecDepth 100000 in
theorem first_code (c : Int) (o : Option Int) (w : World) (hg : ErrT w) :
    Calls Tryd.prog 27 #[baseV c o] w fun e w' => e = .returned (.tuple #[.int .i64 c, .bool true]) ∧ Below w.heap.size w w' := by
  have hB : Below w.heap.size w (w.alloc (.cells #[.int .i64 0] 30)) := (Below.refl _ _).alloc (Nat.le_refl _) _
  have k := As_code c o w.heap.size (.int .i64 0) (w.alloc (.cells #[.int .i64 0] 30)) (hg.here hB) (by simp) (by simp) hg.lt
  have K := Lib.hid k; clear k
  have HB := Lib.hid hB; clear hB
  have Hg := Lib.hid hg; clear hg
  obtain ⟨ty0, u0, hnn⟩ : ∃ t u, baseV c o = .iface t u := by cases o <;> exact ⟨_, _, rfl⟩
  rw [hnn] at K ⊢
  clear hnn
  go_enter_defers Tryd.func27, Tryd.ntmps27
  go_wp2_with fail
  refine K.out.mono ?_
  rintro e w' ⟨rfl, hb, hc⟩
  have Hb := Lib.hid hb; clear hb
  go_wp2_with fail
  refine leaves_cons (f := 33) (args := #[]) (by simp) (by simp [go_sem]) ?_
  refine (idle_code _).mono ?_
  rintro e u' w'' ⟨rfl, rfl, rfl⟩
  exact ⟨.tuple #[.int .i64 c, .bool true], by simp [results, Tryd.results27, go_sem], rfl, HB.out.trans Hb.out⟩

/-- The first fault of the chain, as first returns it. -/
def FirstFault (b : Option (Int × Option Int)) (w : World) (e : Ending) (w' : World) : Prop :=
  Below w.heap.size w w' ∧ match b with
    | some (c, some x) => e = .returned (.tuple #[.agg #[.int .i64 c, .int .i64 x], .bool true])
    | _ => e = .returned (.tuple #[.agg #[.int .i64 0, .int .i64 0], .bool false])

theorem first_fault_nil (w : World) : Calls Tryd.prog 28 #[.nilIface] w (FirstFault none w) := by
  go_enter_defers Tryd.func28, Tryd.ntmps28
  go_wp2_with fail
  refine (As_nil _ _).mono ?_
  rintro e w' ⟨rfl, rfl⟩
  go_wp2_with fail
  refine leaves_cons (f := 35) (args := #[]) (by simp) (by simp [go_sem]) ?_
  refine (idle_fault _).mono ?_
  rintro e u' w'' ⟨rfl, rfl, rfl⟩
  refine ⟨.tuple #[.agg #[.int .i64 0, .int .i64 0], .bool false], by simp [results, Tryd.results28, go_sem], ?_, rfl⟩
  exact ((Below.refl _ _).alloc (Nat.le_refl _) _).alloc (by simp) _

set_option maxRecDepth 100000 in
theorem first_fault (c : Int) (o : Option Int) (w : World) (hg : ErrT w) :
    Calls Tryd.prog 28 #[baseV c o] w (FirstFault (some (c, o)) w) := by
  have hB1 : Below w.heap.size w (w.alloc (.cells #[.int .i64 0, .int .i64 0] 50)) := (Below.refl _ _).alloc (Nat.le_refl _) _
  have hB : Below w.heap.size w ((w.alloc (.cells #[.int .i64 0, .int .i64 0] 50)).alloc (.cells #[.int .i64 0, .int .i64 0] 50)) := hB1.alloc (by simp) _
  have k := As_fault c o (w.heap.size + 1) (.int .i64 0) (.int .i64 0) ((w.alloc (.cells #[.int .i64 0, .int .i64 0] 50)).alloc (.cells #[.int .i64 0, .int .i64 0] 50)) (hg.here hB) (by simp) (by simp) (by simp) (by simp) (by have := hg.lt; omega)
  have K := Lib.hid k; clear k
  have HB := Lib.hid hB; clear hB
  have HB1 := Lib.hid hB1; clear hB1
  obtain ⟨ty0, u0, hnn⟩ : ∃ t u, baseV c o = .iface t u := by cases o <;> exact ⟨_, _, rfl⟩
  rw [hnn] at K ⊢
  clear hnn
  have Hg := Lib.hid hg; clear hg
  go_enter_defers Tryd.func28, Tryd.ntmps28
  go_wp2_with fail
  refine K.out.mono ?_
  intro e w' he
  have old : ∀ (w' : World), Below (w.heap.size + 1) ((w.alloc (.cells #[.int .i64 0, .int .i64 0] 50)).alloc (.cells #[.int .i64 0, .int .i64 0] 50)) w' →
      w'.cell? ⟨w.heap.size, 0, none⟩ = some (.int .i64 0) ∧ w'.cell? ⟨w.heap.size, 1, none⟩ = some (.int .i64 0) ∧ w'.frozen? ⟨w.heap.size, 0, none⟩ = false ∧ w'.frozen? ⟨w.heap.size, 1, none⟩ = false := by
    intro w' hb
    refine ⟨?_, ?_, ?_, ?_⟩
    · rw [hb.cell (p := ⟨w.heap.size, 0, none⟩) (by simp)]; simp
    · rw [hb.cell (p := ⟨w.heap.size, 1, none⟩) (by simp)]; simp
    · rw [hb.frozen (p := ⟨w.heap.size, 0, none⟩) (by simp)]; simp
    · rw [hb.frozen (p := ⟨w.heap.size, 1, none⟩) (by simp)]; simp
  rcases o with _ | o
  · obtain ⟨rfl, hb⟩ := he
    obtain ⟨o0, o1, o2, o3⟩ := old _ hb
    clear old
    have Hb := Lib.hid hb; clear hb
    go_wp2_with fail
    refine leaves_cons (f := 35) (args := #[]) (by simp) (by simp [go_sem]) ?_
    refine (idle_fault _).mono ?_
    rintro e u' w'' ⟨rfl, rfl, rfl⟩
    have hcs := cells_two w' w.heap.size (.int .i64 0) (.int .i64 0) _ _ o0 o1
    exact ⟨.tuple #[.agg #[.int .i64 0, .int .i64 0], .bool false], by simp [results, Tryd.results28, go_sem, hcs.1, hcs.2],
      ((HB.out.trans (Hb.out.mono (Nat.le_succ _))).setCell (p := ⟨w.heap.size, 0, none⟩) (Nat.le_refl _) _).setCell (p := ⟨w.heap.size, 1, none⟩) (Nat.le_refl _) _, rfl⟩
  · obtain ⟨rfl, hb, hc0, hc1⟩ := he
    obtain ⟨o0, o1, o2, o3⟩ := old _ hb
    clear old
    have Hb := Lib.hid hb; clear hb
    go_wp2_with fail
    refine leaves_cons (f := 35) (args := #[]) (by simp) (by simp [go_sem]) ?_
    refine (idle_fault _).mono ?_
    rintro e u' w'' ⟨rfl, rfl, rfl⟩
    have hcs := cells_two w' w.heap.size (.int .i64 c) (.int .i64 o) _ _ o0 o1
    exact ⟨.tuple #[.agg #[.int .i64 c, .int .i64 o], .bool true], by simp [results, Tryd.results28, go_sem, hcs.1, hcs.2],
      ((HB.out.trans (Hb.out.mono (Nat.le_succ _))).setCell (p := ⟨w.heap.size, 0, none⟩) (Nat.le_refl _) _).setCell (p := ⟨w.heap.size, 1, none⟩) (Nat.le_refl _) _, rfl⟩

set_option maxRecDepth 100000 in
theorem Code_any (e : Option (Int × Option Int)) (w : World) (hg : ErrT w) :
    Calls Tryd.prog 12 #[errV e] w (IntEnd (codeE e) w) := by
  cases e with
  | none =>
    unfold errV
    go_enter Tryd.func12, Tryd.ntmps12
    go_wp2_with fail
    go_ret
    exact ⟨rfl, Below.refl _ _⟩
  | some b =>
    obtain ⟨c, o⟩ := b
    have k := first_code c o w hg
    have K := Lib.hid k; clear k
    have Hg := Lib.hid hg; clear hg
    show Calls Tryd.prog 12 #[baseV c o] w _
    obtain ⟨ty0, u0, hnn⟩ : ∃ t u, baseV c o = .iface t u := by cases o <;> exact ⟨_, _, rfl⟩
    rw [hnn] at K ⊢
    clear hnn
    go_enter Tryd.func12, Tryd.ntmps12
    go_wp2_with fail
    refine K.out.mono ?_
    rintro e w' ⟨rfl, hb⟩
    have Hb := Lib.hid hb; clear hb
    go_wp2_with fail
    go_ret
    exact ⟨rfl, Hb.out⟩

theorem fault_any (e : Option (Int × Option Int)) (w : World) (hg : ErrT w) :
    Calls Tryd.prog 28 #[errV e] w (fun en w' => Below w.heap.size w w' ∧ en = .returned (match atE e with
      | some a => .tuple #[.agg #[.int .i64 (codeE e), .int .i64 a], .bool true]
      | none => .tuple #[.agg #[.int .i64 0, .int .i64 0], .bool false])) := by
  rcases e with _ | ⟨c, _ | o⟩
  · exact (first_fault_nil w).mono fun en w' he => he
  · exact (first_fault c none w hg).mono fun en w' he => he
  · exact (first_fault c (some o) w hg).mono fun en w' he => he

set_option maxRecDepth 100000 in
theorem At_any (e : Option (Int × Option Int)) (w : World) (hg : ErrT w) :
    Calls Tryd.prog 13 #[errV e] w (IntEnd ((atE e).getD (-1)) w) := by
  have k := fault_any e w hg
  have K := Lib.hid k; clear k
  have Hg := Lib.hid hg; clear hg
  go_enter Tryd.func13, Tryd.ntmps13
  go_wp2_with fail
  refine K.out.mono ?_
  intro en w' ⟨hb, he⟩
  have Hb := Lib.hid hb; clear hb
  cases ha : atE e with
  | none =>
    rw [ha] at he
    subst he
    have Ha := Lib.hid ha; clear ha
    go_wp2_with fail
    go_ret
    exact ⟨by simp [Ha.out], Hb.out.trans (((Below.refl _ _).alloc (Nat.le_refl _) _).mono Hb.out.size)⟩
  | some a =>
    rw [ha] at he
    subst he
    have Ha := Lib.hid ha; clear ha
    go_wp2_with fail
    go_ret
    exact ⟨by simp [Ha.out], Hb.out.trans (((Below.refl _ _).alloc (Nat.le_refl _) _).mono Hb.out.size)⟩
end Go.Proofs.YtciinnkcjiibfaaDoor
