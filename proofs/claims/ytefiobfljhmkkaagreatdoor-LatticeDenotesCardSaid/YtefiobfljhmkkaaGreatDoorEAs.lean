/- errors.As at targets of type *api.Errno and *api.Fault, for errors that are a code or a fault. No conditions. -/
import Derived.Test.YtefiobfljhmkkaaGreatDoorEFacts
namespace Go.Proofs.YtefiobfljhmkkaaGreatDoor
open Go.RowKit Go.Extern.Stop Go.Stop Go.Extern
def AsCode (c : Int) (tb : Nat) (w : World) (e : Ending) (w' : World) : Prop :=
  e = .returned (.bool true) ∧ Below tb w w' ∧ w'.cell? ⟨tb, 0, none⟩ = some (.int .i64 c)
/-- What the loop of errors.as reads besides the error: the boxed Value, the pointer behind it, the target. -/
def Held (P : TypeId) (k a tb : Nat) (old : Value) (wr : World) : Prop :=
  wr.cell? ⟨k, 0, none⟩ = some (.pointer (some ⟨1, P, none⟩)) ∧ wr.cell? ⟨k, 1, none⟩ = some (.pointer (some ⟨a, 0, none⟩)) ∧ wr.cell? ⟨k, 2, none⟩ = some (.int .u64 150) ∧
  wr.cell? ⟨a, 0, none⟩ = some (.pointer (some ⟨tb, 0, none⟩)) ∧ wr.cell? ⟨tb, 0, none⟩ = some old ∧ wr.frozen? ⟨tb, 0, none⟩ = false ∧ k < wr.heap.size ∧ a < wr.heap.size ∧ tb < wr.heap.size
theorem Held.alloc {P : TypeId} {k a tb : Nat} {old : Value} {wr : World} (h : Held P k a tb old wr) (o : Obj) : Held P k a tb old (wr.alloc o) := by
  obtain ⟨h1, h2, h3, h4, h5, h6, h7, h8, h9⟩ := h
  refine ⟨?_, ?_, ?_, ?_, ?_, ?_, ?_, ?_, ?_⟩
  · rw [World.cell?_alloc_lt _ _ ⟨k, 0, none⟩ h7]; exact h1
  · rw [World.cell?_alloc_lt _ _ ⟨k, 1, none⟩ h7]; exact h2
  · rw [World.cell?_alloc_lt _ _ ⟨k, 2, none⟩ h7]; exact h3
  · rw [World.cell?_alloc_lt _ _ ⟨a, 0, none⟩ h8]; exact h4
  · rw [World.cell?_alloc_lt _ _ ⟨tb, 0, none⟩ h9]; exact h5
  · rw [World.frozen?_alloc_old _ _ ⟨tb, 0, none⟩ (Nat.ne_of_lt h9)]; exact h6
  · simp; omega
  · simp; omega
  · simp; omega
/-- What the loop of errors.as stands at: the fault, then its code. -/
def AtErr (c : Int) (o : Option Int) (k : Nat) (p : Value) : Prop := ∃ o', p = baseV c o' ∧ (o' = o ∨ o' = none) ∧ (match o' with | some _ => 2 | none => 1) ≤ k
set_option maxRecDepth 100000 in
set_option maxHeartbeats 4000000 in
theorem as_code (c : Int) (o : Option Int) (a tb : Nat) (old : Value) (w : World)
    (ha : w.cell? ⟨a, 0, none⟩ = some (.pointer (some ⟨tb, 0, none⟩))) (hal : a < w.heap.size) (ht : w.cell? ⟨tb, 0, none⟩ = some old) (hf : w.frozen? ⟨tb, 0, none⟩ = false) (htl : tb < w.heap.size) :
    Calls Tryz.prog 100 #[baseV c o, .iface 128 (.pointer (some ⟨tb, 0, none⟩)), .agg #[.pointer (some ⟨1, 128, none⟩), .pointer (some ⟨a, 0, none⟩), .int .u64 150], .iface 166 (.agg #[.pointer (some ⟨1, 78, none⟩)])] w (AsCode c tb w) := by
  have hH : Held 128 w.heap.size a tb old (w.alloc (.cells #[.pointer (some ⟨1, 128, none⟩), .pointer (some ⟨a, 0, none⟩), .int .u64 150] 141)) := by
    refine ⟨by simp, by simp, by simp, ?_, ?_, ?_, by simp, by simp; omega, by simp; omega⟩
    · rw [World.cell?_alloc_lt _ _ ⟨a, 0, none⟩ hal]; exact ha
    · rw [World.cell?_alloc_lt _ _ ⟨tb, 0, none⟩ htl]; exact ht
    · rw [World.frozen?_alloc_old _ _ ⟨tb, 0, none⟩ (Nat.ne_of_lt htl)]; exact hf
  have hB : Below tb w (w.alloc (.cells #[.pointer (some ⟨1, 128, none⟩), .pointer (some ⟨a, 0, none⟩), .int .u64 150] 141)) := (Below.refl _ _).alloc (Nat.le_of_lt htl) _
  have Ha := Lib.hid ha; clear ha
  have Ht := Lib.hid ht; clear ht
  have Hf := Lib.hid hf; clear hf
  have HH := Lib.hid hH; clear hH
  have HB := Lib.hid hB; clear hB
  have y2 := ty_fault
  have y4 := typeOf_code
  have z0 := rt_assign
  have z2 := asg_fault_code
  have z4 := asg_code_code
  have m2 := un_fault
  have i2 := noAs_fault
  have g2 := hasUn_fault
  have v1 := valueOfV_code
  obtain ⟨ty0, u0, hnn⟩ : ∃ t u, baseV c o = .iface t u := by cases o <;> exact ⟨_, _, rfl⟩
  have Hs : AtErr c o 2 (.iface ty0 u0) := ⟨o, hnn.symm, .inl rfl, by cases o <;> simp⟩
  have HS := Lib.hid Hs; clear Hs
  rw [hnn]
  clear hnn
  go_enter Tryz.func100, Tryz.ntmps100
  go_wp2_with fail
  go_loopg [0] 2 (fun k p wr => AtErr c o k p ∧ Below tb w wr ∧ Held 128 w.heap.size a tb old wr)
  case atStart => exact ⟨HS.out, HB.out, HH.out⟩
  case round =>
    obtain ⟨⟨o', hv, ho, hk⟩, hb, hh⟩ := hrel
    have Hk := Lib.hid hk; clear hk
    have Ho := Lib.hid ho; clear ho
    have Hb := Lib.hid hb; clear hb
    have Hh := Lib.hid hh
    obtain ⟨c0, c1, c2, ca, ct, cf, l1, l2, l3⟩ := hh
    cases o' with
    | none =>
      obtain rfl : _ = Value.iface 78 (.int .i64 c) := hv
      have e1 := elemV_code ⟨a, 0, none⟩ ⟨tb, 0, none⟩ wr ca
      have e2 := set_code ⟨tb, 0, none⟩ ⟨wr.heap.size, 0, none⟩ c old (wr.alloc (.cells #[.int .i64 c] 78)) (by simp)
        (by rw [World.cell?_alloc_lt _ _ ⟨tb, 0, none⟩ l3]; exact ct) (by rw [World.frozen?_alloc_old _ _ ⟨tb, 0, none⟩ (Nat.ne_of_lt l3)]; exact cf)
      go_wp2_with fail
      go_ret
      have hsz : (wr.setCell ⟨tb, 0, none⟩ (.int .i64 c)).heap.size = wr.heap.size := by simp [World.setCell]
      refine ⟨rfl, (Hb.out.setCell (p := ⟨tb, 0, none⟩) (Nat.le_refl _) _).alloc (by rw [hsz]; omega) _, ?_⟩
      rw [World.cell?_alloc_lt _ _ ⟨tb, 0, none⟩ (by rw [hsz]; exact l3)]
      exact World.cell?_setCell_same' _ _ _ (by rw [ct]; rfl)
    | some a0 =>
      obtain rfl : _ = Value.iface 108 (.agg #[.int .i64 c, .int .i64 a0]) := hv
      go_wp2_with fail
      refine (unwrap_fault c a0 _).mono ?_
      rintro e w' ⟨rfl, rfl⟩
      unfold baseV
      go_wp2_with fail
      have Hk' : 2 ≤ gk := Hk.out
      go_roundg 1
      case measure => omega
      case rel => exact ⟨⟨none, rfl, .inr rfl, by simp⟩, Hb.out.alloc (Nat.le_of_lt l3) _, Hh.out.alloc _⟩
end Go.Proofs.YtefiobfljhmkkaaGreatDoor

/- errors.As, first, Code and At of package fault, for nil and for errors that are a code or a fault. Condition: the variable errors.errorType holds the type error. -/
namespace Go.Proofs.YtefiobfljhmkkaaGreatDoor
open Go.RowKit Go.Extern.Stop Go.Stop Go.Extern
/-- The package-level variable errors.errorType holds its type. -/
def ErrT (w : World) : Prop := w.cell? ⟨0, 0, none⟩ = some (.iface 166 (.agg #[.pointer (some ⟨1, 46, none⟩)]))
theorem ErrT.lt {w : World} (h : ErrT w) : 0 < w.heap.size := World.block_lt_of_cell? w _ h
theorem ErrT.below {w w' : World} {B : Nat} (h : ErrT w) (hb : Below B w w') (hB : 0 < B) : ErrT w' := by
  unfold ErrT at *; rw [hb.cell (p := ⟨0, 0, none⟩) hB]; exact h
theorem ErrT.here {w w' : World} (h : ErrT w) (hb : Below w.heap.size w w') : ErrT w' := h.below hb h.lt
set_option maxRecDepth 100000 in
set_option maxHeartbeats 4000000 in
theorem As_code (c : Int) (o : Option Int) (tb : Nat) (old : Value) (w : World) (hg : ErrT w)
    (ht : w.cell? ⟨tb, 0, none⟩ = some old) (hf : w.frozen? ⟨tb, 0, none⟩ = false) (hgt : 0 < tb) :
    Calls Tryz.prog 87 #[baseV c o, .iface 128 (.pointer (some ⟨tb, 0, none⟩))] w (AsCode c tb w) := by
  have htl : tb < w.heap.size := World.block_lt_of_cell? w _ ht
  have hB : Below tb w ((w.alloc (.cells #[.pointer (some ⟨tb, 0, none⟩)] 128)).alloc (.cells #[.pointer (some ⟨1, 128, none⟩), .pointer (some ⟨w.heap.size, 0, none⟩), .int .u64 150] 141)) :=
    ((Below.refl _ _).alloc (Nat.le_of_lt htl) _).alloc (by simp; omega) _
  have e0 : ((w.alloc (.cells #[.pointer (some ⟨tb, 0, none⟩)] 128)).alloc (.cells #[.pointer (some ⟨1, 128, none⟩), .pointer (some ⟨w.heap.size, 0, none⟩), .int .u64 150] 141)).cell? ⟨w.heap.size, 0, none⟩ = some (.pointer (some ⟨tb, 0, none⟩)) := by
    rw [World.cell?_alloc_lt _ _ ⟨w.heap.size, 0, none⟩ (by simp)]; simp
  have hg2 : ((w.alloc (.cells #[.pointer (some ⟨tb, 0, none⟩)] 128)).alloc (.cells #[.pointer (some ⟨1, 128, none⟩), .pointer (some ⟨w.heap.size, 0, none⟩), .int .u64 150] 141)).cell? ⟨0, 0, none⟩ = some (.iface 166 (.agg #[.pointer (some ⟨1, 46, none⟩)])) :=
    hg.below hB hgt
  have n8 := isNil_code ⟨w.heap.size, 0, none⟩ ⟨tb, 0, none⟩ ((w.alloc (.cells #[.pointer (some ⟨tb, 0, none⟩)] 128)).alloc (.cells #[.pointer (some ⟨1, 128, none⟩), .pointer (some ⟨w.heap.size, 0, none⟩), .int .u64 150] 141)) e0
  have k := as_code c o w.heap.size tb old ((w.alloc (.cells #[.pointer (some ⟨tb, 0, none⟩)] 128)).alloc (.cells #[.pointer (some ⟨1, 128, none⟩), .pointer (some ⟨w.heap.size, 0, none⟩), .int .u64 150] 141))
    e0 (by simp; omega) (by rw [World.cell?_alloc_lt _ _ ⟨tb, 0, none⟩ (by simp; omega), World.cell?_alloc_lt _ _ ⟨tb, 0, none⟩ htl]; exact ht)
    (by rw [World.frozen?_alloc_old _ _ ⟨tb, 0, none⟩ (by simp; omega), World.frozen?_alloc_old _ _ ⟨tb, 0, none⟩ (Nat.ne_of_lt htl)]; exact hf) (by simp; omega)
  have K := Lib.hid k; clear k
  have HB := Lib.hid hB; clear hB
  have Ht := Lib.hid ht; clear ht
  have Hf := Lib.hid hf; clear hf
  have Hg := Lib.hid hg; clear hg
  have E0 := Lib.hid e0; clear e0
  obtain ⟨ty0, u0, hnn⟩ : ∃ t u, baseV c o = .iface t u := by cases o <;> exact ⟨_, _, rfl⟩
  rw [hnn] at K ⊢
  clear hnn
  have f1 := valueOf_code
  have f2 := type_code
  have f3 := rt_kind
  have f4 := kindP_code
  have f5 := kindE_code
  have f6 := rt_elem
  have f7 := elemT_code
  have f8 := rt_impl
  have f9 := impl_code
  go_enter Tryz.func87, Tryz.ntmps87
  go_wp2_with fail
  refine K.out.mono ?_
  intro e w' he
  obtain ⟨rfl, hb, hc⟩ := he
  have Hb := Lib.hid hb; clear hb
  have Hc := Lib.hid hc; clear hc
  go_wp2_with fail
  go_ret
  exact ⟨rfl, HB.out.trans Hb.out, Hc.out⟩
/-- An error as a value: nil, a code, or a fault with a code and an offset. -/
def errV : Option (Int × Option Int) → Value
  | none => .nilIface
  | some (c, o) => baseV c o
def codeE : Option (Int × Option Int) → Int
  | none => 0
  | some (c, _) => c
def atE : Option (Int × Option Int) → Option Int
  | none => none
  | some (_, o) => o
def IntEnd (r : Int) (w : World) (e : Ending) (w' : World) : Prop := e = .returned (.int .i64 r) ∧ Below w.heap.size w w'
set_option maxRecDepth 100000 in
theorem first_code (c : Int) (o : Option Int) (w : World) (hg : ErrT w) :
    Calls Tryz.prog 67 #[baseV c o] w fun e w' => e = .returned (.tuple #[.int .i64 c, .bool true]) ∧ Below w.heap.size w w' := by
  have hB : Below w.heap.size w (w.alloc (.cells #[.int .i64 0] 78)) := (Below.refl _ _).alloc (Nat.le_refl _) _
  have k := As_code c o w.heap.size (.int .i64 0) (w.alloc (.cells #[.int .i64 0] 78)) (hg.here hB) (by simp) (by simp) hg.lt
  have K := Lib.hid k; clear k
  have HB := Lib.hid hB; clear hB
  have Hg := Lib.hid hg; clear hg
  obtain ⟨ty0, u0, hnn⟩ : ∃ t u, baseV c o = .iface t u := by cases o <;> exact ⟨_, _, rfl⟩
  rw [hnn] at K ⊢
  clear hnn
  go_enter_defers Tryz.func67, Tryz.ntmps67
  go_wp2_with fail
  refine K.out.mono ?_
  rintro e w' ⟨rfl, hb, hc⟩
  have Hb := Lib.hid hb; clear hb
  go_wp2_with fail
  refine leaves_cons (f := 86) (args := #[]) (by simp) (by simp [go_sem]) ?_
  refine (idle_code _).mono ?_
  rintro e u' w'' ⟨rfl, rfl, rfl⟩
  exact ⟨.tuple #[.int .i64 c, .bool true], by simp [results, Tryz.results67, go_sem], rfl, HB.out.trans Hb.out⟩
set_option maxRecDepth 100000 in
theorem Code_any (e : Option (Int × Option Int)) (w : World) (hg : ErrT w) :
    Calls Tryz.prog 47 #[errV e] w (IntEnd (codeE e) w) := by
  cases e with
  | none =>
    unfold errV
    go_enter Tryz.func47, Tryz.ntmps47
    go_wp2_with fail
    go_ret
    exact ⟨rfl, Below.refl _ _⟩
  | some b =>
    obtain ⟨c, o⟩ := b
    have k := first_code c o w hg
    have K := Lib.hid k; clear k
    have Hg := Lib.hid hg; clear hg
    show Calls Tryz.prog 47 #[baseV c o] w _
    obtain ⟨ty0, u0, hnn⟩ : ∃ t u, baseV c o = .iface t u := by cases o <;> exact ⟨_, _, rfl⟩
    rw [hnn] at K ⊢
    clear hnn
    go_enter Tryz.func47, Tryz.ntmps47
    go_wp2_with fail
    refine K.out.mono ?_
    rintro e w' ⟨rfl, hb⟩
    have Hb := Lib.hid hb; clear hb
    go_wp2_with fail
    go_ret
    exact ⟨rfl, Hb.out⟩
end Go.Proofs.YtefiobfljhmkkaaGreatDoor
