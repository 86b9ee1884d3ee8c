/- errors.As at targets of type *api.Errno and *api.Fault, for errors that are a code or a fault. No conditions. -/
import Derived.Test.YtciinnkcjiibfaaDoorEFacts
namespace Go.Proofs.YtciinnkcjiibfaaDoor
open Go.RowKit Go.Extern.Stop Go.Stop Go.Extern

def AsCode (c : Int) (tb : Nat) (w : World) (e : Ending) (w' : World) : Prop :=
  e = .returned (.bool true) ∧ Below tb w w' ∧ w'.cell? ⟨tb, 0, none⟩ = some (.int .i64 c)

/-- What the loop of errors.as reads besides the error: the boxed Value, the pointer behind it, the target. -/
def Held (P : TypeId) (k a tb : Nat) (old : Value) (wr : World) : Prop :=
  wr.cell? ⟨k, 0, none⟩ = some (.pointer (some ⟨1, P, none⟩)) ∧ wr.cell? ⟨k, 1, none⟩ = some (.pointer (some ⟨a, 0, none⟩)) ∧ wr.cell? ⟨k, 2, none⟩ = some (.int .u64 150) ∧
  wr.cell? ⟨a, 0, none⟩ = some (.pointer (some ⟨tb, 0, none⟩)) ∧ wr.cell? ⟨tb, 0, none⟩ = some old ∧ wr.frozen? ⟨tb, 0, none⟩ = false ∧ k < wr.heap.size ∧ a < wr.heap.size ∧ tb < wr.heap.size

theorem Held.alloc {P : TypeId} {k a tb : Nat} {old : Value} {wr : World} (h : Held P k a tb old wr) (o : Obj) : Held P k a tb old (wr.alloc o) := by
  obtain ⟨h1, h2, h3, h4, h5, h6, h7, h8, h9⟩ := h
  refine ⟨?_, ?_, ?_, ?_, ?_, ?_, ?_, ?_, ?_⟩
  · rw [World.cell?_alloc_lt _ _ ⟨k, 0, none⟩ h7]; exact h1
  · rw [World.cell?_alloc_lt _ _ ⟨k, 1, none⟩ h7]; exact h2
  · rw [World.cell?_alloc_lt _ _ ⟨k, 2, none⟩ h7]; exact h3
  · rw [World.cell?_alloc_lt _ _ ⟨a, 0, none⟩ h8]; exact h4
  · rw [World.cell?_alloc_lt _ _ ⟨tb, 0, none⟩ h9]; exact h5
  · rw [World.frozen?_alloc_old _ _ ⟨tb, 0, none⟩ (Nat.ne_of_lt h9)]; exact h6
  · simp; omega
  · simp; omega
  · simp; omega

/-- What the loop of errors.as stands at: the fault, then its code. -/
def AtErr (c : Int) (o : Option Int) (k : Nat) (p : Value) : Prop := ∃ o', p = baseV c o' ∧ (o' = o ∨ o' = none) ∧ (match o' with | some _ => 2 | none => 1) ≤ k

set_option maxRecDepth 100000 in
set_option maxHeartbeats 4000000 in
theorem as_code (c : Int) (o : Option Int) (a tb : Nat) (old : Value) (w : World)
    (ha : w.cell? ⟨a, 0, none⟩ = some (.pointer (some ⟨tb, 0, none⟩))) (hal : a < w.heap.size) (ht : w.cell? ⟨tb, 0, none⟩ = some old) (hf : w.frozen? ⟨tb, 0, none⟩ = false) (htl : tb < w.heap.size) :
    Calls Tryd.prog 45 #[baseV c o, .iface 61 (.pointer (some ⟨tb, 0, none⟩)), .agg #[.pointer (some ⟨1, 61, none⟩), .pointer (some ⟨a, 0, none⟩), .int .u64 150], .iface 81 (.agg #[.pointer (some ⟨1, 30, none⟩)])] w (AsCode c tb w) := by
  have hH : Held 61 w.heap.size a tb old (w.alloc (.cells #[.pointer (some ⟨1, 61, none⟩), .pointer (some ⟨a, 0, none⟩), .int .u64 150] 71)) := by
    refine ⟨by simp, by simp, by simp, ?_, ?_, ?_, by simp, by simp; omega, by simp; omega⟩
    · rw [World.cell?_alloc_lt _ _ ⟨a, 0, none⟩ hal]; exact ha
    · rw [World.cell?_alloc_lt _ _ ⟨tb, 0, none⟩ htl]; exact ht
    · rw [World.frozen?_alloc_old _ _ ⟨tb, 0, none⟩ (Nat.ne_of_lt htl)]; exact hf
  have hB : Below tb w (w.alloc (.cells #[.pointer (some ⟨1, 61, none⟩), .pointer (some ⟨a, 0, none⟩), .int .u64 150] 71)) := (Below.refl _ _).alloc (Nat.le_of_lt htl) _
  have Ha := Lib.hid ha; clear ha
  have Ht := Lib.hid ht; clear ht
  have Hf := Lib.hid hf; clear hf
  have HH := Lib.hid hH; clear hH
  have HB := Lib.hid hB; clear hB
  have y2 := ty_fault
  have y4 := typeOf_code
  have z0 := rt_assign
  have z2 := asg_fault_code
  have z4 := asg_code_code
  have m2 := un_fault
  have i2 := noAs_fault
  have g2 := hasUn_fault
  have v1 := valueOfV_code
  obtain ⟨ty0, u0, hnn⟩ : ∃ t u, baseV c o = .iface t u := by cases o <;> exact ⟨_, _, rfl⟩
  have Hs : AtErr c o 2 (.iface ty0 u0) := ⟨o, hnn.symm, .inl rfl, by cases o <;> simp⟩
  have HS := Lib.hid Hs; clear Hs
  rw [hnn]
  clear hnn
  go_enter Tryd.func45, Tryd.ntmps45
  go_wp2_with fail
  go_loopg [0] 2 (fun k p wr => AtErr c o k p ∧ Below tb w wr ∧ Held 61 w.heap.size a tb old wr)
  case atStart => exact ⟨HS.out, HB.out, HH.out⟩
  case round =>
    obtain ⟨⟨o', hv, ho, hk⟩, hb, hh⟩ := hrel
    have Hk := Lib.hid hk; clear hk
    have Ho := Lib.hid ho; clear ho
    have Hb := Lib.hid hb; clear hb
    have Hh := Lib.hid hh
    obtain ⟨c0, c1, c2, ca, ct, cf, l1, l2, l3⟩ := hh
    cases o' with
    | none =>
      obtain rfl : _ = Value.iface 30 (.int .i64 c) := hv
      have e1 := elemV_code ⟨a, 0, none⟩ ⟨tb, 0, none⟩ wr ca
      have e2 := set_code ⟨tb, 0, none⟩ ⟨wr.heap.size, 0, none⟩ c old (wr.alloc (.cells #[.int .i64 c] 30)) (by simp)
        (by rw [World.cell?_alloc_lt _ _ ⟨tb, 0, none⟩ l3]; exact ct) (by rw [World.frozen?_alloc_old _ _ ⟨tb, 0, none⟩ (Nat.ne_of_lt l3)]; exact cf)
      go_wp2_with fail
      go_ret
      have hsz : (wr.setCell ⟨tb, 0, none⟩ (.int .i64 c)).heap.size = wr.heap.size := by simp [World.setCell]
      refine ⟨rfl, (Hb.out.setCell (p := ⟨tb, 0, none⟩) (Nat.le_refl _) _).alloc (by rw [hsz]; omega) _, ?_⟩
      rw [World.cell?_alloc_lt _ _ ⟨tb, 0, none⟩ (by rw [hsz]; exact l3)]
      exact World.cell?_setCell_same' _ _ _ (by rw [ct]; rfl)
    | some a0 =>
      obtain rfl : _ = Value.iface 50 (.agg #[.int .i64 c, .int .i64 a0]) := hv
      go_wp2_with fail
      refine (unwrap_fault c a0 _).mono ?_
      rintro e w' ⟨rfl, rfl⟩
      unfold baseV
      go_wp2_with fail
      have Hk' : 2 ≤ gk := Hk.out
      go_roundg 1
      case measure => omega
      case rel => exact ⟨⟨none, rfl, .inr rfl, by simp⟩, Hb.out.alloc (Nat.le_of_lt l3) _, Hh.out.alloc _⟩

def AsFault (c : Int) (o : Option Int) (tb : Nat) (w : World) (e : Ending) (w' : World) : Prop :=
  match o with
  | some x => e = .returned (.bool true) ∧ Below tb w w' ∧ w'.cell? ⟨tb, 0, none⟩ = some (.int .i64 c) ∧ w'.cell? ⟨tb, 1, none⟩ = some (.int .i64 x)
  | none => e = .returned (.bool false) ∧ Below tb w w'

theorem cells_two (w : World) (tb : Nat) (u v o1 o2 : Value) (h0 : w.cell? ⟨tb, 0, none⟩ = some o1) (h1 : w.cell? ⟨tb, 1, none⟩ = some o2) :
    ((w.setCell ⟨tb, 0, none⟩ u).setCell ⟨tb, 1, none⟩ v).cell? ⟨tb, 0, none⟩ = some u ∧ ((w.setCell ⟨tb, 0, none⟩ u).setCell ⟨tb, 1, none⟩ v).cell? ⟨tb, 1, none⟩ = some v := by
  constructor
  · rw [World.cell?_setCell_other _ _ _ _ (by simp)]
    exact World.cell?_setCell_same' _ _ _ (by rw [h0]; rfl)
  · exact World.cell?_setCell_same' _ _ _ (by rw [World.cell?_setCell_other _ _ _ _ (by simp), h1]; rfl)

set_option maxRecDepth 100000 in
set_option maxHeartbeats 4000000 in
theorem as_fault (c : Int) (o : Option Int) (a tb : Nat) (o1 o2 : Value) (w : World)
    (ha : w.cell? ⟨a, 0, none⟩ = some (.pointer (some ⟨tb, 0, none⟩))) (hal : a < w.heap.size) (ht : w.cell? ⟨tb, 0, none⟩ = some o1) (hf : w.frozen? ⟨tb, 0, none⟩ = false)
    (ht1 : w.cell? ⟨tb, 1, none⟩ = some o2) (hf1 : w.frozen? ⟨tb, 1, none⟩ = false) (htl : tb < w.heap.size) :
    Calls Tryd.prog 45 #[baseV c o, .iface 62 (.pointer (some ⟨tb, 0, none⟩)), .agg #[.pointer (some ⟨1, 62, none⟩), .pointer (some ⟨a, 0, none⟩), .int .u64 150], .iface 81 (.agg #[.pointer (some ⟨1, 50, none⟩)])] w (AsFault c o tb w) := by
  have hH : Held 62 w.heap.size a tb o1 (w.alloc (.cells #[.pointer (some ⟨1, 62, none⟩), .pointer (some ⟨a, 0, none⟩), .int .u64 150] 71)) := by
    refine ⟨by simp, by simp, by simp, ?_, ?_, ?_, by simp, by simp; omega, by simp; omega⟩
    · rw [World.cell?_alloc_lt _ _ ⟨a, 0, none⟩ hal]; exact ha
    · rw [World.cell?_alloc_lt _ _ ⟨tb, 0, none⟩ htl]; exact ht
    · rw [World.frozen?_alloc_old _ _ ⟨tb, 0, none⟩ (Nat.ne_of_lt htl)]; exact hf
  have hT1 : (w.alloc (.cells #[.pointer (some ⟨1, 62, none⟩), .pointer (some ⟨a, 0, none⟩), .int .u64 150] 71)).cell? ⟨tb, 1, none⟩ = some o2 := by
    rw [World.cell?_alloc_lt _ _ ⟨tb, 1, none⟩ htl]; exact ht1
  have hF1 : (w.alloc (.cells #[.pointer (some ⟨1, 62, none⟩), .pointer (some ⟨a, 0, none⟩), .int .u64 150] 71)).frozen? ⟨tb, 1, none⟩ = false := by
    rw [World.frozen?_alloc_old _ _ ⟨tb, 1, none⟩ (Nat.ne_of_lt htl)]; exact hf1
  have hB : Below tb w (w.alloc (.cells #[.pointer (some ⟨1, 62, none⟩), .pointer (some ⟨a, 0, none⟩), .int .u64 150] 71)) := (Below.refl _ _).alloc (Nat.le_of_lt htl) _
  have Ha := Lib.hid ha; clear ha
  have Ht := Lib.hid ht; clear ht
  have Hf := Lib.hid hf; clear hf
  have Ht1 := Lib.hid ht1; clear ht1
  have Hf1 := Lib.hid hf1; clear hf1
  have HT1 := Lib.hid hT1; clear hT1
  have HF1 := Lib.hid hF1; clear hF1
  have HH := Lib.hid hH; clear hH
  have HB := Lib.hid hB; clear hB
  have y2 := ty_fault
  have y4 := typeOf_code
  have z0 := rt_assign
  have z2 := asg_fault_fault
  have z4 := asg_code_fault
  have i4 := noAs_code
  have g4 := noUn_code
  have g6 := noUns_code
  have v1 := valueOfV_fault
  cases o with
  | none =>
    unfold baseV
    go_enter Tryd.func45, Tryd.ntmps45
    go_wp2_with fail
    go_loopg [0] 1 (fun k p wr => k = 1 ∧ p = .iface 30 (.int .i64 c) ∧ Below tb w wr ∧ Held 62 w.heap.size a tb o1 wr)
    case atStart => exact ⟨rfl, rfl, HB.out, HH.out⟩
    case round =>
      obtain ⟨hk, rfl, hb, hh⟩ := hrel
      have Hk := Lib.hid hk; clear hk
      have Hb := Lib.hid hb; clear hb
      obtain ⟨c0, c1, c2, ca, ct, cf, l1, l2, l3⟩ := hh
      go_wp2_with fail
      go_ret
      exact ⟨rfl, Hb.out⟩
  | some a0 =>
    unfold baseV
    go_enter Tryd.func45, Tryd.ntmps45
    go_wp2_with fail
    go_loopg [0] 1 (fun k p wr => k = 1 ∧ p = .iface 50 (.agg #[.int .i64 c, .int .i64 a0]) ∧ Below tb w wr ∧ Held 62 w.heap.size a tb o1 wr ∧ wr.cell? ⟨tb, 1, none⟩ = some o2 ∧ wr.frozen? ⟨tb, 1, none⟩ = false)
    case atStart => exact ⟨rfl, rfl, HB.out, HH.out, HT1.out, HF1.out⟩
    case round =>
      obtain ⟨hk, rfl, hb, hh, ct1, cf1⟩ := hrel
      have Hk := Lib.hid hk; clear hk
      have Hb := Lib.hid hb; clear hb
      have Ct1 := Lib.hid ct1
      obtain ⟨c0, c1, c2, ca, ct, cf, l1, l2, l3⟩ := hh
      have e1 := elemV_fault ⟨a, 0, none⟩ ⟨tb, 0, none⟩ wr ca
      have e2 := set_fault tb wr.heap.size c a0 o1 o2 (wr.alloc (.cells #[.int .i64 c, .int .i64 a0] 50)) (by simp) (by simp)
        (by rw [World.cell?_alloc_lt _ _ ⟨tb, 0, none⟩ l3]; exact ct) (by rw [World.cell?_alloc_lt _ _ ⟨tb, 1, none⟩ l3]; exact ct1)
        (by rw [World.frozen?_alloc_old _ _ ⟨tb, 0, none⟩ (Nat.ne_of_lt l3)]; exact cf) (by rw [World.frozen?_alloc_old _ _ ⟨tb, 1, none⟩ (Nat.ne_of_lt l3)]; exact cf1)
      go_wp2_with fail
      go_ret
      have hsz : ((wr.setCell ⟨tb, 0, none⟩ (.int .i64 c)).setCell ⟨tb, 1, none⟩ (.int .i64 a0)).heap.size = wr.heap.size := by simp [World.setCell]
      have hcs := cells_two wr tb (.int .i64 c) (.int .i64 a0) o1 o2 ct Ct1.out
      refine ⟨rfl, (((Hb.out.setCell (p := ⟨tb, 0, none⟩) (Nat.le_refl _) _).setCell (p := ⟨tb, 1, none⟩) (Nat.le_refl _) _).alloc (by rw [hsz]; omega) _), ?_, ?_⟩
      · rw [World.cell?_alloc_lt _ _ ⟨tb, 0, none⟩ (by rw [hsz]; exact l3)]; exact hcs.1
      · rw [World.cell?_alloc_lt _ _ ⟨tb, 1, none⟩ (by rw [hsz]; exact l3)]; exact hcs.2
end Go.Proofs.YtciinnkcjiibfaaDoor
