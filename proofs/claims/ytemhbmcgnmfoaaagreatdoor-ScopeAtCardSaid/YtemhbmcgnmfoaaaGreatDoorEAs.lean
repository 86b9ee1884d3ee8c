/- errors.As at targets of type *api.Errno and *api.Fault, for errors that are a code or a fault. No conditions. -/
import Derived.Test.YtemhbmcgnmfoaaaGreatDoorEBase
namespace Go.Proofs.YtemhbmcgnmfoaaaGreatDoor
open Go.RowKit Go.Extern.Stop Go.Stop Go.Extern
def AsCode (c : Int) (tb : Nat) (w : World) (e : Ending) (w' : World) : Prop :=
  e = .returned (.bool true) ∧ Below tb w w' ∧ w'.cell? ⟨tb, 0, none⟩ = some (.int .i64 c)
/-- What the loop of errors.as reads besides the error: the boxed Value, the pointer behind it, the target. -/
def Held (P : TypeId) (k a tb : Nat) (old : Value) (wr : World) : Prop :=
  wr.cell? ⟨k, 0, none⟩ = some (.pointer (some ⟨3, P, none⟩)) ∧ wr.cell? ⟨k, 1, none⟩ = some (.pointer (some ⟨a, 0, none⟩)) ∧ wr.cell? ⟨k, 2, none⟩ = some (.int .u64 150) ∧
  wr.cell? ⟨a, 0, none⟩ = some (.pointer (some ⟨tb, 0, none⟩)) ∧ wr.cell? ⟨tb, 0, none⟩ = some old ∧ wr.frozen? ⟨tb, 0, none⟩ = false ∧ k < wr.heap.size ∧ a < wr.heap.size ∧ tb < wr.heap.size
theorem Held.alloc {P : TypeId} {k a tb : Nat} {old : Value} {wr : World} (h : Held P k a tb old wr) (o : Obj) : Held P k a tb old (wr.alloc o) := by
  obtain ⟨h1, h2, h3, h4, h5, h6, h7, h8, h9⟩ := h
  refine ⟨?_, ?_, ?_, ?_, ?_, ?_, ?_, ?_, ?_⟩
  · rw [World.cell?_alloc_lt _ _ ⟨k, 0, none⟩ h7]; exact h1
  · rw [World.cell?_alloc_lt _ _ ⟨k, 1, none⟩ h7]; exact h2
  · rw [World.cell?_alloc_lt _ _ ⟨k, 2, none⟩ h7]; exact h3
  · rw [World.cell?_alloc_lt _ _ ⟨a, 0, none⟩ h8]; exact h4
  · rw [World.cell?_alloc_lt _ _ ⟨tb, 0, none⟩ h9]; exact h5
  · rw [World.frozen?_alloc_old _ _ ⟨tb, 0, none⟩ (Nat.ne_of_lt h9)]; exact h6
  · simp; omega
  · simp; omega
  · simp; omega
/-- What the loop of errors.as stands at: the fault, then its code. -/
def AtErr (c : Int) (o : Option Int) (k : Nat) (p : Value) : Prop := ∃ o', p = baseV c o' ∧ (o' = o ∨ o' = none) ∧ (match o' with | some _ => 2 | none => 1) ≤ k
set_option maxRecDepth 100000 in
set_option maxHeartbeats 4000000 in
theorem as_code (c : Int) (o : Option Int) (a tb : Nat) (old : Value) (w : World)
    (ha : w.cell? ⟨a, 0, none⟩ = some (.pointer (some ⟨tb, 0, none⟩))) (hal : a < w.heap.size) (ht : w.cell? ⟨tb, 0, none⟩ = some old) (hf : w.frozen? ⟨tb, 0, none⟩ = false) (htl : tb < w.heap.size) :
    Calls Tryz.prog 99 #[baseV c o, .iface 100 (.pointer (some ⟨tb, 0, none⟩)), .agg #[.pointer (some ⟨3, 100, none⟩), .pointer (some ⟨a, 0, none⟩), .int .u64 150], .iface 173 (.agg #[.pointer (some ⟨3, 31, none⟩)])] w (AsCode c tb w) := by
  have hH : Held 100 w.heap.size a tb old (w.alloc (.cells #[.pointer (some ⟨3, 100, none⟩), .pointer (some ⟨a, 0, none⟩), .int .u64 150] 128)) := by
    refine ⟨by simp, by simp, by simp, ?_, ?_, ?_, by simp, by simp; omega, by simp; omega⟩
    · rw [World.cell?_alloc_lt _ _ ⟨a, 0, none⟩ hal]; exact ha
    · rw [World.cell?_alloc_lt _ _ ⟨tb, 0, none⟩ htl]; exact ht
    · rw [World.frozen?_alloc_old _ _ ⟨tb, 0, none⟩ (Nat.ne_of_lt htl)]; exact hf
  have hB : Below tb w (w.alloc (.cells #[.pointer (some ⟨3, 100, none⟩), .pointer (some ⟨a, 0, none⟩), .int .u64 150] 128)) := (Below.refl _ _).alloc (Nat.le_of_lt htl) _
  have Ha := Lib.hid ha; clear ha
  have Ht := Lib.hid ht; clear ht
  have Hf := Lib.hid hf; clear hf
  have HH := Lib.hid hH; clear hH
  have HB := Lib.hid hB; clear hB
  have y2 := ty_fault
  have y4 := typeOf_code
  have z0 := rt_assign
  have z2 := asg_fault_code
  have z4 := asg_code_code
  have m2 := un_fault
  have i2 := noAs_fault
  have g2 := hasUn_fault
  have v1 := valueOfV_code
  obtain ⟨ty0, u0, hnn⟩ : ∃ t u, baseV c o = .iface t u := by cases o <;> exact ⟨_, _, rfl⟩
  have Hs : AtErr c o 2 (.iface ty0 u0) := ⟨o, hnn.symm, .inl rfl, by cases o <;> simp⟩
  have HS := Lib.hid Hs; clear Hs
  rw [hnn]
  clear hnn
  go_enter Tryz.func99, Tryz.ntmps99
  go_wp2_with fail
  go_loopg [0] 2 (fun k p wr => AtErr c o k p ∧ Below tb w wr ∧ Held 100 w.heap.size a tb old wr)
  case atStart => exact ⟨HS.out, HB.out, HH.out⟩
  case round =>
    obtain ⟨⟨o', hv, ho, hk⟩, hb, hh⟩ := hrel
    have Hk := Lib.hid hk; clear hk
    have Ho := Lib.hid ho; clear ho
    have Hb := Lib.hid hb; clear hb
    have Hh := Lib.hid hh
    obtain ⟨c0, c1, c2, ca, ct, cf, l1, l2, l3⟩ := hh
    cases o' with
    | none =>
      obtain rfl : _ = Value.iface 31 (.int .i64 c) := hv
      have e1 := elemV_code ⟨a, 0, none⟩ ⟨tb, 0, none⟩ wr ca
      have e2 := set_code ⟨tb, 0, none⟩ ⟨wr.heap.size, 0, none⟩ c old (wr.alloc (.cells #[.int .i64 c] 31)) (by simp)
        (by rw [World.cell?_alloc_lt _ _ ⟨tb, 0, none⟩ l3]; exact ct) (by rw [World.frozen?_alloc_old _ _ ⟨tb, 0, none⟩ (Nat.ne_of_lt l3)]; exact cf)
      go_wp2_with fail
      go_ret
      have hsz : (wr.setCell ⟨tb, 0, none⟩ (.int .i64 c)).heap.size = wr.heap.size := by simp [World.setCell]
      refine ⟨rfl, (Hb.out.setCell (p := ⟨tb, 0, none⟩) (Nat.le_refl _) _).alloc (by rw [hsz]; omega) _, ?_⟩
      rw [World.cell?_alloc_lt _ _ ⟨tb, 0, none⟩ (by rw [hsz]; exact l3)]
      exact World.cell?_setCell_same' _ _ _ (by rw [ct]; rfl)
    | some a0 =>
      obtain rfl : _ = Value.iface 69 (.agg #[.int .i64 c, .int .i64 a0]) := hv
      go_wp2_with fail
      refine (unwrap_fault c a0 _).mono ?_
      rintro e w' ⟨rfl, rfl⟩
      unfold baseV
      go_wp2_with fail
      have Hk' : 2 ≤ gk := Hk.out
      go_roundg 1
      case measure => omega
      case rel => exact ⟨⟨none, rfl, .inr rfl, by simp⟩, Hb.out.alloc (Nat.le_of_lt l3) _, Hh.out.alloc _⟩
def AsFault (c : Int) (o : Option Int) (tb : Nat) (w : World) (e : Ending) (w' : World) : Prop :=
  match o with
  | some x => e = .returned (.bool true) ∧ Below tb w w' ∧ w'.cell? ⟨tb, 0, none⟩ = some (.int .i64 c) ∧ w'.cell? ⟨tb, 1, none⟩ = some (.int .i64 x)
  | none => e = .returned (.bool false) ∧ Below tb w w'
theorem cells_two (w : World) (tb : Nat) (u v o1 o2 : Value) (h0 : w.cell? ⟨tb, 0, none⟩ = some o1) (h1 : w.cell? ⟨tb, 1, none⟩ = some o2) :
    ((w.setCell ⟨tb, 0, none⟩ u).setCell ⟨tb, 1, none⟩ v).cell? ⟨tb, 0, none⟩ = some u ∧ ((w.setCell ⟨tb, 0, none⟩ u).setCell ⟨tb, 1, none⟩ v).cell? ⟨tb, 1, none⟩ = some v := by
  constructor
  · rw [World.cell?_setCell_other _ _ _ _ (by simp)]
    exact World.cell?_setCell_same' _ _ _ (by rw [h0]; rfl)
  · exact World.cell?_setCell_same' _ _ _ (by rw [World.cell?_setCell_other _ _ _ _ (by simp), h1]; rfl)
set_option maxRecDepth 100000 in
set_option maxHeartbeats 4000000 in
theorem as_fault (c : Int) (o : Option Int) (a tb : Nat) (o1 o2 : Value) (w : World)
    (ha : w.cell? ⟨a, 0, none⟩ = some (.pointer (some ⟨tb, 0, none⟩))) (hal : a < w.heap.size) (ht : w.cell? ⟨tb, 0, none⟩ = some o1) (hf : w.frozen? ⟨tb, 0, none⟩ = false)
    (ht1 : w.cell? ⟨tb, 1, none⟩ = some o2) (hf1 : w.frozen? ⟨tb, 1, none⟩ = false) (htl : tb < w.heap.size) :
    Calls Tryz.prog 99 #[baseV c o, .iface 101 (.pointer (some ⟨tb, 0, none⟩)), .agg #[.pointer (some ⟨3, 101, none⟩), .pointer (some ⟨a, 0, none⟩), .int .u64 150], .iface 173 (.agg #[.pointer (some ⟨3, 69, none⟩)])] w (AsFault c o tb w) := by
  have hH : Held 101 w.heap.size a tb o1 (w.alloc (.cells #[.pointer (some ⟨3, 101, none⟩), .pointer (some ⟨a, 0, none⟩), .int .u64 150] 128)) := by
    refine ⟨by simp, by simp, by simp, ?_, ?_, ?_, by simp, by simp; omega, by simp; omega⟩
    · rw [World.cell?_alloc_lt _ _ ⟨a, 0, none⟩ hal]; exact ha
    · rw [World.cell?_alloc_lt _ _ ⟨tb, 0, none⟩ htl]; exact ht
    · rw [World.frozen?_alloc_old _ _ ⟨tb, 0, none⟩ (Nat.ne_of_lt htl)]; exact hf
  have hT1 : (w.alloc (.cells #[.pointer (some ⟨3, 101, none⟩), .pointer (some ⟨a, 0, none⟩), .int .u64 150] 128)).cell? ⟨tb, 1, none⟩ = some o2 := by
    rw [World.cell?_alloc_lt _ _ ⟨tb, 1, none⟩ htl]; exact ht1
  have hF1 : (w.alloc (.cells #[.pointer (some ⟨3, 101, none⟩), .pointer (some ⟨a, 0, none⟩), .int .u64 150] 128)).frozen? ⟨tb, 1, none⟩ = false := by
    rw [World.frozen?_alloc_old _ _ ⟨tb, 1, none⟩ (Nat.ne_of_lt htl)]; exact hf1
  have hB : Below tb w (w.alloc (.cells #[.pointer (some ⟨3, 101, none⟩), .pointer (some ⟨a, 0, none⟩), .int .u64 150] 128)) := (Below.refl _ _).alloc (Nat.le_of_lt htl) _
  have Ha := Lib.hid ha; clear ha
  have Ht := Lib.hid ht; clear ht
  have Hf := Lib.hid hf; clear hf
  have Ht1 := Lib.hid ht1; clear ht1
  have Hf1 := Lib.hid hf1; clear hf1
  have HT1 := Lib.hid hT1; clear hT1
  have HF1 := Lib.hid hF1; clear hF1
  have HH := Lib.hid hH; clear hH
  have HB := Lib.hid hB; clear hB
  have y2 := ty_fault
  have y4 := typeOf_code
  have z0 := rt_assign
  have z2 := asg_fault_fault
  have z4 := asg_code_fault
  have i4 := noAs_code
  have g4 := noUn_code
  have g6 := noUns_code
  have v1 := valueOfV_fault
  cases o with
  | none =>
    unfold baseV
    go_enter Tryz.func99, Tryz.ntmps99
    go_wp2_with fail
    go_loopg [0] 1 (fun k p wr => k = 1 ∧ p = .iface 31 (.int .i64 c) ∧ Below tb w wr ∧ Held 101 w.heap.size a tb o1 wr)
    case atStart => exact ⟨rfl, rfl, HB.out, HH.out⟩
    case round =>
      obtain ⟨hk, rfl, hb, hh⟩ := hrel
      have Hk := Lib.hid hk; clear hk
      have Hb := Lib.hid hb; clear hb
      obtain ⟨c0, c1, c2, ca, ct, cf, l1, l2, l3⟩ := hh
      go_wp2_with fail
      go_ret
      exact ⟨rfl, Hb.out⟩
  | some a0 =>
    unfold baseV
    go_enter Tryz.func99, Tryz.ntmps99
    go_wp2_with fail
    go_loopg [0] 1 (fun k p wr => k = 1 ∧ p = .iface 69 (.agg #[.int .i64 c, .int .i64 a0]) ∧ Below tb w wr ∧ Held 101 w.heap.size a tb o1 wr ∧ wr.cell? ⟨tb, 1, none⟩ = some o2 ∧ wr.frozen? ⟨tb, 1, none⟩ = false)
    case atStart => exact ⟨rfl, rfl, HB.out, HH.out, HT1.out, HF1.out⟩
    case round =>
      obtain ⟨hk, rfl, hb, hh, ct1, cf1⟩ := hrel
      have Hk := Lib.hid hk; clear hk
      have Hb := Lib.hid hb; clear hb
      have Ct1 := Lib.hid ct1
      obtain ⟨c0, c1, c2, ca, ct, cf, l1, l2, l3⟩ := hh
      have e1 := elemV_fault ⟨a, 0, none⟩ ⟨tb, 0, none⟩ wr ca
      have e2 := set_fault tb wr.heap.size c a0 o1 o2 (wr.alloc (.cells #[.int .i64 c, .int .i64 a0] 69)) (by simp) (by simp)
        (by rw [World.cell?_alloc_lt _ _ ⟨tb, 0, none⟩ l3]; exact ct) (by rw [World.cell?_alloc_lt _ _ ⟨tb, 1, none⟩ l3]; exact ct1)
        (by rw [World.frozen?_alloc_old _ _ ⟨tb, 0, none⟩ (Nat.ne_of_lt l3)]; exact cf) (by rw [World.frozen?_alloc_old _ _ ⟨tb, 1, none⟩ (Nat.ne_of_lt l3)]; exact cf1)
      go_wp2_with fail
      go_ret
      have hsz : ((wr.setCell ⟨tb, 0, none⟩ (.int .i64 c)).setCell ⟨tb, 1, none⟩ (.int .i64 a0)).heap.size = wr.heap.size := by simp [World.setCell]
      have hcs := cells_two wr tb (.int .i64 c) (.int .i64 a0) o1 o2 ct Ct1.out
      refine ⟨rfl, (((Hb.out.setCell (p := ⟨tb, 0, none⟩) (Nat.le_refl _) _).setCell (p := ⟨tb, 1, none⟩) (Nat.le_refl _) _).alloc (by rw [hsz]; omega) _), ?_, ?_⟩
      · rw [World.cell?_alloc_lt _ _ ⟨tb, 0, none⟩ (by rw [hsz]; exact l3)]; exact hcs.1
      · rw [World.cell?_alloc_lt _ _ ⟨tb, 1, none⟩ (by rw [hsz]; exact l3)]; exact hcs.2
end Go.Proofs.YtemhbmcgnmfoaaaGreatDoor

/- errors.As, first, Code and At of package fault, for nil and for errors that are a code or a fault. Condition: the variable errors.errorType holds the type error. -/
namespace Go.Proofs.YtemhbmcgnmfoaaaGreatDoor
open Go.RowKit Go.Extern.Stop Go.Stop Go.Extern
/-- The package-level variable errors.errorType holds its type. -/
def ErrT (w : World) : Prop := w.cell? ⟨0, 0, none⟩ = some (.iface 173 (.agg #[.pointer (some ⟨3, 27, none⟩)]))
theorem ErrT.lt {w : World} (h : ErrT w) : 0 < w.heap.size := World.block_lt_of_cell? w _ h
theorem ErrT.below {w w' : World} {B : Nat} (h : ErrT w) (hb : Below B w w') (hB : 0 < B) : ErrT w' := by
  unfold ErrT at *; rw [hb.cell (p := ⟨0, 0, none⟩) hB]; exact h
theorem ErrT.here {w w' : World} (h : ErrT w) (hb : Below w.heap.size w w') : ErrT w' := h.below hb h.lt
theorem As_nil (t : Value) (w : World) :
    Calls Tryz.prog 68 #[.nilIface, t] w fun e w' => e = .returned (.bool false) ∧ w = w' := by
  go_enter Tryz.func68, Tryz.ntmps68
  go_wp2
  go_ret
  exact ⟨rfl, rfl⟩
set_option maxRecDepth 100000 in
set_option maxHeartbeats 4000000 in
theorem As_code (c : Int) (o : Option Int) (tb : Nat) (old : Value) (w : World) (hg : ErrT w)
    (ht : w.cell? ⟨tb, 0, none⟩ = some old) (hf : w.frozen? ⟨tb, 0, none⟩ = false) (hgt : 0 < tb) :
    Calls Tryz.prog 68 #[baseV c o, .iface 100 (.pointer (some ⟨tb, 0, none⟩))] w (AsCode c tb w) := by
  have htl : tb < w.heap.size := World.block_lt_of_cell? w _ ht
  have hB : Below tb w ((w.alloc (.cells #[.pointer (some ⟨tb, 0, none⟩)] 100)).alloc (.cells #[.pointer (some ⟨3, 100, none⟩), .pointer (some ⟨w.heap.size, 0, none⟩), .int .u64 150] 128)) :=
    ((Below.refl _ _).alloc (Nat.le_of_lt htl) _).alloc (by simp; omega) _
  have e0 : ((w.alloc (.cells #[.pointer (some ⟨tb, 0, none⟩)] 100)).alloc (.cells #[.pointer (some ⟨3, 100, none⟩), .pointer (some ⟨w.heap.size, 0, none⟩), .int .u64 150] 128)).cell? ⟨w.heap.size, 0, none⟩ = some (.pointer (some ⟨tb, 0, none⟩)) := by
    rw [World.cell?_alloc_lt _ _ ⟨w.heap.size, 0, none⟩ (by simp)]; simp
  have hg2 : ((w.alloc (.cells #[.pointer (some ⟨tb, 0, none⟩)] 100)).alloc (.cells #[.pointer (some ⟨3, 100, none⟩), .pointer (some ⟨w.heap.size, 0, none⟩), .int .u64 150] 128)).cell? ⟨0, 0, none⟩ = some (.iface 173 (.agg #[.pointer (some ⟨3, 27, none⟩)])) :=
    hg.below hB hgt
  have n8 := isNil_code ⟨w.heap.size, 0, none⟩ ⟨tb, 0, none⟩ ((w.alloc (.cells #[.pointer (some ⟨tb, 0, none⟩)] 100)).alloc (.cells #[.pointer (some ⟨3, 100, none⟩), .pointer (some ⟨w.heap.size, 0, none⟩), .int .u64 150] 128)) e0
  have k := as_code c o w.heap.size tb old ((w.alloc (.cells #[.pointer (some ⟨tb, 0, none⟩)] 100)).alloc (.cells #[.pointer (some ⟨3, 100, none⟩), .pointer (some ⟨w.heap.size, 0, none⟩), .int .u64 150] 128))
    e0 (by simp; omega) (by rw [World.cell?_alloc_lt _ _ ⟨tb, 0, none⟩ (by simp; omega), World.cell?_alloc_lt _ _ ⟨tb, 0, none⟩ htl]; exact ht)
    (by rw [World.frozen?_alloc_old _ _ ⟨tb, 0, none⟩ (by simp; omega), World.frozen?_alloc_old _ _ ⟨tb, 0, none⟩ (Nat.ne_of_lt htl)]; exact hf) (by simp; omega)
  have K := Lib.hid k; clear k
  have HB := Lib.hid hB; clear hB
  have Ht := Lib.hid ht; clear ht
  have Hf := Lib.hid hf; clear hf
  have Hg := Lib.hid hg; clear hg
  have E0 := Lib.hid e0; clear e0
  obtain ⟨ty0, u0, hnn⟩ : ∃ t u, baseV c o = .iface t u := by cases o <;> exact ⟨_, _, rfl⟩
  rw [hnn] at K ⊢
  clear hnn
  have f1 := valueOf_code
  have f2 := type_code
  have f3 := rt_kind
  have f4 := kindP_code
  have f5 := kindE_code
  have f6 := rt_elem
  have f7 := elemT_code
  have f8 := rt_impl
  have f9 := impl_code
  go_enter Tryz.func68, Tryz.ntmps68
  go_wp2_with fail
  refine K.out.mono ?_
  intro e w' he
  obtain ⟨rfl, hb, hc⟩ := he
  have Hb := Lib.hid hb; clear hb
  have Hc := Lib.hid hc; clear hc
  go_wp2_with fail
  go_ret
  exact ⟨rfl, HB.out.trans Hb.out, Hc.out⟩
set_option maxRecDepth 100000 in
set_option maxHeartbeats 4000000 in
theorem As_fault (c : Int) (o : Option Int) (tb : Nat) (old o2 : Value) (w : World) (hg : ErrT w)
    (ht : w.cell? ⟨tb, 0, none⟩ = some old) (hf : w.frozen? ⟨tb, 0, none⟩ = false) (ht1 : w.cell? ⟨tb, 1, none⟩ = some o2) (hf1 : w.frozen? ⟨tb, 1, none⟩ = false) (hgt : 0 < tb) :
    Calls Tryz.prog 68 #[baseV c o, .iface 101 (.pointer (some ⟨tb, 0, none⟩))] w (AsFault c o tb w) := by
  have htl : tb < w.heap.size := World.block_lt_of_cell? w _ ht
  have hB : Below tb w ((w.alloc (.cells #[.pointer (some ⟨tb, 0, none⟩)] 101)).alloc (.cells #[.pointer (some ⟨3, 101, none⟩), .pointer (some ⟨w.heap.size, 0, none⟩), .int .u64 150] 128)) :=
    ((Below.refl _ _).alloc (Nat.le_of_lt htl) _).alloc (by simp; omega) _
  have e0 : ((w.alloc (.cells #[.pointer (some ⟨tb, 0, none⟩)] 101)).alloc (.cells #[.pointer (some ⟨3, 101, none⟩), .pointer (some ⟨w.heap.size, 0, none⟩), .int .u64 150] 128)).cell? ⟨w.heap.size, 0, none⟩ = some (.pointer (some ⟨tb, 0, none⟩)) := by
    rw [World.cell?_alloc_lt _ _ ⟨w.heap.size, 0, none⟩ (by simp)]; simp
  have hg2 : ((w.alloc (.cells #[.pointer (some ⟨tb, 0, none⟩)] 101)).alloc (.cells #[.pointer (some ⟨3, 101, none⟩), .pointer (some ⟨w.heap.size, 0, none⟩), .int .u64 150] 128)).cell? ⟨0, 0, none⟩ = some (.iface 173 (.agg #[.pointer (some ⟨3, 27, none⟩)])) :=
    hg.below hB hgt
  have n8 := isNil_fault ⟨w.heap.size, 0, none⟩ ⟨tb, 0, none⟩ ((w.alloc (.cells #[.pointer (some ⟨tb, 0, none⟩)] 101)).alloc (.cells #[.pointer (some ⟨3, 101, none⟩), .pointer (some ⟨w.heap.size, 0, none⟩), .int .u64 150] 128)) e0
  have k := as_fault c o w.heap.size tb old o2 ((w.alloc (.cells #[.pointer (some ⟨tb, 0, none⟩)] 101)).alloc (.cells #[.pointer (some ⟨3, 101, none⟩), .pointer (some ⟨w.heap.size, 0, none⟩), .int .u64 150] 128))
    e0 (by simp; omega) (by rw [World.cell?_alloc_lt _ _ ⟨tb, 0, none⟩ (by simp; omega), World.cell?_alloc_lt _ _ ⟨tb, 0, none⟩ htl]; exact ht)
    (by rw [World.frozen?_alloc_old _ _ ⟨tb, 0, none⟩ (by simp; omega), World.frozen?_alloc_old _ _ ⟨tb, 0, none⟩ (Nat.ne_of_lt htl)]; exact hf) (by rw [World.cell?_alloc_lt _ _ ⟨tb, 1, none⟩ (by simp; omega), World.cell?_alloc_lt _ _ ⟨tb, 1, none⟩ htl]; exact ht1)
    (by rw [World.frozen?_alloc_old _ _ ⟨tb, 1, none⟩ (by simp; omega), World.frozen?_alloc_old _ _ ⟨tb, 1, none⟩ (Nat.ne_of_lt htl)]; exact hf1) (by simp; omega)
  have K := Lib.hid k; clear k
  have HB := Lib.hid hB; clear hB
  have Ht := Lib.hid ht; clear ht
  have Hf := Lib.hid hf; clear hf
  have Ht1 := Lib.hid ht1; clear ht1
  have Hf1 := Lib.hid hf1; clear hf1
  have Hg := Lib.hid hg; clear hg
  have E0 := Lib.hid e0; clear e0
  obtain ⟨ty0, u0, hnn⟩ : ∃ t u, baseV c o = .iface t u := by cases o <;> exact ⟨_, _, rfl⟩
  rw [hnn] at K ⊢
  clear hnn
  have f1 := valueOf_fault
  have f2 := type_fault
  have f3 := rt_kind
  have f4 := kindP_fault
  have f5 := kindE_fault
  have f6 := rt_elem
  have f7 := elemT_fault
  have f8 := rt_impl
  have f9 := impl_fault
  go_enter Tryz.func68, Tryz.ntmps68
  go_wp2_with fail
  refine K.out.mono ?_
  intro e w' he
  cases o with
  | none =>
    obtain ⟨rfl, hb⟩ := he
    have Hb := Lib.hid hb; clear hb
    go_wp2_with fail
    go_ret
    exact ⟨rfl, HB.out.trans Hb.out⟩
  | some o =>
    obtain ⟨rfl, hb, hc0, hc1⟩ := he
    have Hb := Lib.hid hb; clear hb
    have Hc0 := Lib.hid hc0; clear hc0
    have Hc1 := Lib.hid hc1; clear hc1
    go_wp2_with fail
    go_ret
    exact ⟨rfl, HB.out.trans Hb.out, Hc0.out, Hc1.out⟩
/-- An error as a value: nil, a code, or a fault with a code and an offset. -/
def errV : Option (Int × Option Int) → Value
  | none => .nilIface
  | some (c, o) => baseV c o
def codeE : Option (Int × Option Int) → Int
  | none => 0
  | some (c, _) => c
def atE : Option (Int × Option Int) → Option Int
  | none => none
  | some (_, o) => o
def IntEnd (r : Int) (w : World) (e : Ending) (w' : World) : Prop := e = .returned (.int .i64 r) ∧ Below w.heap.size w w'
theorem first_code_nil (w : World) : Calls Tryz.prog 38 #[.nilIface] w fun e w' => e = .returned (.tuple #[.int .i64 0, .bool false]) ∧ Below w.heap.size w w' := by
  go_enter_defers Tryz.func38, Tryz.ntmps38
  go_wp2_with fail
  refine (As_nil _ _).mono ?_
  rintro e w' ⟨rfl, rfl⟩
  go_wp2_with fail
  refine leaves_cons (f := 67) (args := #[]) (by simp) (by simp [go_sem]) ?_
  refine (idle_code _).mono ?_
  rintro e u' w'' ⟨rfl, rfl, rfl⟩
  exact ⟨.tuple #[.int .i64 0, .bool false], by simp [results, Tryz.results38, go_sem], rfl, (Below.refl _ _).alloc (Nat.le_refl _) _⟩
set_option maxRecDepth 100000 in
theorem first_code (c : Int) (o : Option Int) (w : World) (hg : ErrT w) :
    Calls Tryz.prog 38 #[baseV c o] w fun e w' => e = .returned (.tuple #[.int .i64 c, .bool true]) ∧ Below w.heap.size w w' := by
  have hB : Below w.heap.size w (w.alloc (.cells #[.int .i64 0] 31)) := (Below.refl _ _).alloc (Nat.le_refl _) _
  have k := As_code c o w.heap.size (.int .i64 0) (w.alloc (.cells #[.int .i64 0] 31)) (hg.here hB) (by simp) (by simp) hg.lt
  have K := Lib.hid k; clear k
  have HB := Lib.hid hB; clear hB
  have Hg := Lib.hid hg; clear hg
  obtain ⟨ty0, u0, hnn⟩ : ∃ t u, baseV c o = .iface t u := by cases o <;> exact ⟨_, _, rfl⟩
  rw [hnn] at K ⊢
  clear hnn
  go_enter_defers Tryz.func38, Tryz.ntmps38
  go_wp2_with fail
  refine K.out.mono ?_
  rintro e w' ⟨rfl, hb, hc⟩
  have Hb := Lib.hid hb; clear hb
  go_wp2_with fail
  refine leaves_cons (f := 67) (args := #[]) (by simp) (by simp [go_sem]) ?_
  refine (idle_code _).mono ?_
  rintro e u' w'' ⟨rfl, rfl, rfl⟩
  exact ⟨.tuple #[.int .i64 c, .bool true], by simp [results, Tryz.results38, go_sem], rfl, HB.out.trans Hb.out⟩
/-- The first fault of the chain, as first returns it. -/
def FirstFault (b : Option (Int × Option Int)) (w : World) (e : Ending) (w' : World) : Prop :=
  Below w.heap.size w w' ∧ match b with
    | some (c, some x) => e = .returned (.tuple #[.agg #[.int .i64 c, .int .i64 x], .bool true])
    | _ => e = .returned (.tuple #[.agg #[.int .i64 0, .int .i64 0], .bool false])
theorem first_fault_nil (w : World) : Calls Tryz.prog 39 #[.nilIface] w (FirstFault none w) := by
  go_enter_defers Tryz.func39, Tryz.ntmps39
  go_wp2_with fail
  refine (As_nil _ _).mono ?_
  rintro e w' ⟨rfl, rfl⟩
  go_wp2_with fail
  refine leaves_cons (f := 69) (args := #[]) (by simp) (by simp [go_sem]) ?_
  refine (idle_fault _).mono ?_
  rintro e u' w'' ⟨rfl, rfl, rfl⟩
  refine ⟨.tuple #[.agg #[.int .i64 0, .int .i64 0], .bool false], by simp [results, Tryz.results39, go_sem], ?_, rfl⟩
  exact ((Below.refl _ _).alloc (Nat.le_refl _) _).alloc (by simp) _
set_option maxRecDepth 100000 in
theorem first_fault (c : Int) (o : Option Int) (w : World) (hg : ErrT w) :
    Calls Tryz.prog 39 #[baseV c o] w (FirstFault (some (c, o)) w) := by
  have hB1 : Below w.heap.size w (w.alloc (.cells #[.int .i64 0, .int .i64 0] 69)) := (Below.refl _ _).alloc (Nat.le_refl _) _
  have hB : Below w.heap.size w ((w.alloc (.cells #[.int .i64 0, .int .i64 0] 69)).alloc (.cells #[.int .i64 0, .int .i64 0] 69)) := hB1.alloc (by simp) _
  have k := As_fault c o (w.heap.size + 1) (.int .i64 0) (.int .i64 0) ((w.alloc (.cells #[.int .i64 0, .int .i64 0] 69)).alloc (.cells #[.int .i64 0, .int .i64 0] 69)) (hg.here hB) (by simp) (by simp) (by simp) (by simp) (by have := hg.lt; omega)
  have K := Lib.hid k; clear k
  have HB := Lib.hid hB; clear hB
  have HB1 := Lib.hid hB1; clear hB1
  obtain ⟨ty0, u0, hnn⟩ : ∃ t u, baseV c o = .iface t u := by cases o <;> exact ⟨_, _, rfl⟩
  rw [hnn] at K ⊢
  clear hnn
  have Hg := Lib.hid hg; clear hg
  go_enter_defers Tryz.func39, Tryz.ntmps39
  go_wp2_with fail
  refine K.out.mono ?_
  intro e w' he
  have old : ∀ (w' : World), Below (w.heap.size + 1) ((w.alloc (.cells #[.int .i64 0, .int .i64 0] 69)).alloc (.cells #[.int .i64 0, .int .i64 0] 69)) w' →
      w'.cell? ⟨w.heap.size, 0, none⟩ = some (.int .i64 0) ∧ w'.cell? ⟨w.heap.size, 1, none⟩ = some (.int .i64 0) ∧ w'.frozen? ⟨w.heap.size, 0, none⟩ = false ∧ w'.frozen? ⟨w.heap.size, 1, none⟩ = false := by
    intro w' hb
    refine ⟨?_, ?_, ?_, ?_⟩
    · rw [hb.cell (p := ⟨w.heap.size, 0, none⟩) (by simp)]; simp
    · rw [hb.cell (p := ⟨w.heap.size, 1, none⟩) (by simp)]; simp
    · rw [hb.frozen (p := ⟨w.heap.size, 0, none⟩) (by simp)]; simp
    · rw [hb.frozen (p := ⟨w.heap.size, 1, none⟩) (by simp)]; simp
  rcases o with _ | o
  · obtain ⟨rfl, hb⟩ := he
    obtain ⟨o0, o1, o2, o3⟩ := old _ hb
    clear old
    have Hb := Lib.hid hb; clear hb
    go_wp2_with fail
    refine leaves_cons (f := 69) (args := #[]) (by simp) (by simp [go_sem]) ?_
    refine (idle_fault _).mono ?_
    rintro e u' w'' ⟨rfl, rfl, rfl⟩
    have hcs := cells_two w' w.heap.size (.int .i64 0) (.int .i64 0) _ _ o0 o1
    exact ⟨.tuple #[.agg #[.int .i64 0, .int .i64 0], .bool false], by simp [results, Tryz.results39, go_sem, hcs.1, hcs.2],
      ((HB.out.trans (Hb.out.mono (Nat.le_succ _))).setCell (p := ⟨w.heap.size, 0, none⟩) (Nat.le_refl _) _).setCell (p := ⟨w.heap.size, 1, none⟩) (Nat.le_refl _) _, rfl⟩
  · obtain ⟨rfl, hb, hc0, hc1⟩ := he
    obtain ⟨o0, o1, o2, o3⟩ := old _ hb
    clear old
    have Hb := Lib.hid hb; clear hb
    go_wp2_with fail
    refine leaves_cons (f := 69) (args := #[]) (by simp) (by simp [go_sem]) ?_
    refine (idle_fault _).mono ?_
    rintro e u' w'' ⟨rfl, rfl, rfl⟩
    have hcs := cells_two w' w.heap.size (.int .i64 c) (.int .i64 o) _ _ o0 o1
    exact ⟨.tuple #[.agg #[.int .i64 c, .int .i64 o], .bool true], by simp [results, Tryz.results39, go_sem, hcs.1, hcs.2],
      ((HB.out.trans (Hb.out.mono (Nat.le_succ _))).setCell (p := ⟨w.heap.size, 0, none⟩) (Nat.le_refl _) _).setCell (p := ⟨w.heap.size, 1, none⟩) (Nat.le_refl _) _, rfl⟩
set_option maxRecDepth 100000 in
theorem Code_any (e : Option (Int × Option Int)) (w : World) (hg : ErrT w) :
    Calls Tryz.prog 13 #[errV e] w (IntEnd (codeE e) w) := by
  cases e with
  | none =>
    unfold errV
    go_enter Tryz.func13, Tryz.ntmps13
    go_wp2_with fail
    go_ret
    exact ⟨rfl, Below.refl _ _⟩
  | some b =>
    obtain ⟨c, o⟩ := b
    have k := first_code c o w hg
    have K := Lib.hid k; clear k
    have Hg := Lib.hid hg; clear hg
    show Calls Tryz.prog 13 #[baseV c o] w _
    obtain ⟨ty0, u0, hnn⟩ : ∃ t u, baseV c o = .iface t u := by cases o <;> exact ⟨_, _, rfl⟩
    rw [hnn] at K ⊢
    clear hnn
    go_enter Tryz.func13, Tryz.ntmps13
    go_wp2_with fail
    refine K.out.mono ?_
    rintro e w' ⟨rfl, hb⟩
    have Hb := Lib.hid hb; clear hb
    go_wp2_with fail
    go_ret
    exact ⟨rfl, Hb.out⟩
theorem fault_any (e : Option (Int × Option Int)) (w : World) (hg : ErrT w) :
    Calls Tryz.prog 39 #[errV e] w (fun en w' => Below w.heap.size w w' ∧ en = .returned (match atE e with
      | some a => .tuple #[.agg #[.int .i64 (codeE e), .int .i64 a], .bool true]
      | none => .tuple #[.agg #[.int .i64 0, .int .i64 0], .bool false])) := by
  rcases e with _ | ⟨c, _ | o⟩
  · exact (first_fault_nil w).mono fun en w' he => he
  · exact (first_fault c none w hg).mono fun en w' he => he
  · exact (first_fault c (some o) w hg).mono fun en w' he => he
set_option maxRecDepth 100000 in
theorem At_any (e : Option (Int × Option Int)) (w : World) (hg : ErrT w) :
    Calls Tryz.prog 14 #[errV e] w (IntEnd ((atE e).getD (-1)) w) := by
  have k := fault_any e w hg
  have K := Lib.hid k; clear k
  have Hg := Lib.hid hg; clear hg
  go_enter Tryz.func14, Tryz.ntmps14
  go_wp2_with fail
  refine K.out.mono ?_
  intro en w' ⟨hb, he⟩
  have Hb := Lib.hid hb; clear hb
  cases ha : atE e with
  | none =>
    rw [ha] at he
    subst he
    have Ha := Lib.hid ha; clear ha
    go_wp2_with fail
    go_ret
    exact ⟨by simp [Ha.out], Hb.out.trans (((Below.refl _ _).alloc (Nat.le_refl _) _).mono Hb.out.size)⟩
  | some a =>
    rw [ha] at he
    subst he
    have Ha := Lib.hid ha; clear ha
    go_wp2_with fail
    go_ret
    exact ⟨by simp [Ha.out], Hb.out.trans (((Below.refl _ _).alloc (Nat.le_refl _) _).mono Hb.out.size)⟩
end Go.Proofs.YtemhbmcgnmfoaaaGreatDoor
