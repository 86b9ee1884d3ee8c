/- errors.As at a target of type *api.Fault, for errors in memory: the first fault of the chain. No conditions. -/
import Derived.Test.YtenfchkellkifaaDoorAs
namespace Go.Proofs.YtenfchkellkifaaDoor
open Go.RowKit Go.Extern.Stop Go.Stop Go.Extern

def AsFault (b : Option (Int × Option Int)) (tb : Nat) (w : World) (e : Ending) (w' : World) : Prop :=
  match b with
  | some (c, some x) => e = .returned (.bool true) ∧ Below tb w w' ∧ w'.cell? ⟨tb, 0, none⟩ = some (.int .i64 c) ∧ w'.cell? ⟨tb, 1, none⟩ = some (.int .i64 x)
  | _ => e = .returned (.bool false) ∧ Below tb w w'

theorem cells_two (w : World) (tb : Nat) (u v o1 o2 : Value) (h0 : w.cell? ⟨tb, 0, none⟩ = some o1) (h1 : w.cell? ⟨tb, 1, none⟩ = some o2) :
    ((w.setCell ⟨tb, 0, none⟩ u).setCell ⟨tb, 1, none⟩ v).cell? ⟨tb, 0, none⟩ = some u ∧ ((w.setCell ⟨tb, 0, none⟩ u).setCell ⟨tb, 1, none⟩ v).cell? ⟨tb, 1, none⟩ = some v := by
  constructor
  · rw [World.cell?_setCell_other _ _ _ _ (by simp)]
    exact World.cell?_setCell_same' _ _ _ (by rw [h0]; rfl)
  · exact World.cell?_setCell_same' _ _ _ (by rw [World.cell?_setCell_other _ _ _ _ (by simp), h1]; rfl)

set_option maxRecDepth 100000 in
set_option maxHeartbeats 4000000 in
theorem as_fault (b : Option (Int × Option Int)) (s : ByteArray) (ns : List ByteArray) (v : Value) (a tb : Nat) (o1 o2 : Value) (w : World)
    (h : ErrV tb w b s ns v) (ha : w.cell? ⟨a, 0, none⟩ = some (.pointer (some ⟨tb, 0, none⟩))) (hal : a < w.heap.size) (ht : w.cell? ⟨tb, 0, none⟩ = some o1) (hf : w.frozen? ⟨tb, 0, none⟩ = false)
    (ht1 : w.cell? ⟨tb, 1, none⟩ = some o2) (hf1 : w.frozen? ⟨tb, 1, none⟩ = false) (htl : tb < w.heap.size) :
    Calls Tryd.prog 36 #[v, .iface 47 (.pointer (some ⟨tb, 0, none⟩)), .agg #[.pointer (some ⟨1, 47, none⟩), .pointer (some ⟨a, 0, none⟩), .int .u64 150], .iface 86 (.agg #[.pointer (some ⟨1, 28, none⟩)])] w (AsFault b tb w) := by
  have hH : Held 47 w.heap.size a tb o1 (w.alloc (.cells #[.pointer (some ⟨1, 47, none⟩), .pointer (some ⟨a, 0, none⟩), .int .u64 150] 72)) := by
    refine ⟨by simp, by simp, by simp, ?_, ?_, ?_, by simp, by simp; omega, by simp; omega⟩
    · rw [World.cell?_alloc_lt _ _ ⟨a, 0, none⟩ hal]; exact ha
    · rw [World.cell?_alloc_lt _ _ ⟨tb, 0, none⟩ htl]; exact ht
    · rw [World.frozen?_alloc_old _ _ ⟨tb, 0, none⟩ (Nat.ne_of_lt htl)]; exact hf
  have hT1 : (w.alloc (.cells #[.pointer (some ⟨1, 47, none⟩), .pointer (some ⟨a, 0, none⟩), .int .u64 150] 72)).cell? ⟨tb, 1, none⟩ = some o2 := by
    rw [World.cell?_alloc_lt _ _ ⟨tb, 1, none⟩ htl]; exact ht1
  have hF1 : (w.alloc (.cells #[.pointer (some ⟨1, 47, none⟩), .pointer (some ⟨a, 0, none⟩), .int .u64 150] 72)).frozen? ⟨tb, 1, none⟩ = false := by
    rw [World.frozen?_alloc_old _ _ ⟨tb, 1, none⟩ (Nat.ne_of_lt htl)]; exact hf1
  have hB : Below tb w (w.alloc (.cells #[.pointer (some ⟨1, 47, none⟩), .pointer (some ⟨a, 0, none⟩), .int .u64 150] 72)) := (Below.refl _ _).alloc (Nat.le_of_lt htl) _
  have hE := h.below hB (Nat.le_refl _)
  have Ha := Lib.hid ha; clear ha
  have Ht := Lib.hid ht; clear ht
  have Hf := Lib.hid hf; clear hf
  have Ht1 := Lib.hid ht1; clear ht1
  have Hf1 := Lib.hid hf1; clear hf1
  have HT1 := Lib.hid hT1; clear hT1
  have HF1 := Lib.hid hF1; clear hF1
  have HH := Lib.hid hH; clear hH
  have HB := Lib.hid hB; clear hB
  have HE := Lib.hid hE; clear hE
  have H := Lib.hid h; clear h
  have y1 := ty_named
  have y2 := ty_fault
  have y3 := ty_other
  have y4 := typeOf_code
  have z0 := rt_assign
  have z1 := asg_named_fault
  have z2 := asg_fault_fault
  have z3 := asg_other_fault
  have z4 := asg_code_fault
  have m1 := un_named
  have i1 := noAs_named
  have i3 := noAs_other
  have i4 := noAs_code
  have g1 := hasUn_named
  have g3 := noUn_other
  have g4 := noUn_code
  have g5 := noUns_other
  have g6 := noUns_code
  have v1 := valueOfV_fault
  go_enter Tryd.func36, Tryd.ntmps36
  go_wp2_with fail
  go_loopg [0] (ns.length + 1) (fun k p wr => ∃ ns', ns'.length + 1 ≤ k ∧ ErrV tb wr b s ns' p ∧ Below tb w wr ∧ Held 47 w.heap.size a tb o1 wr ∧ wr.cell? ⟨tb, 1, none⟩ = some o2 ∧ wr.frozen? ⟨tb, 1, none⟩ = false)
  case atStart => exact ⟨ns, by omega, HE.out, HB.out, HH.out, HT1.out, HF1.out⟩
  case round =>
    obtain ⟨ns', hk, hv, hb, hh, ct1, cf1⟩ := hrel
    have Hk := Lib.hid hk; clear hk
    have Hb := Lib.hid hb; clear hb
    have Hh := Lib.hid hh
    have Ct1 := Lib.hid ct1
    have Cf1 := Lib.hid cf1
    obtain ⟨c0, c1, c2, ca, ct, cf, l1, l2, l3⟩ := hh
    cases ns' with
    | nil =>
      cases b with
      | none =>
        obtain ⟨q, rfl, hq, hc⟩ := hv
        have Hc := Lib.hid hc; clear hc
        go_wp2_with fail
        go_ret
        exact ⟨rfl, Hb.out⟩
      | some x =>
        obtain ⟨x, o⟩ := x
        cases o with
        | none =>
          obtain rfl : _ = Value.iface 25 (.int .i64 x) := hv
          go_wp2_with fail
          go_ret
          exact ⟨rfl, Hb.out⟩
        | some a0 =>
          obtain rfl : _ = Value.iface 28 (.agg #[.int .i64 x, .int .i64 a0]) := hv
          have e1 := elemV_fault ⟨a, 0, none⟩ ⟨tb, 0, none⟩ wr ca
          have e2 := set_fault tb wr.heap.size x a0 o1 o2 (wr.alloc (.cells #[.int .i64 x, .int .i64 a0] 28)) (by simp) (by simp)
            (by rw [World.cell?_alloc_lt _ _ ⟨tb, 0, none⟩ l3]; exact ct) (by rw [World.cell?_alloc_lt _ _ ⟨tb, 1, none⟩ l3]; exact ct1)
            (by rw [World.frozen?_alloc_old _ _ ⟨tb, 0, none⟩ (Nat.ne_of_lt l3)]; exact cf) (by rw [World.frozen?_alloc_old _ _ ⟨tb, 1, none⟩ (Nat.ne_of_lt l3)]; exact cf1)
          go_wp2_with fail
          go_ret
          have hsz : ((wr.setCell ⟨tb, 0, none⟩ (.int .i64 x)).setCell ⟨tb, 1, none⟩ (.int .i64 a0)).heap.size = wr.heap.size := by simp [World.setCell]
          have hcs := cells_two wr tb (.int .i64 x) (.int .i64 a0) o1 o2 ct Ct1.out
          refine ⟨rfl, (((Hb.out.setCell (p := ⟨tb, 0, none⟩) (Nat.le_refl _) _).setCell (p := ⟨tb, 1, none⟩) (Nat.le_refl _) _).alloc (by rw [hsz]; omega) _), ?_, ?_⟩
          · rw [World.cell?_alloc_lt _ _ ⟨tb, 0, none⟩ (by rw [hsz]; exact l3)]; exact hcs.1
          · rw [World.cell?_alloc_lt _ _ ⟨tb, 1, none⟩ (by rw [hsz]; exact l3)]; exact hcs.2
    | cons n ns' =>
      obtain ⟨q, u, rfl, hq, h0, h1, hu⟩ := hv
      obtain ⟨t, x, rfl⟩ := hu.not_nil
      have Hu := Lib.hid hu; clear hu
      go_wp2_with fail
      refine (unwrap_named q _ _ h1).mono ?_
      rintro e w' ⟨rfl, rfl⟩
      go_wp2_with fail
      have Hk' := Hk.out
      simp at Hk'
      go_roundg (gk - 1)
      case measure => omega
      case rel => exact ⟨ns', by omega, Hu.out, Hb.out, Hh.out, Ct1.out, Cf1.out⟩
end Go.Proofs.YtenfchkellkifaaDoor
