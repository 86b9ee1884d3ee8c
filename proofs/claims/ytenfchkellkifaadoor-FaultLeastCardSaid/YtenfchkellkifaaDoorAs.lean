/- errors.As at a target of type *api.Errno, for errors in memory: the first code of the chain. No conditions. -/
import Derived.Test.YtenfchkellkifaaDoorAsFacts
namespace Go.Proofs.YtenfchkellkifaaDoor
open Go.RowKit Go.Extern.Stop Go.Stop Go.Extern

def AsCode (b : Option (Int × Option Int)) (tb : Nat) (w : World) (e : Ending) (w' : World) : Prop :=
  match b with
  | some (c, _) => e = .returned (.bool true) ∧ Below tb w w' ∧ w'.cell? ⟨tb, 0, none⟩ = some (.int .i64 c)
  | none => e = .returned (.bool false) ∧ Below tb w w'

/-- What the loop of errors.as reads besides the error: the boxed Value, the pointer behind it, the target. -/
def Held (P : TypeId) (k a tb : Nat) (old : Value) (wr : World) : Prop :=
  wr.cell? ⟨k, 0, none⟩ = some (.pointer (some ⟨1, P, none⟩)) ∧ wr.cell? ⟨k, 1, none⟩ = some (.pointer (some ⟨a, 0, none⟩)) ∧ wr.cell? ⟨k, 2, none⟩ = some (.int .u64 150) ∧
  wr.cell? ⟨a, 0, none⟩ = some (.pointer (some ⟨tb, 0, none⟩)) ∧ wr.cell? ⟨tb, 0, none⟩ = some old ∧ wr.frozen? ⟨tb, 0, none⟩ = false ∧ k < wr.heap.size ∧ a < wr.heap.size ∧ tb < wr.heap.size

theorem Held.alloc {P : TypeId} {k a tb : Nat} {old : Value} {wr : World} (h : Held P k a tb old wr) (o : Obj) : Held P k a tb old (wr.alloc o) := by
  obtain ⟨h1, h2, h3, h4, h5, h6, h7, h8, h9⟩ := h
  refine ⟨?_, ?_, ?_, ?_, ?_, ?_, ?_, ?_, ?_⟩
  · rw [World.cell?_alloc_lt _ _ ⟨k, 0, none⟩ h7]; exact h1
  · rw [World.cell?_alloc_lt _ _ ⟨k, 1, none⟩ h7]; exact h2
  · rw [World.cell?_alloc_lt _ _ ⟨k, 2, none⟩ h7]; exact h3
  · rw [World.cell?_alloc_lt _ _ ⟨a, 0, none⟩ h8]; exact h4
  · rw [World.cell?_alloc_lt _ _ ⟨tb, 0, none⟩ h9]; exact h5
  · rw [World.frozen?_alloc_old _ _ ⟨tb, 0, none⟩ (Nat.ne_of_lt h9)]; exact h6
  · simp; omega
  · simp; omega
  · simp; omega

set_option maxRecDepth 100000 in
set_option maxHeartbeats 4000000 in
theorem as_code (b : Option (Int × Option Int)) (s : ByteArray) (ns : List ByteArray) (v : Value) (a tb : Nat) (old : Value) (w : World)
    (h : ErrV tb w b s ns v) (ha : w.cell? ⟨a, 0, none⟩ = some (.pointer (some ⟨tb, 0, none⟩))) (hal : a < w.heap.size) (ht : w.cell? ⟨tb, 0, none⟩ = some old) (hf : w.frozen? ⟨tb, 0, none⟩ = false) (htl : tb < w.heap.size) :
    Calls Tryd.prog 36 #[v, .iface 93 (.pointer (some ⟨tb, 0, none⟩)), .agg #[.pointer (some ⟨1, 93, none⟩), .pointer (some ⟨a, 0, none⟩), .int .u64 150], .iface 86 (.agg #[.pointer (some ⟨1, 25, none⟩)])] w (AsCode b tb w) := by
  have hH : Held 93 w.heap.size a tb old (w.alloc (.cells #[.pointer (some ⟨1, 93, none⟩), .pointer (some ⟨a, 0, none⟩), .int .u64 150] 72)) := by
    refine ⟨by simp, by simp, by simp, ?_, ?_, ?_, by simp, by simp; omega, by simp; omega⟩
    · rw [World.cell?_alloc_lt _ _ ⟨a, 0, none⟩ hal]; exact ha
    · rw [World.cell?_alloc_lt _ _ ⟨tb, 0, none⟩ htl]; exact ht
    · rw [World.frozen?_alloc_old _ _ ⟨tb, 0, none⟩ (Nat.ne_of_lt htl)]; exact hf
  have hB : Below tb w (w.alloc (.cells #[.pointer (some ⟨1, 93, none⟩), .pointer (some ⟨a, 0, none⟩), .int .u64 150] 72)) := (Below.refl _ _).alloc (Nat.le_of_lt htl) _
  have hE := h.below hB (Nat.le_refl _)
  have Ha := Lib.hid ha; clear ha
  have Ht := Lib.hid ht; clear ht
  have Hf := Lib.hid hf; clear hf
  have HH := Lib.hid hH; clear hH
  have HB := Lib.hid hB; clear hB
  have HE := Lib.hid hE; clear hE
  have H := Lib.hid h; clear h
  have y1 := ty_named
  have y2 := ty_fault
  have y3 := ty_other
  have y4 := typeOf_code
  have z0 := rt_assign
  have z1 := asg_named_code
  have z2 := asg_fault_code
  have z3 := asg_other_code
  have z4 := asg_code_code
  have m1 := un_named
  have m2 := un_fault
  have i1 := noAs_named
  have i2 := noAs_fault
  have i3 := noAs_other
  have g1 := hasUn_named
  have g2 := hasUn_fault
  have g3 := noUn_other
  have g5 := noUns_other
  have v1 := valueOfV_code
  go_enter Tryd.func36, Tryd.ntmps36
  go_wp2_with fail
  go_loopg [0] (ns.length + 2) (fun k p wr => ∃ ns' b', ns'.length + (if b'.isSome then (if (b'.getD (0, none)).2.isSome then 1 else 0) else 0) + 1 ≤ k ∧ ErrV tb wr b' s ns' p ∧ b'.map (·.1) = b.map (·.1) ∧ Below tb w wr ∧ Held 93 w.heap.size a tb old wr)
  case atStart => exact ⟨ns, b, by split <;> (try split) <;> omega, HE.out, rfl, HB.out, HH.out⟩
  case round =>
    obtain ⟨ns', b', hk, hv, hcode, hb, hh⟩ := hrel
    have Hcode := Lib.hid hcode; clear hcode
    have Hk := Lib.hid hk; clear hk
    have Hb := Lib.hid hb; clear hb
    have Hh := Lib.hid hh
    obtain ⟨c0, c1, c2, ca, ct, cf, l1, l2, l3⟩ := hh
    cases ns' with
    | nil =>
      cases b' with
      | none =>
        obtain ⟨q, rfl, hq, hc⟩ := hv
        have Hc := Lib.hid hc; clear hc
        go_wp2_with fail
        go_ret
        have hc := Hcode.out
        cases b with
        | none => exact ⟨rfl, Hb.out⟩
        | some y => simp at hc
      | some x =>
        obtain ⟨x, o⟩ := x
        cases o with
        | none =>
          obtain rfl : _ = Value.iface 25 (.int .i64 x) := hv
          have e1 := elemV_code ⟨a, 0, none⟩ ⟨tb, 0, none⟩ wr ca
          have e2 := set_code ⟨tb, 0, none⟩ ⟨wr.heap.size, 0, none⟩ x old (wr.alloc (.cells #[.int .i64 x] 25)) (by simp)
            (by rw [World.cell?_alloc_lt _ _ ⟨tb, 0, none⟩ l3]; exact ct) (by rw [World.frozen?_alloc_old _ _ ⟨tb, 0, none⟩ (Nat.ne_of_lt l3)]; exact cf)
          go_wp2_with fail
          go_ret
          have hc := Hcode.out
          cases b with
          | none => simp at hc
          | some y =>
            simp at hc
            subst hc
            have hsz : (wr.setCell ⟨tb, 0, none⟩ (.int .i64 y.1)).heap.size = wr.heap.size := by simp [World.setCell]
            refine ⟨rfl, (Hb.out.setCell (p := ⟨tb, 0, none⟩) (Nat.le_refl _) _).alloc (by rw [hsz]; omega) _, ?_⟩
            rw [World.cell?_alloc_lt _ _ ⟨tb, 0, none⟩ (by rw [hsz]; exact l3)]
            exact World.cell?_setCell_same' _ _ _ (by rw [ct]; rfl)
        | some a0 =>
          obtain rfl : _ = Value.iface 28 (.agg #[.int .i64 x, .int .i64 a0]) := hv
          go_wp2_with fail
          refine (unwrap_fault x a0 _).mono ?_
          rintro e w' ⟨rfl, rfl⟩
          unfold baseV
          go_wp2_with fail
          have Hk' := Hk.out
          simp at Hk'
          go_roundg 1
          case measure => omega
          case rel => exact ⟨[], some (x, none), by simp, rfl, Hcode.out, Hb.out.alloc (Nat.le_of_lt l3) _, Hh.out.alloc _⟩
    | cons n ns' =>
      obtain ⟨q, u, rfl, hq, h0, h1, hu⟩ := hv
      obtain ⟨t, x, rfl⟩ := hu.not_nil
      have Hu := Lib.hid hu; clear hu
      go_wp2_with fail
      refine (unwrap_named q _ _ h1).mono ?_
      rintro e w' ⟨rfl, rfl⟩
      go_wp2_with fail
      have Hk' := Hk.out
      simp at Hk'
      go_roundg (gk - 1)
      case measure => omega
      case rel => exact ⟨ns', b', by omega, Hu.out, Hcode.out, Hb.out, Hh.out⟩
end Go.Proofs.YtenfchkellkifaaDoor
