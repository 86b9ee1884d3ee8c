/- errors.Is and holds: whether the code of an error in memory is a given one. No conditions. -/
import Derived.Test.YtenfchkellkifaaDoorFacts
namespace Go.Proofs.YtenfchkellkifaaDoor
open Go.RowKit

def codeIs (c : Int) : Option (Int × Option Int) → Bool
  | some (c0, _) => c0 == c
  | none => false

def IsEnd (r : Bool) (w : World) (e : Ending) (w' : World) : Prop := e = .returned (.bool r) ∧ Below w.heap.size w w'

set_option maxRecDepth 100000 in
set_option maxHeartbeats 2000000 in
theorem is_any (c : Int) (b : Option (Int × Option Int)) (s : ByteArray) (ns : List ByteArray) (v : Value) (w : World) (h : ErrV w.heap.size w b s ns v) :
    Calls Tryd.prog 28 #[v, .iface 25 (.int .i64 c), .bool true] w (IsEnd (codeIs c b) w) := by
  have q1 := eqv_named
  have q2 := eqv_fault
  have q3 := eqv_other
  have q4 := eqv_code
  have m1 := un_named
  have m2 := un_fault
  have i1 := noIs_named
  have i2 := noIs_fault
  have i3 := noIs_other
  have i4 := noIs_code
  have g1 := hasUn_named
  have g2 := hasUn_fault
  have g3 := noUn_other
  have g4 := noUn_code
  have g5 := noUns_other
  have g6 := noUns_code
  go_enter Tryd.func28, Tryd.ntmps28
  go_wp2
  go_loopg [0] (ns.length + 2) (fun k p wr => ∃ ns' b', ns'.length + (if b'.isSome then (if (b'.getD (0, none)).2.isSome then 1 else 0) else 0) + 1 ≤ k ∧ ErrV wr.heap.size wr b' s ns' p ∧ codeIs c b' = codeIs c b ∧ Below w.heap.size w wr)
  case atStart => exact ⟨ns, b, by split <;> (try split) <;> omega, h, rfl, Below.refl _ _⟩
  case round =>
    obtain ⟨ns', b', hk, hv, hcode, hb⟩ := hrel
    have Hcode := Lib.hid hcode; clear hcode
    have Hk := Lib.hid hk; clear hk
    have Hb := Lib.hid hb; clear hb
    have H := Lib.hid h; clear h
    cases ns' with
    | nil =>
      cases b' with
      | none =>
        obtain ⟨q, rfl, hq, hc⟩ := hv
        have Hc := Lib.hid hc; clear hc
        go_wp2_with fail
        go_ret
        exact ⟨by rw [← Hcode.out]; rfl, Hb.out⟩
      | some x =>
        obtain ⟨x, o⟩ := x
        cases o with
        | none =>
          obtain rfl : _ = Value.iface 25 (.int .i64 x) := hv
          by_cases hx : x = c
          · subst hx
            go_wp2_with fail
            go_ret
            exact ⟨by rw [← Hcode.out]; simp [codeIs], Hb.out⟩
          · have hx' : (x == c) = false := by simpa using hx
            go_wp2_with fail
            go_ret
            exact ⟨by rw [← Hcode.out]; simp [codeIs, hx], Hb.out⟩
        | some a =>
          obtain rfl : _ = Value.iface 28 (.agg #[.int .i64 x, .int .i64 a]) := hv
          go_wp2_with fail
          refine (unwrap_fault x a _).mono ?_
          rintro e w' ⟨rfl, rfl⟩
          unfold baseV
          go_wp2_with fail
          have Hk' := Hk.out
          simp at Hk'
          go_roundg 1
          case measure => omega
          case rel => exact ⟨[], some (x, none), by simp, rfl, Hcode.out, Hb.out.trans (((Below.refl _ _).alloc (Nat.le_refl _) _).mono Hb.out.size)⟩
    | cons n ns' =>
      obtain ⟨q, u, rfl, hq, h0, h1, hu⟩ := hv
      obtain ⟨t, x, rfl⟩ := hu.not_nil
      have Hu := Lib.hid hu; clear hu
      go_wp2_with fail
      refine (unwrap_named q _ _ h1).mono ?_
      rintro e w' ⟨rfl, rfl⟩
      go_wp2_with fail
      have Hk' := Hk.out
      simp at Hk'
      go_roundg (gk - 1)
      case measure => omega
      case rel => exact ⟨ns', b', by omega, Hu.out, Hcode.out, Hb.out⟩
end Go.Proofs.YtenfchkellkifaaDoor
