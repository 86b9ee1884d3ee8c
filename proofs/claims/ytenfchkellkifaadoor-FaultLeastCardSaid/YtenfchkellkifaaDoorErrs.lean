/- Errors in memory: a chain of named errors over a code, a fault or a plain text; what New, Wrap and the Unwrap methods return. No conditions. -/
import Derived.Test.YtenfchkellkifaaDoorLaw
import Derived.LaidEql
import Derived.Stop.Asserts
import Derived.WalkSpells
import Derived.Deep.LoopGhost
import Derived.Deep.DeepFit
import Derived.Deep.DeepCutAuto
namespace Go.Proofs.YtenfchkellkifaaDoor
open Go.RowKit

/-- The value of an error without names: a code, or a fault with a code and an offset. -/
def baseV (c : Int) : Option Int → Value
  | none => .iface 25 (.int .i64 c)
  | some a => .iface 28 (.agg #[.int .i64 c, .int .i64 a])

/-- An error in memory: what it is made of, and its names, the last one first; all its blocks lie below B. -/
def ErrV (B : Nat) (W : World) (b : Option (Int × Option Int)) (s : ByteArray) : List ByteArray → Value → Prop
  | [], v => match b with
    | some (c, o) => v = baseV c o
    | none => ∃ k, v = .iface 82 (.pointer (some ⟨k, 0, none⟩)) ∧ k < B ∧ W.cell? ⟨k, 0, none⟩ = some (.string s)
  | n :: ns, v => ∃ k u, v = .iface 66 (.pointer (some ⟨k, 0, none⟩)) ∧ k < B ∧ W.cell? ⟨k, 0, none⟩ = some (.string n) ∧ W.cell? ⟨k, 1, none⟩ = some u ∧ ErrV B W b s ns u

theorem ErrV.below {B B' : Nat} {W W' : World} {b : Option (Int × Option Int)} {s : ByteArray} (hb : Below B W W') (hB : B ≤ B') : ∀ {ns : List ByteArray} {v : Value}, ErrV B W b s ns v → ErrV B' W' b s ns v := by
  intro ns
  induction ns with
  | nil =>
    intro v h
    cases b with
    | some x => exact h
    | none =>
      obtain ⟨k, h1, h2, h3⟩ := h
      exact ⟨k, h1, Nat.lt_of_lt_of_le h2 hB, by rw [hb.cell (p := ⟨k, 0, none⟩) h2]; exact h3⟩
  | cons n ns ih =>
    intro v h
    obtain ⟨k, u, h1, h2, h3, h4, h5⟩ := h
    exact ⟨k, u, h1, Nat.lt_of_lt_of_le h2 hB, by rw [hb.cell (p := ⟨k, 0, none⟩) h2]; exact h3, by rw [hb.cell (p := ⟨k, 1, none⟩) h2]; exact h4, ih h5⟩

theorem ErrV.not_nil {B : Nat} {W : World} {b : Option (Int × Option Int)} {s : ByteArray} {ns : List ByteArray} {v : Value} (h : ErrV B W b s ns v) : ∃ t u, v = .iface t u := by
  cases ns with
  | nil =>
    cases b with
    | some x =>
      obtain ⟨c, o⟩ := x
      cases o with
      | none => exact ⟨_, _, h⟩
      | some a => exact ⟨_, _, h⟩
    | none => obtain ⟨k, h1, _⟩ := h; exact ⟨_, _, h1⟩
  | cons n ns => obtain ⟨k, u, h1, _⟩ := h; exact ⟨_, _, h1⟩

theorem new_ok (c a : Int) (w : World) (hc : (c == 0) = false) :
    Calls Tryd.prog 9 #[.int .i64 c, .int .i64 a] w fun e w' => e = .returned (baseV c (some a)) ∧ w = w' := by
  go_enter Tryd.func9, Tryd.ntmps9
  go_wp2
  go_ret
  exact ⟨rfl, rfl⟩

theorem new_nil (a : Int) (w : World) :
    Calls Tryd.prog 9 #[.int .i64 0, .int .i64 a] w fun e w' => e = .returned .nilIface ∧ w = w' := by
  go_enter Tryd.func9, Tryd.ntmps9
  go_wp2
  go_ret
  exact ⟨rfl, rfl⟩

theorem wrap_nil (n : ByteArray) (w : World) :
    Calls Tryd.prog 21 #[.string n, .nilIface] w fun e w' => e = .returned .nilIface ∧ w = w' := by
  go_enter Tryd.func21, Tryd.ntmps21
  go_wp2
  go_ret
  exact ⟨rfl, rfl⟩

theorem wrap_some (n : ByteArray) (t : TypeId) (u : Value) (w : World) :
    Calls Tryd.prog 21 #[.string n, .iface t u] w fun e w' => e = .returned (.iface 66 (.pointer (some ⟨w.heap.size, 0, none⟩))) ∧ w' = w.alloc (.cells #[.string n, .iface t u] 68) := by
  go_enter Tryd.func21, Tryd.ntmps21
  go_wp2
  go_ret
  exact ⟨rfl, rfl⟩

/-- What Wrap makes of an error. -/
theorem wrap_err (n : ByteArray) {b : Option (Int × Option Int)} {s : ByteArray} {ns : List ByteArray} {v : Value} (w : World) (h : ErrV w.heap.size w b s ns v) :
    Calls Tryd.prog 21 #[.string n, v] w fun e w' => ∃ v', e = .returned v' ∧ ErrV w'.heap.size w' b s (n :: ns) v' ∧ Below w.heap.size w w' := by
  obtain ⟨t, u, rfl⟩ := h.not_nil
  refine (wrap_some n t u w).mono ?_
  rintro e w' ⟨rfl, rfl⟩
  have hb : Below w.heap.size w (w.alloc (.cells #[.string n, .iface t u] 68)) := (Below.refl _ _).alloc (Nat.le_refl _) _
  exact ⟨_, rfl, ⟨w.heap.size, .iface t u, rfl, by simp, by simp, by simp, h.below hb (by simp)⟩, hb⟩

theorem unwrap_named (k : Nat) (u : Value) (w : World) (hu : w.cell? ⟨k, 1, none⟩ = some u) :
    Calls Tryd.prog 62 #[.pointer (some ⟨k, 0, none⟩)] w fun e w' => e = .returned u ∧ w = w' := by
  go_enter Tryd.func62, Tryd.ntmps62
  go_wp2
  go_ret
  exact ⟨rfl, rfl⟩

theorem unwrap_fault (c a : Int) (w : World) :
    Calls Tryd.prog 60 #[.agg #[.int .i64 c, .int .i64 a]] w fun e w' => e = .returned (baseV c none) ∧ w' = w.alloc (.cells #[.int .i64 c, .int .i64 a] 28) := by
  go_enter Tryd.func60, Tryd.ntmps60
  go_wp2
  go_ret
  exact ⟨rfl, rfl⟩
end Go.Proofs.YtenfchkellkifaaDoor
