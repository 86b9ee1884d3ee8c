/- Cells of a world as a list (block, offset, value), and what calls, draws and new blocks leave of them. No conditions. -/
import Derived.Test.YtgeggdaokjimjaaDoorLaw
namespace Go.Proofs.YtgeggdaokjimjaaDoor
open Go.RowKit
theorem below_alloc {a w : World} (h : Below a.heap.size a w) (o : Obj) : Below a.heap.size a (w.alloc o) := h.alloc h.size o
theorem below_new (w : World) (o : Obj) : Below w.heap.size w (w.alloc o) := (Below.refl _ _).alloc (Nat.le_refl _) o
theorem below_call {w0 w w' : World} (h : Below w0.heap.size w0 w) (hb : Below w.heap.size w w') : Below w0.heap.size w0 w' := keep_below h (Nat.le_refl _) hb
theorem keep_free {w w' : World} {p : Addr} (h : w.frozen? p = false) (hp : p.block < w.heap.size) (hb : Below w.heap.size w w') : w'.frozen? p = false := by
  rw [hb.frozen hp]; exact h
/-- Cells of a world: block, offset, value. -/
def At (w : World) : List (Nat × Nat × Value) → Prop
  | [] => True
  | (k, o, v) :: l => w.cell? ⟨k, o, none⟩ = some v ∧ At w l
theorem At.call {w w' : World} (hb : Below w.heap.size w w') : ∀ {l : List (Nat × Nat × Value)}, At w l → At w' l := by
  intro l
  induction l with
  | nil => intro h; exact h
  | cons x l ih => intro h; exact ⟨keep_cell h.1 hb, ih h.2⟩
theorem At.alloc {w : World} {l : List (Nat × Nat × Value)} (h : At w l) (o : Obj) : At (w.alloc o) l := h.call (below_new w o)
theorem At.drew {w : World} {l : List (Nat × Nat × Value)} (h : At w l) : At w.drew l := h.call (Below.refl _ _).drew
theorem At.new1 {w : World} {l : List (Nat × Nat × Value)} (h : At w l) (v0 : Value) (t : TypeId) (k : Nat) (hk : k = w.heap.size) :
    At (w.alloc (.cells #[v0] t)) ((k, 0, v0) :: l) := by
  subst hk; exact ⟨by simp, h.alloc _⟩
/-- What a call has kept so far: what was there when it began, and cells of its own. -/
def Kp (w wi : World) (l : List (Nat × Nat × Value)) : Prop := Below w.heap.size w wi ∧ At wi l
theorem Kp.start (w : World) : Kp w w [] := ⟨Below.refl _ _, trivial⟩
theorem Kp.call {w wi w' : World} {l : List (Nat × Nat × Value)} (h : Kp w wi l) (hb : Below wi.heap.size wi w') : Kp w w' l := ⟨below_call h.1 hb, h.2.call hb⟩
theorem Kp.alloc {w wi : World} {l : List (Nat × Nat × Value)} (h : Kp w wi l) (o : Obj) : Kp w (wi.alloc o) l := h.call (below_new wi o)
theorem Kp.drew {w wi : World} {l : List (Nat × Nat × Value)} (h : Kp w wi l) : Kp w wi.drew l := h.call (Below.refl _ _).drew
theorem Kp.new1 {w wi : World} {l : List (Nat × Nat × Value)} (h : Kp w wi l) (v0 : Value) (t : TypeId) (k : Nat) (hk : k = wi.heap.size) : Kp w (wi.alloc (.cells #[v0] t)) ((k, 0, v0) :: l) :=
  ⟨below_alloc h.1 _, h.2.new1 v0 t k hk⟩
theorem ret_bool {a b : Bool} (h : a = b) : Ending.returned (.bool a) = .returned (.bool b) := by rw [h]
theorem ret_num {k : IntKind} {a b : Int} (h : a = b) : Ending.returned (.int k a) = .returned (.int k b) := by rw [h]
def IsEnd (b : Bool) (w : World) (e : Ending) (w' : World) : Prop := e = .returned (.bool b) ∧ Below w.heap.size w w'
end Go.Proofs.YtgeggdaokjimjaaDoor
