/- Cells of a world as a list (block, offset, value), and what calls, draws and new blocks leave of them. No conditions. -/
import Derived.Test.YtdchddiilnhbcaaDoorLaw
namespace Go.Proofs.YtdchddiilnhbcaaDoor
open Go.RowKit
theorem below_alloc {a w : World} (h : Below a.heap.size a w) (o : Obj) : Below a.heap.size a (w.alloc o) := h.alloc h.size o
theorem below_new (w : World) (o : Obj) : Below w.heap.size w (w.alloc o) := (Below.refl _ _).alloc (Nat.le_refl _) o
theorem below_call {w0 w w' : World} (h : Below w0.heap.size w0 w) (hb : Below w.heap.size w w') : Below w0.heap.size w0 w' := keep_below h (Nat.le_refl _) hb
/-- Cells of a world: block, offset, value. -/
def At (w : World) : List (Nat × Nat × Value) → Prop
  | [] => True
  | (k, o, v) :: l => w.cell? ⟨k, o, none⟩ = some v ∧ At w l
theorem At.call {w w' : World} (hb : Below w.heap.size w w') : ∀ {l : List (Nat × Nat × Value)}, At w l → At w' l := by
  intro l
  induction l with
  | nil => intro h; exact h
  | cons x l ih => intro h; exact ⟨keep_cell h.1 hb, ih h.2⟩
theorem At.alloc {w : World} {l : List (Nat × Nat × Value)} (h : At w l) (o : Obj) : At (w.alloc o) l := h.call (below_new w o)
theorem At.drew {w : World} {l : List (Nat × Nat × Value)} (h : At w l) : At w.drew l := h.call (Below.refl _ _).drew
theorem At.set2 {w : World} {b : Nat} {l : List (Nat × Nat × Value)} {u0 u1 : Value} (h0 : w.cell? ⟨b, 0, none⟩ = some u0) (h1 : w.cell? ⟨b, 1, none⟩ = some u1) (h : At w l) (hl : ∀ x ∈ l, x.1 ≠ b) (v0 v1 : Value) :
    At ((w.setCell ⟨b, 0, none⟩ v0).setCell ⟨b, 1, none⟩ v1) ((b, 0, v0) :: (b, 1, v1) :: l) := by
  refine ⟨?_, ?_, ?_⟩
  · rw [World.cell?_setCell_other _ _ _ _ (by simp)]; exact World.cell?_setCell_same' _ _ _ (by rw [h0]; rfl)
  · exact World.cell?_setCell_same' _ _ _ (by rw [World.cell?_setCell_other _ _ _ _ (by simp), h1]; rfl)
  · clear h0 h1
    induction l with
    | nil => exact h
    | cons x l ih =>
      obtain ⟨k, o, v⟩ := x
      refine ⟨?_, ih h.2 fun y hy => hl y (List.mem_cons_of_mem _ hy)⟩
      have hk : k ≠ b := hl _ (List.mem_cons_self ..)
      rw [World.cell?_setCell_other _ _ _ _ (fun e => hk (congrArg Addr.block e).symm), World.cell?_setCell_other _ _ _ _ (fun e => hk (congrArg Addr.block e).symm)]
      exact h.1
theorem ret_bool {a b : Bool} (h : a = b) : Ending.returned (.bool a) = .returned (.bool b) := by rw [h]
theorem ret_num {k : IntKind} {a b : Int} (h : a = b) : Ending.returned (.int k a) = .returned (.int k b) := by rw [h]
def IsEnd (b : Bool) (w : World) (e : Ending) (w' : World) : Prop := e = .returned (.bool b) ∧ Below w.heap.size w w'
end Go.Proofs.YtdchddiilnhbcaaDoor
