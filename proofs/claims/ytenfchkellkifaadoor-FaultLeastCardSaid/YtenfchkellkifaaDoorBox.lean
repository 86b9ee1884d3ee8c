/- A boxed description in memory, and what calls and new blocks leave of it. No conditions. -/
import Derived.Test.YtenfchkellkifaaDoorRefText
namespace Go.Proofs.YtenfchkellkifaaDoor
open Go.RowKit Go.Extern.Stop Go.Stop Go.Extern

theorem box_call {W w1 w2 : World} {k : Nat} {v0 v1 v2 v3 v4 : Value}
    (h : Below W.heap.size W w1 ∧ w1.cell? ⟨k, 0, none⟩ = some v0 ∧ w1.cell? ⟨k, 1, none⟩ = some v1 ∧ w1.cell? ⟨k, 2, none⟩ = some v2 ∧ w1.cell? ⟨k, 3, none⟩ = some v3 ∧ w1.cell? ⟨k, 4, none⟩ = some v4)
    (hb : Hid (Below w1.heap.size w1 w2)) :
    Below W.heap.size W w2 ∧ w2.cell? ⟨k, 0, none⟩ = some v0 ∧ w2.cell? ⟨k, 1, none⟩ = some v1 ∧ w2.cell? ⟨k, 2, none⟩ = some v2 ∧ w2.cell? ⟨k, 3, none⟩ = some v3 ∧ w2.cell? ⟨k, 4, none⟩ = some v4 :=
  ⟨keep_below h.1 (Nat.le_refl _) hb.out, keep_cell h.2.1 hb.out, keep_cell h.2.2.1 hb.out, keep_cell h.2.2.2.1 hb.out, keep_cell h.2.2.2.2.1 hb.out, keep_cell h.2.2.2.2.2 hb.out⟩

theorem box_alloc {W w1 : World} {k : Nat} {v0 v1 v2 v3 v4 : Value}
    (h : Below W.heap.size W w1 ∧ w1.cell? ⟨k, 0, none⟩ = some v0 ∧ w1.cell? ⟨k, 1, none⟩ = some v1 ∧ w1.cell? ⟨k, 2, none⟩ = some v2 ∧ w1.cell? ⟨k, 3, none⟩ = some v3 ∧ w1.cell? ⟨k, 4, none⟩ = some v4)
    (o : Obj) :
    Below W.heap.size W (w1.alloc o) ∧ (w1.alloc o).cell? ⟨k, 0, none⟩ = some v0 ∧ (w1.alloc o).cell? ⟨k, 1, none⟩ = some v1 ∧ (w1.alloc o).cell? ⟨k, 2, none⟩ = some v2 ∧ (w1.alloc o).cell? ⟨k, 3, none⟩ = some v3 ∧ (w1.alloc o).cell? ⟨k, 4, none⟩ = some v4 :=
  box_call h ((Below.refl _ _).alloc (Nat.le_refl _) o)

theorem box_drew {W w1 : World} {k : Nat} {v0 v1 v2 v3 v4 : Value}
    (h : Below W.heap.size W w1 ∧ w1.cell? ⟨k, 0, none⟩ = some v0 ∧ w1.cell? ⟨k, 1, none⟩ = some v1 ∧ w1.cell? ⟨k, 2, none⟩ = some v2 ∧ w1.cell? ⟨k, 3, none⟩ = some v3 ∧ w1.cell? ⟨k, 4, none⟩ = some v4) :
    Below W.heap.size W w1.drew ∧ w1.drew.cell? ⟨k, 0, none⟩ = some v0 ∧ w1.drew.cell? ⟨k, 1, none⟩ = some v1 ∧ w1.drew.cell? ⟨k, 2, none⟩ = some v2 ∧ w1.drew.cell? ⟨k, 3, none⟩ = some v3 ∧ w1.drew.cell? ⟨k, 4, none⟩ = some v4 :=
  box_call h ((Below.refl _ _).drew)

theorem box_new (W : World) (v0 v1 v2 v3 v4 : Value) (t : TypeId) :
    Below W.heap.size W (W.alloc (.cells #[v0, v1, v2, v3, v4] t)) ∧ (W.alloc (.cells #[v0, v1, v2, v3, v4] t)).cell? ⟨W.heap.size, 0, none⟩ = some v0 ∧ (W.alloc (.cells #[v0, v1, v2, v3, v4] t)).cell? ⟨W.heap.size, 1, none⟩ = some v1 ∧
      (W.alloc (.cells #[v0, v1, v2, v3, v4] t)).cell? ⟨W.heap.size, 2, none⟩ = some v2 ∧ (W.alloc (.cells #[v0, v1, v2, v3, v4] t)).cell? ⟨W.heap.size, 3, none⟩ = some v3 ∧ (W.alloc (.cells #[v0, v1, v2, v3, v4] t)).cell? ⟨W.heap.size, 4, none⟩ = some v4 :=
  ⟨(Below.refl _ _).alloc (Nat.le_refl _) _, by simp, by simp, by simp, by simp, by simp⟩

theorem box_below {W w1 : World} {k : Nat} {v0 v1 v2 v3 v4 : Value}
    (h : Below W.heap.size W w1 ∧ w1.cell? ⟨k, 0, none⟩ = some v0 ∧ w1.cell? ⟨k, 1, none⟩ = some v1 ∧ w1.cell? ⟨k, 2, none⟩ = some v2 ∧ w1.cell? ⟨k, 3, none⟩ = some v3 ∧ w1.cell? ⟨k, 4, none⟩ = some v4) : Below W.heap.size W w1 := h.1

theorem wrap_ne (c : Int) : IntKind.i64.wrap (c + 1) ≠ c := by
  simp [IntKind.wrap, IntKind.signed, IntKind.bits]
  split <;> omega

/-- The two codes that FaultReads asks for. -/
theorem any_two (E : EData) : [IntKind.i64.wrap (E.code + 1), E.code].any (holdsB · (eOf E)) = !E.isNil := by
  have hw := wrap_ne E.code
  cases hn : E.isNil <;> simp [eOf, hn, holdsB, codeIs, baseOf]

theorem any_one (E : EData) : [IntKind.i64.wrap (E.code + 1)].any (holdsB · (eOf E)) = false := by
  have hw := wrap_ne E.code
  cases hn : E.isNil
  · simp only [eOf, hn, List.any_cons, List.any_nil, Bool.or_false]
    simp [holdsB, codeIs, baseOf]
    exact fun e => hw e.symm
  · simp [eOf, hn, holdsB]
end Go.Proofs.YtenfchkellkifaaDoor
