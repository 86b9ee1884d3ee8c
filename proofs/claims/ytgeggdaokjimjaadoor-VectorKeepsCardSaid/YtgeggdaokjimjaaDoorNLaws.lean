/- The laws of layer 7 in every state, out of what package entry says. Conditions: the contracts of package entry, and the fixed value of errors.errorType. -/
import Derived.Test.YtgeggdaokjimjaaDoorNAlive
import Derived.Test.YtgeggdaokjimjaaDoorORef
import Derived.Test.YtgeggdaokjimjaaDoorRIv
import Derived.Deep.RegionHeld3
namespace Go.Proofs.YtgeggdaokjimjaaDoor
open Go.RowKit
/-- The three cells of an entry in memory. -/
def E3 (w : World) (b : Nat) (r m : Int) (s : Value) : Prop := w.cell? ⟨b, 0, none⟩ = some (.int .u64 r) ∧ w.cell? ⟨b, 1, none⟩ = some (.int .u64 m) ∧ w.cell? ⟨b, 2, none⟩ = some s
theorem E3.call {w w' : World} {b : Nat} {r m : Int} {s : Value} (h : E3 w b r m s) (hb : Below w.heap.size w w') : E3 w' b r m s := ⟨keep_cell h.1 hb, keep_cell h.2.1 hb, keep_cell h.2.2 hb⟩
theorem E3.new (w : World) (r m : Int) (s : Value) (t : TypeId) (k : Nat) (hk : k = w.heap.size) : E3 (w.alloc (.cells #[.int .u64 r, .int .u64 m, s] t)) k r m s := by
  subst hk
  refine ⟨?_, ?_, ?_⟩ <;> simp
theorem r6_call {W w1 w2 : World} {p0 p1 p2 p3 p4 p5 : Addr} {a0 a1 a2 a3 a4 a5 : Value} (h : Below W.heap.size W w1 ∧ w1.cell? p0 = some a0 ∧ w1.cell? p1 = some a1 ∧ w1.cell? p2 = some a2 ∧ w1.cell? p3 = some a3 ∧ w1.cell? p4 = some a4 ∧ w1.cell? p5 = some a5) (hb : Hid (Below w1.heap.size w1 w2)) : Below W.heap.size W w2 ∧ w2.cell? p0 = some a0 ∧ w2.cell? p1 = some a1 ∧ w2.cell? p2 = some a2 ∧ w2.cell? p3 = some a3 ∧ w2.cell? p4 = some a4 ∧ w2.cell? p5 = some a5 :=
  ⟨below_call h.1 hb.out, keep_cell h.2.1 hb.out, keep_cell h.2.2.1 hb.out, keep_cell h.2.2.2.1 hb.out, keep_cell h.2.2.2.2.1 hb.out, keep_cell h.2.2.2.2.2.1 hb.out, keep_cell h.2.2.2.2.2.2 hb.out⟩
theorem r6_drew {W w1 : World} {p0 p1 p2 p3 p4 p5 : Addr} {a0 a1 a2 a3 a4 a5 : Value} (h : Below W.heap.size W w1 ∧ w1.cell? p0 = some a0 ∧ w1.cell? p1 = some a1 ∧ w1.cell? p2 = some a2 ∧ w1.cell? p3 = some a3 ∧ w1.cell? p4 = some a4 ∧ w1.cell? p5 = some a5) : Below W.heap.size W w1.drew ∧ w1.drew.cell? p0 = some a0 ∧ w1.drew.cell? p1 = some a1 ∧ w1.drew.cell? p2 = some a2 ∧ w1.drew.cell? p3 = some a3 ∧ w1.drew.cell? p4 = some a4 ∧ w1.drew.cell? p5 = some a5 := r6_call h (Lib.hid (Below.refl _ _).drew)
theorem r6_below {W w1 : World} {p0 p1 p2 p3 p4 p5 : Addr} {a0 a1 a2 a3 a4 a5 : Value} (h : Below W.heap.size W w1 ∧ w1.cell? p0 = some a0 ∧ w1.cell? p1 = some a1 ∧ w1.cell? p2 = some a2 ∧ w1.cell? p3 = some a3 ∧ w1.cell? p4 = some a4 ∧ w1.cell? p5 = some a5) : Below W.heap.size W w1 := h.1
end Go.Proofs.YtgeggdaokjimjaaDoor
