/- A loop over a function that stores into memory of its own between two rounds, and leaves the memory of others. No conditions. -/
import Derived.Test.YtgeggdaokjimjaaDoorROwn
import Derived.RangeFuncNested
import Derived.RangeFuncBound
import Derived.RangeFuncCalls
import Derived.RangeFuncLeaves
import Derived.RangeFuncBox
import Derived.RangeFuncWrites
namespace Go.Proofs.YtgeggdaokjimjaaDoor
open Go.RowKit
/-- What lies outside of q lies as it lay. -/
structure Apart (q : Nat → Prop) (A B : World) : Prop where
  os : B.os = A.os
  tape : B.tape = A.tape
  output : B.output = A.output
  size : A.heap.size ≤ B.heap.size
  block : ∀ k, k < A.heap.size → ¬ q k → B.heap[k]? = A.heap[k]?
section
variable {q q' : Nat → Prop} {A B C : World}
theorem Apart.refl (q : Nat → Prop) (A : World) : Apart q A A := ⟨rfl, rfl, rfl, Nat.le_refl _, fun _ _ _ => rfl⟩
theorem Apart.trans (h : Apart q A B) (k : Apart q B C) : Apart q A C :=
  ⟨k.os.trans h.os, k.tape.trans h.tape, k.output.trans h.output, Nat.le_trans h.size k.size, fun i hi hq => (k.block i (Nat.lt_of_lt_of_le hi h.size) hq).trans (h.block i hi hq)⟩
theorem Apart.mono (h : Apart q A B) (hq : ∀ k, k < A.heap.size → q k → q' k) : Apart q' A B :=
  ⟨h.os, h.tape, h.output, h.size, fun i hi hn => h.block i hi fun x => hn (hq i hi x)⟩
theorem Apart.of_below (q : Nat → Prop) (h : Below A.heap.size A B) : Apart q A B := ⟨h.os, h.tape, h.output, h.size, fun i hi _ => h.block i hi⟩
theorem Apart.below {n : Nat} (h : Apart q A B) (hn : n ≤ A.heap.size) (hq : ∀ k, k < n → ¬ q k) : Below n A B := ⟨h.os, h.tape, h.output, h.size, fun i hi => h.block i (by omega) (hq i hi)⟩
theorem Apart.of_grown {row : Option Nat} (h : A.grownBy B row) (hr : ∀ r, row = some r → q r) : Apart q A B :=
  ⟨h.os, h.tape, h.output, h.size, fun i hi hq => h.block i hi fun e => hq (hr i e.symm)⟩
theorem Apart.alloc (q : Nat → Prop) (A : World) (o : Obj) : Apart q A (A.alloc o) := .of_below q (below_new A o)
theorem Apart.drew (q : Nat → Prop) (A : World) : Apart q A A.drew := ⟨rfl, rfl, rfl, Nat.le_refl _, fun _ _ _ => rfl⟩
theorem Apart.drewN (q : Nat → Prop) (A : World) (n : Nat) : Apart q A (A.drewN n) := ⟨rfl, rfl, rfl, Nat.le_refl _, fun _ _ _ => rfl⟩
theorem Apart.put {l : Nat} (A : World) (o : Obj) (h : q l) : Apart q A (A.putObj l o) := .of_grown (grownBy_putObj' A l o) fun r e => by cases e; exact h
theorem Apart.set {b o : Nat} (A : World) (v : Value) (h : q b) : Apart q A (A.setCell ⟨b, o, none⟩ v) :=
  ⟨rfl, rfl, rfl, by simp, fun k _ hk => Below.heap_setCell A _ v k fun e => hk (by subst e; exact h)⟩
theorem Apart.boxed {b : Nat} {t : TypeId} {v : Value} (h : Apart q A B) (hb : Boxed A b t v) (hn : ¬ q b) : Boxed B b t v := (h.block b hb.lt hn).trans hb
theorem Apart.obj {b : Nat} {o : Obj} (h : Apart q A B) (hb : A.heap[b]? = some o) (hn : ¬ q b) : B.heap[b]? = some o := (h.block b (Array.getElem?_eq_some_iff.1 hb).1 hn).trans hb
theorem Apart.cell {a : Addr} {v : Value} (h : Apart q A B) (hb : A.cell? a = some v) (hn : ¬ q a.block) : B.cell? a = some v :=
  (World.cell?_of_block (h.block a.block (World.block_lt_of_cell? A _ hb) hn)).trans hb
theorem Apart.owns {base : Nat} {e : TypeId} {size : Nat} {v : Value} {n : Nat} {xs : List Value} (h : Apart q A B) (ho : A.ownsRow base e size v n xs) (hn : ∀ k, base ≤ k → ¬ q k) : B.ownsRow base e size v n xs := by
  refine ⟨ho.1, ?_⟩
  rcases ho.2 with h0 | ⟨g, cap, cur, h1, h2, h3, h4⟩
  · exact .inl h0
  · exact .inr ⟨g, cap, cur, h1, h2, h.obj h3 (hn g h2), h4⟩
end
/-- A call of yield, whatever the depth. -/
def YW (P : Program) (l : Nat) (args : Array Value) (W : World) (R : Ending → World → Prop) : Prop := YieldAt Fence.wide 0 P l args W R
theorem RoundIn.anyDepth {m m' : Nat} {P : Program} {l : Nat} {f : FuncId} {tmps : Array Value} {assign body : Code} {w : World} {R : Ending → World → Prop} (h : RoundIn Fence.wide m P l f tmps assign body w R) : RoundIn Fence.wide m' P l f tmps assign body w R :=
  ⟨h.1, fun c cs _ => h.2 c cs (fun d hd => by cases hd)⟩
theorem RoundIn.inRound {F : Fence} {m : Nat} {P : Program} {l l2 : Nat} {f : FuncId} {tmps : Array Value} {assign body : Code} {w : World} {R : Ending → World → Prop} (h : RoundIn F m P l f tmps assign body w R) : RoundIn (F.inRound l2) m P l f tmps assign body w R := h
theorem YW.of {m : Nat} {P : Program} {l : Nat} {args : Array Value} {W : World} {R : Ending → World → Prop} (h : YieldAt Fence.wide m P l args W R) : YW P l args W R := by
  obtain ⟨fn, tmps, assign, body, hy, hR⟩ := h
  exact ⟨fn, tmps, assign, body, hy, RoundIn.anyDepth hR⟩
end Go.Proofs.YtgeggdaokjimjaaDoor
