/- What the laws of layer 7 ask of package entry, and their example out of it. No conditions of its own. -/
import Derived.Test.YtgeggdaokjimjaaDoorNRef2
import Derived.Test.YtgeggdaokjimjaaDoorOKeep
import Derived.Test.YtgeggdaokjimjaaDoorEAs
namespace Go.Proofs.YtgeggdaokjimjaaDoor
open Go.RowKit
/-- A slice that reaches no further than its capacity. -/
def SaneE (v : Value) : Prop := saneV v ∧ ∀ a n c, v = .slice (some a) n c → n ≤ c
theorem sane_nil : SaneE (.slice none 0 0) := ⟨fun n c e => (by cases e; exact ⟨rfl, rfl⟩), fun a n c e => (by cases e)⟩
theorem sane_lit (a : Addr) (n c : Nat) (h : n ≤ c) : SaneE (.slice (some a) n c) := ⟨fun n c e => (by cases e), fun a n c e => (by cases e; exact h)⟩
/-- An entry's holes in memory, whatever they are. -/
structure AnyAt (w : World) (s : Value) (m : Int) (H : List Iv) : Prop where
  at' : IvsAt w s H
  all : All64 H
  sane : SaneE s
  low : 0 ≤ m
  top : m ≤ 18446744073709551615
  len : H.length ≤ 5000
theorem AnyAt.call {w w' : World} {s : Value} {m : Int} {H : List Iv} (h : AnyAt w s m H) (hb : Below w.heap.size w w') : AnyAt w' s m H := ⟨h.at'.call hb, h.all, h.sane, h.low, h.top, h.len⟩
/-- A correct entry's holes in memory. -/
structure EntAt (w : World) (s : Value) (m : Int) (H : List Iv) : Prop where
  any : AnyAt w s m H
  good : GoodE m H
theorem EntAt.call {w w' : World} {s : Value} {m : Int} {H : List Iv} (h : EntAt w s m H) (hb : Below w.heap.size w w') : EntAt w' s m H := ⟨h.any.call hb, h.good⟩
theorem EntAt.op {w : World} {s : Value} {m : Int} {H : List Iv} (h : EntAt w s m H) : OpAt w s H := ⟨h.any.at', h.good.good, by have := h.any.len; omega⟩
/-- A call that returns the entry of a list. -/
def IsEO (r : Int) (L : List Iv) (w : World) (e : Ending) (w' : World) : Prop :=
  ∃ v, e = .returned (.tuple #[.agg #[.int .u64 (repE r L), .int .u64 (topL L), v], .bool (someE L)]) ∧ IvsAt w' v (holesL L) ∧ SaneE v ∧ SoftE w' w.heap.size v (holesL L).length ∧ Below w.heap.size w w'
end Go.Proofs.YtgeggdaokjimjaaDoor
