/- What the laws of layer 7 ask of package entry, and their example out of it. No conditions of its own. -/
import Derived.Test.YtnlbohaealkelaaDoorNRef2
import Derived.Test.YtnlbohaealkelaaDoorOKeep
import Derived.Test.YtnlbohaealkelaaDoorEAs
namespace Go.Proofs.YtnlbohaealkelaaDoor
open Go.RowKit
/-- A slice that reaches no further than its capacity. -/
def SaneE (v : Value) : Prop := saneV v ∧ ∀ a n c, v = .slice (some a) n c → n ≤ c
theorem sane_nil : SaneE (.slice none 0 0) := ⟨fun n c e => (by cases e; exact ⟨rfl, rfl⟩), fun a n c e => (by cases e)⟩
theorem sane_lit (a : Addr) (n c : Nat) (h : n ≤ c) : SaneE (.slice (some a) n c) := ⟨fun n c e => (by cases e), fun a n c e => (by cases e; exact h)⟩
/-- An entry's holes in memory, whatever they are. -/
structure AnyAt (w : World) (s : Value) (m : Int) (H : List Iv) : Prop where
  at' : IvsAt w s H
  all : All64 H
  sane : SaneE s
  low : 0 ≤ m
  top : m ≤ 18446744073709551615
  len : H.length ≤ 5000
theorem AnyAt.call {w w' : World} {s : Value} {m : Int} {H : List Iv} (h : AnyAt w s m H) (hb : Below w.heap.size w w') : AnyAt w' s m H := ⟨h.at'.call hb, h.all, h.sane, h.low, h.top, h.len⟩
/-- A correct list in memory. -/
structure LstAt (w : World) (s : Value) (L : List Iv) : Prop where
  at' : IvsAt w s L
  good : GoodL L
  sane : SaneE s
  len : L.length ≤ 15000
theorem LstAt.call {w w' : World} {s : Value} {L : List Iv} (h : LstAt w s L) (hb : Below w.heap.size w w') : LstAt w' s L := ⟨h.at'.call hb, h.good, h.sane, h.len⟩
theorem LstAt.op {w : World} {s : Value} {L : List Iv} (h : LstAt w s L) : OpAt w s L := ⟨h.at', h.good, by have := h.len; omega⟩
/-- A correct entry's holes in memory. -/
structure EntAt (w : World) (s : Value) (m : Int) (H : List Iv) : Prop where
  any : AnyAt w s m H
  good : GoodE m H
theorem EntAt.call {w w' : World} {s : Value} {m : Int} {H : List Iv} (h : EntAt w s m H) (hb : Below w.heap.size w w') : EntAt w' s m H := ⟨h.any.call hb, h.good⟩
theorem EntAt.op {w : World} {s : Value} {m : Int} {H : List Iv} (h : EntAt w s m H) : OpAt w s H := ⟨h.any.at', h.good.good, by have := h.any.len; omega⟩
/-- A call that returns a list of its own. -/
def IsKn (L : List Iv) (w : World) (e : Ending) (w' : World) : Prop := ∃ v, e = .returned v ∧ IvsAt w' v L ∧ SaneE v ∧ SoftE w' w.heap.size v L.length ∧ Below w.heap.size w w'
/-- A call that returns the entry of a list. -/
def IsEO (r : Int) (L : List Iv) (w : World) (e : Ending) (w' : World) : Prop :=
  ∃ v, e = .returned (.tuple #[.agg #[.int .u64 (repE r L), .int .u64 (topL L), v], .bool (someE L)]) ∧ IvsAt w' v (holesL L) ∧ SaneE v ∧ SoftE w' w.heap.size v (holesL L).length ∧ Below w.heap.size w w'
/-- A list that holds the numbers up to the greatest one that are not in L. -/
theorem holes_eq {L G : List Iv} (h : GoodL L) (hne : L ≠ []) (hG : GoodL G) (hx : ∀ x : Int, 0 ≤ x → hasL G x = (decide (x ≤ topL L) && !hasL L x)) : holesL L = G := by
  have ht := top_range h hne
  have ho : GoodL [(0, topL L)] := good_one ht.1 (Int.le_refl _) ht.2
  unfold holesL
  rw [if_neg hne]
  refine good_eq (subL_good ho h) hG fun x => ?_
  rw [sub_has ho h]
  by_cases hc : 0 ≤ x
  · rw [one_has hc, hx x hc]
  · rw [one_neg (by omega)]
    have : hasL G x = false := by
      rw [Bool.eq_false_iff]
      intro hh
      obtain ⟨y, hy, h1, h2⟩ := (hasL_iff _ _).1 hh
      have := hG.ok y hy
      omega
    rw [this]; rfl
end Go.Proofs.YtnlbohaealkelaaDoor
