/- What the laws of layer 7 ask of package entry, and their example out of it. No conditions of its own. -/
import Derived.Test.YtjnpcpcgigdngaaDoorNRef2
import Derived.Test.YtjnpcpcgigdngaaDoorOKeep
import Derived.Test.YtjnpcpcgigdngaaDoorEAs
namespace Go.Proofs.YtjnpcpcgigdngaaDoor
open Go.RowKit
/-- A slice that reaches no further than its capacity. -/
def SaneE (v : Value) : Prop := saneV v ∧ ∀ a n c, v = .slice (some a) n c → n ≤ c
theorem sane_nil : SaneE (.slice none 0 0) := ⟨fun n c e => (by cases e; exact ⟨rfl, rfl⟩), fun a n c e => (by cases e)⟩
theorem sane_lit (a : Addr) (n c : Nat) (h : n ≤ c) : SaneE (.slice (some a) n c) := ⟨fun n c e => (by cases e), fun a n c e => (by cases e; exact h)⟩
/-- An entry's holes in memory, whatever they are. -/
structure AnyAt (w : World) (s : Value) (m : Int) (H : List Iv) : Prop where
  at' : IvsAt w s H
  all : All64 H
  sane : SaneE s
  low : 0 ≤ m
  top : m ≤ 18446744073709551615
  len : H.length ≤ 300
theorem AnyAt.call {w w' : World} {s : Value} {m : Int} {H : List Iv} (h : AnyAt w s m H) (hb : Below w.heap.size w w') : AnyAt w' s m H := ⟨h.at'.call hb, h.all, h.sane, h.low, h.top, h.len⟩
/-- A correct list in memory. -/
structure LstAt (w : World) (s : Value) (L : List Iv) : Prop where
  at' : IvsAt w s L
  good : GoodL L
  sane : SaneE s
  len : L.length ≤ 300
theorem LstAt.call {w w' : World} {s : Value} {L : List Iv} (h : LstAt w s L) (hb : Below w.heap.size w w') : LstAt w' s L := ⟨h.at'.call hb, h.good, h.sane, h.len⟩
theorem LstAt.op {w : World} {s : Value} {L : List Iv} (h : LstAt w s L) : OpAt w s L := ⟨h.at', h.good, by have := h.len; omega⟩
/-- A correct entry's holes in memory. -/
structure EntAt (w : World) (s : Value) (m : Int) (H : List Iv) : Prop where
  any : AnyAt w s m H
  good : GoodE m H
theorem EntAt.call {w w' : World} {s : Value} {m : Int} {H : List Iv} (h : EntAt w s m H) (hb : Below w.heap.size w w') : EntAt w' s m H := ⟨h.any.call hb, h.good⟩
theorem EntAt.op {w : World} {s : Value} {m : Int} {H : List Iv} (h : EntAt w s m H) : OpAt w s H := ⟨h.any.at', h.good.good, by have := h.any.len; omega⟩
/-- A call that returns a list of its own. -/
def IsKn (L : List Iv) (w : World) (e : Ending) (w' : World) : Prop := ∃ v, e = .returned v ∧ IvsAt w' v L ∧ SaneE v ∧ SoftE w' w.heap.size v L.length ∧ Below w.heap.size w w'
/-- A call that returns the entry of a list. -/
def IsEO (r : Int) (L : List Iv) (w : World) (e : Ending) (w' : World) : Prop :=
  ∃ v, e = .returned (.tuple #[.agg #[.int .u64 (repE r L), .int .u64 (topL L), v], .bool (someE L)]) ∧ IvsAt w' v (holesL L) ∧ SaneE v ∧ SoftE w' w.heap.size v (holesL L).length ∧ Below w.heap.size w w'
/-- The contracts of package entry. -/
structure EntC : Prop where
  chk : ∀ (r m : Int) (H : List Iv) (s : Value) (w : World), ErrT w → AnyAt w s m H → Calls Tryd.prog 10 #[.agg #[.int .u64 r, .int .u64 m, s]] w (IsErr (chkN m H) w)
  has : ∀ (r m : Int) (H : List Iv) (s : Value) (c : Int) (w : World), ErrT w → EntAt w s m H → 0 ≤ c → c ≤ 18446744073709551615 → Calls Tryd.prog 18 #[.agg #[.int .u64 r, .int .u64 m, s], .int .u64 c] w (IsEnd (hasE m H c) w)
  known : ∀ (r m : Int) (H : List Iv) (s : Value) (w : World), ErrT w → EntAt w s m H → Calls Tryd.prog 17 #[.agg #[.int .u64 r, .int .u64 m, s]] w (IsKn (knownL m H) w)
  of' : ∀ (r : Int) (L : List Iv) (s : Value) (w : World), ErrT w → LstAt w s L → Calls Tryd.prog 24 #[.int .u64 r, s] w (IsEO r L w)
  canonical : ∀ (r m : Int) (H : List Iv) (s : Value) (w : World), ErrT w → AnyAt w s m H → Calls Tryd.prog 14 #[.agg #[.int .u64 r, .int .u64 m, s]] w (IsEnd (okN m H && canonB m H) w)
  canon : ∀ (r m : Int) (H : List Iv) (s : Value) (w : World), ErrT w → EntAt w s m H → Calls Tryd.prog 27 #[.agg #[.int .u64 r, .int .u64 m, s]] w (IsEO r (knownL m H) w)
  same : ∀ (r m r' m' : Int) (H H' : List Iv) (s s' : Value) (w : World), ErrT w → AnyAt w s m H → AnyAt w s' m' H' → Calls Tryd.prog 29 #[.agg #[.int .u64 r, .int .u64 m, s], .agg #[.int .u64 r', .int .u64 m', s']] w (IsEnd (decide (r = r' ∧ m = m' ∧ H = H')) w)
def ex7 : List Iv := [(0, 3), (6, 8)]
theorem ex7_good : GoodL ex7 := by
  refine ⟨⟨by decide, fun z hz => ?_, by decide, fun z hz => (by cases hz), trivial⟩, ?_⟩
  · cases hz; decide
  · intro y hy
    simp [ex7] at hy
    rcases hy with rfl | rfl <;> (unfold UM; decide)
theorem hole_good : GoodL [((4 : Int), (5 : Int))] := good_one (by decide) (by decide) (by decide)
theorem three_good : GoodL [((0 : Int), (3 : Int))] := good_one (by decide) (by decide) (by decide)
/-- A list that holds the numbers up to the greatest one that are not in L. -/
theorem holes_eq {L G : List Iv} (h : GoodL L) (hne : L ≠ []) (hG : GoodL G) (hx : ∀ x : Int, 0 ≤ x → hasL G x = (decide (x ≤ topL L) && !hasL L x)) : holesL L = G := by
  have ht := top_range h hne
  have ho : GoodL [(0, topL L)] := good_one ht.1 (Int.le_refl _) ht.2
  unfold holesL
  rw [if_neg hne]
  refine good_eq (subL_good ho h) hG fun x => ?_
  rw [sub_has ho h]
  by_cases hc : 0 ≤ x
  · rw [one_has hc, hx x hc]
  · rw [one_neg (by omega)]
    have : hasL G x = false := by
      rw [Bool.eq_false_iff]
      intro hh
      obtain ⟨y, hy, h1, h2⟩ := (hasL_iff _ _).1 hh
      have := hG.ok y hy
      omega
    rw [this]; rfl
theorem ex7_holes : holesL ex7 = [(4, 5)] := holes_eq ex7_good (by simp [ex7]) hole_good fun x hx => by
  rw [show topL ex7 = 8 from rfl]
  simp only [ex7, hasL, List.any_cons, List.any_nil, inI]
  rw [Bool.eq_iff_iff]; simp; omega
theorem three_holes : holesL [((0 : Int), (3 : Int))] = [] := holes_eq three_good (by simp) good_nil fun x hx => by
  rw [show topL [((0 : Int), (3 : Int))] = 3 from rfl]
  simp only [hasL, List.any_cons, List.any_nil, inI]
  rw [Bool.eq_iff_iff]; simp; omega
theorem five_good : GoodE 5 [((4 : Int), (5 : Int))] := ⟨hole_good, by decide, by unfold UM; decide, fun y hy => by simp at hy; subst hy; decide⟩
theorem eight_good : GoodE 8 [((4 : Int), (5 : Int))] := ⟨hole_good, by decide, by unfold UM; decide, fun y hy => by simp at hy; subst hy; decide⟩
theorem five_known : knownL 5 [((4 : Int), (5 : Int))] = [(0, 3)] := good_eq (known_good five_good) three_good fun x => by
  by_cases hc : 0 ≤ x
  · rw [known_has five_good hc]
    simp only [hasE, hasL, List.any_cons, List.any_nil, inI]
    rw [Bool.eq_iff_iff]; simp; omega
  · have h1 : ∀ G : List Iv, GoodL G → hasL G x = false := fun G hG => by
      rw [Bool.eq_false_iff]
      intro hh
      obtain ⟨y, hy, h1, h2⟩ := (hasL_iff _ _).1 hh
      have := hG.ok y hy
      omega
    rw [h1 _ (known_good five_good), h1 _ three_good]
end Go.Proofs.YtjnpcpcgigdngaaDoor
