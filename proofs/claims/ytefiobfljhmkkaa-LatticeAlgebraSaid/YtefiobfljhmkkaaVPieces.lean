/- The range-function of package setops that yields the pieces that are taken, once for each operation. Conditions: the lists are correct, kept in memory between two rounds. -/
import Derived.Test.YtefiobfljhmkkaaVEdge
import Derived.Test.YtefiobfljhmkkaaVApart
namespace Go.Proofs.Ytefiobfljhmkkaa
open Go.RowKit Go.Shelf
attribute [local go_sem] Oper.semAt_some
/-- A call that answers with a truth value and leaves the memory. -/
def IsB (b : Bool) (w : World) (e : Ending) (w' : World) : Prop := e = .returned (.bool b) ∧ w' = w
def ivA (x : Iv) : Array Value := #[.agg #[.int .u64 x.1, .int .u64 x.2]]
/-- The boxes of the range-function: where yield, the start and the membership lie. -/
structure OwnP (e : Nat) (l : Nat) (kT : Nat) (T : Value) (s : Int) (t : Bool) (W : World) : Prop where
  y : Boxed W e 112 (.func (.yield l) #[] #[])
  st : Boxed W (e + 1) 29 (.int .u64 s)
  tk : Boxed W (e + 1 + 1) 4 (.bool t)
  ct : W.cell? ⟨kT, 0, none⟩ = some T
theorem OwnP.apart {q : Nat → Prop} {e l kT : Nat} {T : Value} {s : Int} {t : Bool} {A B : World} (h : OwnP e l kT T s t A) (hb : Apart q A B) (h0 : ¬ q e) (h1 : ¬ q (e + 1)) (h2 : ¬ q (e + 1 + 1)) (hT : ¬ q kT) : OwnP e l kT T s t B :=
  ⟨hb.boxed h.y h0, hb.boxed h.st h1, hb.boxed h.tk h2, hb.cell h.ct hT⟩
theorem OwnP.set {e l kT : Nat} {T : Value} {s : Int} {t : Bool} {A : World} (h : OwnP e l kT T s t A) (hT : kT < e) (s' : Int) (t' : Bool) : OwnP e l kT T s' t' ((A.setCell ⟨e + 1, 0, none⟩ (.int .u64 s')).setCell ⟨e + 1 + 1, 0, none⟩ (.bool t')) := by
  refine ⟨(h.y.other (by omega) _).other (by omega) _, ((h.st.set _).other (by omega) _), ((h.tk.other (by omega) _).set _), ?_⟩
  rw [World.cell?_setCell_other _ _ _ _ (fun h => by cases h; omega), World.cell?_setCell_other _ _ _ _ (fun h => by cases h; omega)]
  exact h.ct
theorem OwnP.set2 {e l kT : Nat} {T : Value} {s : Int} {t : Bool} {A : World} (h : OwnP e l kT T s t A) (hT : kT < e) (s' : Int) (t' : Bool) : OwnP e l kT T s' t' ((A.setCell ⟨e + 1 + 1, 0, none⟩ (.bool t')).setCell ⟨e + 1, 0, none⟩ (.int .u64 s')) := by
  refine ⟨(h.y.other (by omega) _).other (by omega) _, ((h.st.other (by omega) _).set _), ((h.tk.set _).other (by omega) _), ?_⟩
  rw [World.cell?_setCell_other _ _ _ _ (fun h => by cases h; omega), World.cell?_setCell_other _ _ _ _ (fun h => by cases h; omega)]
  exact h.ct
/-- The three cells of a change. -/
def ChAt (b : Nat) (x : Ch) (W : World) : Prop := At W [(b, 0, .int .u64 x.1), (b, 1, .bool x.2.1), (b, 2, .bool x.2.2)]
theorem ChAt.apart {q : Nat → Prop} {b : Nat} {x : Ch} {A B : World} (h : ChAt b x A) (hb : Apart q A B) (hn : ¬ q b) : ChAt b x B :=
  ⟨hb.cell h.1 hn, hb.cell h.2.1 hn, hb.cell h.2.2.1 hn, trivial⟩
theorem ChAt.new (W : World) (x : Ch) (t : TypeId) : ChAt W.heap.size x (W.alloc (.cells #[.int .u64 x.1, .bool x.2.1, .bool x.2.2] t)) := by
  refine ⟨?_, ?_, ?_, trivial⟩ <;> simp
/-- The call of changes: the closure over two new boxes. -/
def IsCh (s t : Value) (w : World) (e : Ending) (w' : World) : Prop :=
  e = .returned (.func (.func 85) #[] #[.pointer (some ⟨w.heap.size, 0, none⟩), .pointer (some ⟨w.heap.size + 1, 0, none⟩)]) ∧ w' = (w.alloc (.cells #[s] 41)).alloc (.cells #[t] 41)
theorem changes_call (p q : Option Addr) (m k cp cq : Nat) (w : World) : Calls Try.prog 80 #[.slice p m cp, .slice q k cq] w (IsCh (.slice p m cp) (.slice q k cq) w) := by
  go_enter Try.func80, Try.ntmps80
  go_wp2
  go_ret
  exact ⟨rfl, rfl⟩
theorem opened (W0 w5 : World) (e l kA kB kT : Nat) (T : Value) (pA pB : Option Addr) (nA nB : Nat) (a b : List Iv) (he : W0.heap.size = e) (h0 : TwoAt kA kB (.slice pA a.length nA) (.slice pB b.length nB) a b W0) (hT : W0.cell? ⟨kT, 0, none⟩ = some T)
    (h5 : ((((W0.alloc (.cells #[.func (.yield l) #[] #[]] 112)).alloc (.cells #[.int .u64 0] 29)).alloc (.cells #[.bool false] 4)).alloc (.cells #[.slice pA a.length nA] 41)).alloc (.cells #[.slice pB b.length nB] 41) = w5) :
    Below W0.heap.size W0 w5 ∧ w5.heap.size = e + 5 ∧ OwnP e l kT T 0 false w5 ∧ TwoAt (e + 1 + 1 + 1) (e + 1 + 1 + 1 + 1) (.slice pA a.length nA) (.slice pB b.length nB) a b w5 := by
  subst h5 he
  have hb := below_alloc (below_alloc (below_alloc (below_alloc (below_new W0 (.cells #[.func (.yield l) #[] #[]] 112)) (.cells #[.int .u64 0] 29)) (.cells #[.bool false] 4)) (.cells #[.slice pA a.length nA] 41)) (.cells #[.slice pB b.length nB] 41)
  have b0 := (((Boxed.new W0 112 (.func (.yield l) #[] #[])).alloc (.cells #[.int .u64 0] 29)).alloc (.cells #[.bool false] 4)).alloc (.cells #[.slice pA a.length nA] 41) |>.alloc (.cells #[.slice pB b.length nB] 41)
  have b1 := ((Boxed.new (W0.alloc (.cells #[.func (.yield l) #[] #[]] 112)) 29 (.int .u64 0)).alloc (.cells #[.bool false] 4)).alloc (.cells #[.slice pA a.length nA] 41) |>.alloc (.cells #[.slice pB b.length nB] 41)
  have b2 := (Boxed.new ((W0.alloc (.cells #[.func (.yield l) #[] #[]] 112)).alloc (.cells #[.int .u64 0] 29)) 4 (.bool false)).alloc (.cells #[.slice pA a.length nA] 41) |>.alloc (.cells #[.slice pB b.length nB] 41)
  have b3 := (Boxed.new (((W0.alloc (.cells #[.func (.yield l) #[] #[]] 112)).alloc (.cells #[.int .u64 0] 29)).alloc (.cells #[.bool false] 4)) 41 (.slice pA a.length nA)).alloc (.cells #[.slice pB b.length nB] 41)
  have b4 := Boxed.new ((((W0.alloc (.cells #[.func (.yield l) #[] #[]] 112)).alloc (.cells #[.int .u64 0] 29)).alloc (.cells #[.bool false] 4)).alloc (.cells #[.slice pA a.length nA] 41)) 41 (.slice pB b.length nB)
  simp only [World.size_alloc] at b1 b2 b3 b4
  exact ⟨hb, by simp, ⟨b0, b1, b2, keep_cell hT hb⟩, ⟨b3.cell, b4.cell, h0.la.call hb, h0.lb.call hb⟩⟩
/-- What a round owes that has stored the start and the membership. -/
theorem pieces_end0 {w5 A0 W W3 : World} {c e l kT : Nat} {T : Value} {s s' : Int} {t t' : Bool} {pre : List Iv} {front : List Ch} {J : List Iv → World → Prop} {Jx : World → Prop} {f : Bool → Bool → Bool} {C : List Ch} {L : List Iv} {x : Act}
    (hs : w5.heap.size = e + 5) (hc : c ≤ e) (hT : kT < c) (hz : e + 7 ≤ A0.heap.size) (hap : Apart (fun k => ¬ ((k < c ∨ e ≤ k ∧ k < e + 7) ∨ A0.heap.size ≤ k)) W W3) (how : OwnP e l kT T s t W3) (hJ : J pre W3)
    (hK : ∀ (front : List Iv) (A B : World), J front A → Apart (fun k => e ≤ k ∧ k < e + 7) A B → J front B) (hst : StP UM f C L pre s' t' front) :
    roundX w5.heap.size A0.heap.size (fun k => k < c ∨ k = e + 1 + 1 + 1 ∨ k = e + 1 + 1 + 1 + 1) (fun front W => ∃ pre s0 t0, StP UM f C L pre s0 t0 front ∧ J pre W ∧ OwnP e l kT T s0 t0 W) Jx front W .normal x
      ((W3.setCell ⟨e + 1, 0, none⟩ (.int .u64 s')).setCell ⟨e + 1 + 1, 0, none⟩ (.bool t')) := by
  have hk : ∀ q : Nat → Prop, q (e + 1) → q (e + 1 + 1) → Apart q W3 ((W3.setCell ⟨e + 1, 0, none⟩ (.int .u64 s')).setCell ⟨e + 1 + 1, 0, none⟩ (.bool t')) := fun q h1 h2 => (Apart.set W3 _ h1).trans (Apart.set _ _ h2)
  have h1 : ¬ ((e + 1 < c ∨ e + 1 = e + 1 + 1 + 1 ∨ e + 1 = e + 1 + 1 + 1 + 1) ∨ e + 1 = w5.heap.size ∨ e + 1 = w5.heap.size + 1 ∨ A0.heap.size ≤ e + 1) := by omega
  have h2 : ¬ ((e + 1 + 1 < c ∨ e + 1 + 1 = e + 1 + 1 + 1 ∨ e + 1 + 1 = e + 1 + 1 + 1 + 1) ∨ e + 1 + 1 = w5.heap.size ∨ e + 1 + 1 = w5.heap.size + 1 ∨ A0.heap.size ≤ e + 1 + 1) := by omega
  refine ⟨Apart.trans (B := W3) (hap.mono fun k _ h hn => h ?_) (hk (fun k => ¬ ((k < c ∨ k = e + 1 + 1 + 1 ∨ k = e + 1 + 1 + 1 + 1) ∨ k = w5.heap.size ∨ k = w5.heap.size + 1 ∨ A0.heap.size ≤ k)) h1 h2), pre, s', t', hst, hK _ _ _ hJ (hk _ (by omega) (by omega)), how.set (by omega) s' t'⟩
  have hn : (k < c ∨ k = e + 1 + 1 + 1 ∨ k = e + 1 + 1 + 1 + 1) ∨ k = w5.heap.size ∨ k = w5.heap.size + 1 ∨ A0.heap.size ≤ k := hn
  omega
theorem pieces_end {w5 A0 W W3 : World} {c e l kT : Nat} {T : Value} {s s' : Int} {t t' : Bool} {pre : List Iv} {front : List Ch} {J : List Iv → World → Prop} {Jx : World → Prop} {f : Bool → Bool → Bool} {C : List Ch} {L : List Iv} {x : Act}
    (hs : w5.heap.size = e + 5) (hc : c ≤ e) (hT : kT < c) (hz : e + 7 ≤ A0.heap.size) (hap : Apart (fun k => ¬ ((k < c ∨ e ≤ k ∧ k < e + 7) ∨ A0.heap.size ≤ k)) W W3) (how : OwnP e l kT T s t W3) (hJ : J pre W3)
    (hK : ∀ (front : List Iv) (A B : World), J front A → Apart (fun k => e ≤ k ∧ k < e + 7) A B → J front B) (hst : StP UM f C L pre s' t' front) :
    roundX w5.heap.size A0.heap.size (fun k => k < c ∨ k = e + 1 + 1 + 1 ∨ k = e + 1 + 1 + 1 + 1) (fun front W => ∃ pre s0 t0, StP UM f C L pre s0 t0 front ∧ J pre W ∧ OwnP e l kT T s0 t0 W) Jx front W .normal x
      ((W3.setCell ⟨e + 1, 0, none⟩ (.int .u64 s')).setCell ⟨e + 1 + 1, 0, none⟩ (.bool t')).drew := by
  obtain ⟨h1, pre', s1, t1, h2, h3, h4⟩ := pieces_end0 (Jx := Jx) (x := x) hs hc hT hz hap how hJ hK hst
  exact ⟨h1.trans (Apart.drew _ _), pre', s1, t1, h2, hK _ _ _ h3 (Apart.drew _ _), h4.apart (Apart.drew (fun _ => False) _) id id id id⟩
end Go.Proofs.Ytefiobfljhmkkaa
