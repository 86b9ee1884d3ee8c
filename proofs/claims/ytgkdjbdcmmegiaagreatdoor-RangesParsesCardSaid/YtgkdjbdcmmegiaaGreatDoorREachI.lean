/- What a loop over the parts of a text keeps that appends to a slice of its own. No conditions. -/
import Derived.Test.YtgkdjbdcmmegiaaGreatDoorRLoop
import Derived.Test.YtgkdjbdcmmegiaaGreatDoorROwn
namespace Go.Proofs.YtgkdjbdcmmegiaaGreatDoor
open Go.RowKit Go.Shelf

theorem splitL_part (c : UInt8) : ∀ (s x : List UInt8), x ∈ splitL c s → x.length ≤ s.length := by
  intro s
  induction s with
  | nil => intro x h; simp [splitL] at h; subst h; simp
  | cons b r ih =>
    intro x h
    rw [splitL] at h
    split at h
    · rcases List.mem_cons.1 h with h | h
      · subst h; simp
      · have := ih x h; simp; omega
    · cases hr : splitL c r with
      | nil => exact absurd hr (splitL_ne c r)
      | cons p ps =>
        rw [hr] at h ih
        rcases List.mem_cons.1 h with h | h
        · subst h
          have := ih p (by simp)
          simp; omega
        · have := ih x (List.mem_cons_of_mem _ h); simp; omega
theorem splitL_count (c : UInt8) : ∀ s : List UInt8, (splitL c s).length ≤ s.length + 1 := by
  intro s
  induction s with
  | nil => simp [splitL]
  | cons b r ih =>
    rw [splitL]
    split
    · simp; omega
    · cases hr : splitL c r with
      | nil => simp
      | cons p ps => rw [hr] at ih; simp at ih ⊢; omega
theorem Boxed.own {W W' : World} {row : Option Nat} {b : Nat} {t : TypeId} {v : Value} (h : Boxed W b t v) (hg : W.grownBy W' row) (hr : ∀ r, row = some r → ∃ o : Obj, W.heap[r]? = some o ∧ o.isCells = false) : Boxed W' b t v :=
  (grownBy_keeps_cells hg hr h rfl).trans h
theorem ownsRow_block {W : World} {base : Nat} {e : TypeId} {size : Nat} {v : Value} {k : Nat} {xs : List Value} (h : W.ownsRow base e size v k xs) {j : Nat} (hj : j < base) : some j ≠ v.ownBlock := by
  rcases h.2 with ⟨rfl, _⟩ | ⟨g, cap, cur, rfl, h2, _⟩
  · simp [Value.ownBlock]
  · simp only [Value.ownBlock]
    intro e'
    have := Option.some.inj e'
    omega
theorem KpS.append {kb bl : Nat} {W w1 : World} {tmp : Obj} {base : Nat} {e : TypeId} {size : Nat} {v v' : Value} {k : Nat} {xs : List Value} (hrow : W.ownsRow base e size v k xs) (hgrow : (W.alloc tmp).grownBy w1 v.ownBlock)
    (hkb : kb + 2 < base) (hW : base ≤ W.heap.size) (hbl : bl < kb) : KpS kb W (w1.setCell ⟨bl, 0, none⟩ v') := by
  intro j hj
  have h1 : (W.alloc tmp).heap[kb + j]? = W.heap[kb + j]? := (World.grownBy_alloc W tmp none).block _ (by omega) (by simp)
  have h2 : w1.heap[kb + j]? = (W.alloc tmp).heap[kb + j]? := hgrow.block _ (by simp; omega) (ownsRow_block hrow (by omega))
  have h3 : (w1.setCell ⟨bl, 0, none⟩ v').heap[kb + j]? = w1.heap[kb + j]? := (grownBy_setCell' w1 bl v').block _ (by have := hgrow.size; simp at this; omega) (by simp; omega)
  rw [h3, h2, h1]
theorem KpS.below {kb : Nat} {A B : World} (h : Below A.heap.size A B) (hk : kb + 2 < A.heap.size) : KpS kb A B := fun j _ => h.block _ (by omega)
theorem KpS.refl (kb : Nat) (A : World) : KpS kb A A := fun _ _ => rfl

/-- The boxes of the function read, of the two results and of the list; the list's elements; what lay before. -/
structure EachI (h : Nat) (tR tL tE : TypeId) (rd : Value) (size : Nat) (good : List UInt8 → Bool) (cs : List UInt8 → List Value) (w : World) (front : List (List UInt8)) (W : World) : Prop where
  read : Boxed W h tR rd
  r0 : Boxed W (h + 1) tL (.slice none 0 0)
  r1 : Boxed W (h + 1 + 1) 26 .nilIface
  row : ∃ v, Boxed W (h + 1 + 1 + 1) tL v ∧ W.ownsRow (h + 7) tE size v front.length (front.flatMap cs)
  all : ∀ p ∈ front, good p = true
  size : h + 7 ≤ W.heap.size
  below : Below h w W
section
variable {h : Nat} {tR tL tE : TypeId} {rd : Value} {size : Nat} {good : List UInt8 → Bool} {cs : List UInt8 → List Value} {w : World}
theorem EachI.own (hw : h ≤ w.heap.size) (B : Nat) (hB : h ≤ B) : OwnFrom B (EachI h tR tL tE rd size good cs w) := by
  intro front W W' row hs hg hr
  have hr' : ∀ r, row = some r → ∃ o : Obj, W.heap[r]? = some o ∧ o.isCells = false := fun r e => (hr r e).2
  refine ⟨Boxed.own hs.read hg hr', Boxed.own hs.r0 hg hr', Boxed.own hs.r1 hg hr', ?_, hs.all, Nat.le_trans hs.size hg.size, ownFrom_below hw hB () _ _ _ hs.below hg hr⟩
  obtain ⟨v, h1, h2, _⟩ := holdsRow_own (h + 7) (h + 1 + 1 + 1) tL tE size (fun f : List (List UInt8) => f.length) (fun f => f.flatMap cs) (fun _ _ => True) front W W' row (by obtain ⟨v, a, b⟩ := hs.row; exact ⟨v, a, b, trivial⟩) hg hr'
  exact ⟨v, h1, h2⟩
theorem EachI.set {front : List (List UInt8)} {W : World} (hs : EachI h tR tL tE rd size good cs w front W) (v : Value) : EachI h tR tL tE rd size good cs w front (W.setCell ⟨h + 1 + 1 + 1 + 1, 0, none⟩ v) := by
  obtain ⟨u, h1, h2⟩ := hs.row
  exact ⟨hs.read.other (by omega) v, hs.r0.other (by omega) v, hs.r1.other (by omega) v, ⟨u, h1.other (by omega) v, h2.kept (grownBy_setCell' W _ v) (.inr (ownsRow_block h2 (by omega)).symm)⟩, hs.all, by simpa using hs.size, hs.below.setCell (p := ⟨h + 1 + 1 + 1 + 1, 0, none⟩) (by simp; omega) v⟩
/-- Behind a call that leaves what lay. -/
theorem EachI.call {front : List (List UInt8)} {W W' : World} (hs : EachI h tR tL tE rd size good cs w front W) (hb : Below W.heap.size W W') (hw : h = w.heap.size) : EachI h tR tL tE rd size good cs w front W' := by
  obtain ⟨u, h1, h2⟩ := hs.row
  have k : ∀ {b t v}, Boxed W b t v → Boxed W' b t v := fun q => (hb.block _ q.lt).trans q
  exact ⟨k hs.read, k hs.r0, k hs.r1, ⟨u, k h1, own_below h2 hb⟩, hs.all, Nat.le_trans hs.size hb.size, by subst hw; exact below_call hs.below hb⟩
/-- Behind a round that has appended. -/
theorem EachI.stepped {front : List (List UInt8)} {x : List UInt8} {W W0 w1 : World} {tmp : Obj} {v v' : Value} {n : Nat} {ys : List Value} (hs : EachI w.heap.size tR tL tE rd size good cs w front W) (hgd : good x = true)
    (hv : Boxed W (w.heap.size + 1 + 1 + 1) tL v) (hte : tL ≠ tE) (hrow : W.ownsRow (w.heap.size + 7) tE size v front.length (front.flatMap cs)) (hown' : w1.ownsRow (w.heap.size + 7) tE size v' n ys) (hgrow : (W.alloc tmp).grownBy w1 v.ownBlock)
    (hn : n = front.length + 1) (hys : ys = front.flatMap cs ++ cs x) :
    KeepsFrom W0.heap.size W (w1.setCell ⟨w.heap.size + 1 + 1 + 1, 0, none⟩ v') ∧ KpS (w.heap.size + 1 + 1 + 1 + 1) W (w1.setCell ⟨w.heap.size + 1 + 1 + 1, 0, none⟩ v') ∧
      EachI w.heap.size tR tL tE rd size good cs w (front ++ [x]) (w1.setCell ⟨w.heap.size + 1 + 1 + 1, 0, none⟩ v') := by
  have hsz := hs.size
  obtain ⟨hv1, hv2, ho2, hk2, hb2⟩ := hv.appended hte (own_base hrow (B' := w.heap.size) (by omega)) (by omega) (by omega) (own_base hown' (B' := w.heap.size) (by omega)) hgrow
  have keep : ∀ {b t u}, b < w.heap.size + 7 → b ≠ w.heap.size + 1 + 1 + 1 → Boxed W b t u → Boxed (w1.setCell ⟨w.heap.size + 1 + 1 + 1, 0, none⟩ v') b t u := fun hb hne q => (((q.alloc tmp).kept hgrow (ownsRow_block hrow hb)).other hne v')
  subst hn hys
  refine ⟨hk2.from _, KpS.append hrow hgrow (by omega) hsz (by omega), keep (by omega) (by omega) hs.read, keep (by omega) (by omega) hs.r0, keep (by omega) (by omega) hs.r1, ⟨v', hv2, ?_⟩, ?_, ?_, hs.below.trans hb2⟩
  · have h1 := hown'.kept (grownBy_setCell' w1 (w.heap.size + 1 + 1 + 1) v') (.inr (hv1.not_row hte hown').symm)
    simpa using h1
  · intro p hp
    rcases List.mem_append.1 hp with h | h
    · exact hs.all p h
    · rw [List.mem_singleton.1 h]; exact hgd
  · have h1 := hgrow.size
    simp at h1 ⊢
    omega
theorem KeepsFrom.below {B : Nat} {W Wm : World} (hb : Below W.heap.size W Wm) : KeepsFrom B W Wm := ⟨hb.size, fun j _ _ hj _ => (hb.block j (Array.getElem?_eq_some_iff.1 hj).1).trans hj⟩
/-- The same behind a call and new blocks. -/
theorem EachI.stepped2 {front : List (List UInt8)} {x : List UInt8} {W Wm W0 w1 : World} {tmp : Obj} {v v' : Value} {n : Nat} {ys : List Value} (hs : EachI w.heap.size tR tL tE rd size good cs w front W) (hb : Below W.heap.size W Wm) (hgd : good x = true)
    (hv : Boxed Wm (w.heap.size + 1 + 1 + 1) tL v) (hte : tL ≠ tE) (hrow : Wm.ownsRow (w.heap.size + 7) tE size v front.length (front.flatMap cs)) (hown' : w1.ownsRow (w.heap.size + 7) tE size v' n ys) (hgrow : (Wm.alloc tmp).grownBy w1 v.ownBlock)
    (hn : n = front.length + 1) (hys : ys = front.flatMap cs ++ cs x) :
    KeepsFrom W0.heap.size W (w1.setCell ⟨w.heap.size + 1 + 1 + 1, 0, none⟩ v') ∧ KpS (w.heap.size + 1 + 1 + 1 + 1) W (w1.setCell ⟨w.heap.size + 1 + 1 + 1, 0, none⟩ v') ∧
      EachI w.heap.size tR tL tE rd size good cs w (front ++ [x]) (w1.setCell ⟨w.heap.size + 1 + 1 + 1, 0, none⟩ v') := by
  have hsz := hs.size
  obtain ⟨h1, h2, h3⟩ := EachI.stepped (W0 := W0) (hs.call hb rfl) hgd hv hte hrow hown' hgrow hn hys
  exact ⟨(KeepsFrom.below hb).trans h1, (KpS.below hb (by omega)).trans h2, h3⟩
end
/-- What the loop has stored where it stops. -/
structure EachX (h : Nat) (tL : TypeId) (ev : Int → Value) (P : List (List UInt8)) (good : List UInt8 → Bool) (w W : World) : Prop where
  at_ : ∃ (i : Nat) (x : List UInt8), P[i]? = some x ∧ good x = false ∧ (∀ (j : Nat) y, j < i → P[j]? = some y → good y = true) ∧ Boxed W (h + 1) tL (.slice none 0 0) ∧ Boxed W (h + 1 + 1) 26 (ev i)
  below : Below h w W
theorem EachX.own {h : Nat} {tL : TypeId} {ev : Int → Value} {P : List (List UInt8)} {good : List UInt8 → Bool} {w : World} (hw : h ≤ w.heap.size) (B : Nat) (hB : h ≤ B) : OwnFrom B (fun (_ : Unit) W => EachX h tL ev P good w W) := by
  intro _ W W' row hs hg hr
  have hr' : ∀ r, row = some r → ∃ o : Obj, W.heap[r]? = some o ∧ o.isCells = false := fun r e => (hr r e).2
  obtain ⟨i, x, h1, h2, h3, h4, h5⟩ := hs.at_
  exact ⟨⟨i, x, h1, h2, h3, Boxed.own h4 hg hr', Boxed.own h5 hg hr'⟩, ownFrom_below hw hB () _ _ _ hs.below hg hr⟩
theorem EachX.stored {tR tL tE : TypeId} {rd : Value} {size : Nat} {good : List UInt8 → Bool} {cs : List UInt8 → List Value} {w W wc : World} {front P : List (List UInt8)} {x : List UInt8} {ev : Int → Value} {u : Value} (B : Nat)
    (hs : EachI w.heap.size tR tL tE rd size good cs w front W) (hgd : good x = false) (hb : Below W.heap.size W wc) (hu : u = ev front.length)
    (hP : P[front.length]? = some x ∧ ∀ (j : Nat) y, j < front.length → P[j]? = some y → good y = true) :
    KeepsFrom B W ((wc.setCell ⟨w.heap.size + 1, 0, none⟩ (.slice none 0 0)).setCell ⟨w.heap.size + 1 + 1, 0, none⟩ u) ∧
      EachX w.heap.size tL ev P good w ((wc.setCell ⟨w.heap.size + 1, 0, none⟩ (.slice none 0 0)).setCell ⟨w.heap.size + 1 + 1, 0, none⟩ u) := by
  subst hu
  have k : ∀ {b t v}, Boxed W b t v → Boxed wc b t v := fun q => (hb.block _ q.lt).trans q
  refine ⟨?_, ⟨front.length, x, hP.1, hgd, hP.2, ((k hs.r0).set _).other (by omega) _, ((k hs.r1).other (by omega) _).set _⟩, ?_⟩
  · have h1 : KeepsOthers W wc := ⟨hb.size, fun j o hj _ => (hb.block j (Array.getElem?_eq_some_iff.1 hj).1).trans hj⟩
    exact ((h1.trans (KeepsOthers.setCell _ _ _)).trans (KeepsOthers.setCell _ _ _)).from B
  · have h1 := below_call hs.below hb
    exact (h1.setCell (p := ⟨w.heap.size + 1, 0, none⟩) (by simp) _).setCell (p := ⟨w.heap.size + 1 + 1, 0, none⟩) (by simp; omega) _
theorem EachX.stored2 {tR tL tE : TypeId} {rd : Value} {size : Nat} {good : List UInt8 → Bool} {cs : List UInt8 → List Value} {w W Wm wc : World} {front P : List (List UInt8)} {x : List UInt8} {ev : Int → Value} {u : Value} (B : Nat)
    (hs : EachI w.heap.size tR tL tE rd size good cs w front W) (hm : Below W.heap.size W Wm) (hgd : good x = false) (hb : Below Wm.heap.size Wm wc) (hu : u = ev front.length)
    (hP : P[front.length]? = some x ∧ ∀ (j : Nat) y, j < front.length → P[j]? = some y → good y = true) :
    KeepsFrom B W ((wc.setCell ⟨w.heap.size + 1, 0, none⟩ (.slice none 0 0)).setCell ⟨w.heap.size + 1 + 1, 0, none⟩ u) ∧
      EachX w.heap.size tL ev P good w ((wc.setCell ⟨w.heap.size + 1, 0, none⟩ (.slice none 0 0)).setCell ⟨w.heap.size + 1 + 1, 0, none⟩ u) := by
  obtain ⟨h1, h2⟩ := EachX.stored B (hs.call hm rfl) hgd hb hu hP
  exact ⟨(KeepsFrom.below hm).trans h1, h2⟩
theorem first_bad {P front : List (List UInt8)} {x : List UInt8} {good : List UInt8 → Bool} (hp : front ++ [x] <+: P) (hall : ∀ p ∈ front, good p = true) :
    P[front.length]? = some x ∧ ∀ (j : Nat) y, j < front.length → P[j]? = some y → good y = true := by
  obtain ⟨r, rfl⟩ := hp
  refine ⟨by simp, fun j y hj hy => ?_⟩
  rw [List.append_assoc, List.getElem?_append_left hj] at hy
  exact hall y (List.mem_of_getElem? hy)
theorem results_cell2 {fn : Func} {p u : Tmp} {ty tu : TypeId} (h : fn.results = #[.cell p ty, .cell u tu]) (tmps : Array Value) (P : Program) (w : World) (a b : Addr) (x y : Value) (hp : tmps.getD p undef = .pointer (some a)) (hu : tmps.getD u undef = .pointer (some b))
    (hx : (loadVar ty a).run P w = .ok x w) (hy : (loadVar tu b).run P w = .ok y w) : (results fn tmps).run P w = .ok (.tuple #[x, y]) w := by
  have ha : ∀ (v : Value) (c : Addr), v = .pointer (some c) → (asAddr v).run P w = .ok c w := fun v c e => by subst e; rfl
  have h1 : (asAddr (tmps[p]?.getD undef)).run P w = .ok a w := by simpa using ha _ _ hp
  have h2 : (asAddr (tmps[u]?.getD undef)).run P w = .ok b w := by simpa using ha _ _ hu
  simp only [results, h]
  simp [Sem.run_bind, Result.andThen, h1, h2, hx, hy]
end Go.Proofs.YtgkdjbdcmmegiaaGreatDoor
