/- Slices of errors that the law builds: what calls and appends leave of them and of the errors in memory. No conditions. -/
import Derived.Test.YtenfchkellkifaaDoorRefLeast
namespace Go.Proofs.YtenfchkellkifaaDoor
open Go.RowKit Go.Extern.Stop Go.Stop Go.Extern

theorem owns_below {w w' : World} {base : Nat} {e : TypeId} {size : Nat} {v : Value} {n : Nat} {xs : List Value} (h : w.ownsRow base e size v n xs) (hb : Below w.heap.size w w') : w'.ownsRow base e size v n xs := by
  obtain ⟨h1, h2⟩ := h
  refine ⟨h1, ?_⟩
  rcases h2 with h2 | ⟨g, cap, cur, hv, hg, hh, r⟩
  · exact Or.inl h2
  · have hlt : g < w.heap.size := by
      rcases Nat.lt_or_ge g w.heap.size with h | h
      · exact h
      · rw [Array.getElem?_eq_none h] at hh; cases hh
    exact Or.inr ⟨g, cap, cur, hv, hg, by rw [hb.block g hlt]; exact hh, r⟩

/-- The own row's first cell, and each. -/
theorem owns_cell {w : World} {base : Nat} {e : TypeId} {v : Value} {n : Nat} {xs : List Value} (h : w.ownsRow base e 1 v n xs) (hn : 0 < n) :
    ∃ g cap, v = .slice (some ⟨g, 0, none⟩) n cap ∧ base ≤ g ∧ g < w.heap.size ∧ ∀ i, i < n → w.cell? ⟨g, i, none⟩ = some (xs.getD i .nilIface) := by
  obtain ⟨hl, h2⟩ := h
  rcases h2 with ⟨_, h0⟩ | ⟨g, cap, cur, hv, hg, hh, hnc, _, hcs, ht⟩
  · omega
  · refine ⟨g, cap, hv, hg, ?_, fun i hi => ?_⟩
    · rcases Nat.lt_or_ge g w.heap.size with h | h
      · exact h
      · rw [Array.getElem?_eq_none h] at hh; cases hh
    · have hi' : i < cur.toList.length := by simp; omega
      have e1 : w.cell? ⟨g, i, none⟩ = cur[i]? := by simp [World.cell?, hh]
      rw [e1, ← ht, ← Array.getElem?_toList]
      simp only [Nat.mul_one]
      rw [List.getD_eq_getElem?_getD, List.getElem?_take_of_lt hi, List.getElem?_eq_getElem hi']
      rfl

/-- An error stays as it was where only a row without strings may be written. -/
theorem ErrV.grown {B : Nat} {W W' : World} {row : Option Nat} {b : Option (Int × Option Int)} {s : ByteArray} (hg : W.grownBy W' row) (hB : B ≤ W.heap.size)
    (hr : ∀ k, row = some k → ∀ t, W.cell? ⟨k, 0, none⟩ ≠ some (.string t)) : ∀ {ns : List ByteArray} {v : Value}, ErrV B W b s ns v → ErrV W'.heap.size W' b s ns v := by
  have key : ∀ k t i u, k < B → W.cell? ⟨k, 0, none⟩ = some (.string t) → W.cell? ⟨k, i, none⟩ = some u → W'.cell? ⟨k, i, none⟩ = some u := by
    intro k t i u hk h0 hi
    rw [World.cell?_of_block (w := W) (hg.block k (by omega) (fun e => hr k e.symm t h0))]
    exact hi
  intro ns
  induction ns with
  | nil =>
    intro v h
    cases b with
    | some x => exact h
    | none =>
      obtain ⟨k, h1, h2, h3⟩ := h
      exact ⟨k, h1, by have := hg.size; omega, key k s 0 _ h2 h3 h3⟩
  | cons n ns ih =>
    intro v h
    obtain ⟨k, u, h1, h2, h3, h4, h5⟩ := h
    exact ⟨k, u, h1, by have := hg.size; omega, key k n 0 _ h2 h3 h3, key k n 1 _ h2 h3 h4, ih h5⟩

theorem ErrN.grown {W W' : World} {row : Option Nat} {e : Option (Option (Int × Option Int))} {s : ByteArray} {ns : List ByteArray} {v : Value} (h : ErrN W e s ns v) (hg : W.grownBy W' row)
    (hr : ∀ k, row = some k → ∀ t, W.cell? ⟨k, 0, none⟩ ≠ some (.string t)) : ErrN W' e s ns v := by
  cases e with
  | none => exact h
  | some b => exact ErrV.grown hg (Nat.le_refl _) hr h

theorem ErrN.no_string {W : World} {e : Option (Option (Int × Option Int))} {s : ByteArray} {ns : List ByteArray} {v : Value} (h : ErrN W e s ns v) (t : ByteArray) : v ≠ .string t := by
  cases e with
  | none => obtain rfl : v = .nilIface := h; intro h; cases h
  | some b => obtain ⟨x, y, rfl⟩ := ErrV.not_nil h; intro h; cases h

/-- The values that the law has built behind i rounds. -/
structure Built (D : Nat → EData) (i : Nat) (vs : List Value) (errs : Value) (w wr : World) : Prop where
  len : vs.length = i
  few : ∀ k, k < i → fewB (D k).names = true
  own : wr.ownsRow w.heap.size 23 1 errs i vs
  start : i = 0 → errs = .slice none 0 0
  errors : ∀ k, k < i → ErrN wr (eOf (D k)) ⟨#[]⟩ (D k).names.reverse (vs.getD k .nilIface)
  below : Below w.heap.size w wr

theorem Built.call {D : Nat → EData} {i : Nat} {vs : List Value} {errs : Value} {w w1 w2 : World} (h : Built D i vs errs w w1) (hb : Below w1.heap.size w1 w2) : Built D i vs errs w w2 :=
  ⟨h.len, h.few, owns_below h.own hb, h.start, fun k hk => (h.errors k hk).below hb, keep_below h.below (Nat.le_refl _) hb⟩

/-- The own row holds no string. -/
theorem Built.no_string {D : Nat → EData} {i : Nat} {vs : List Value} {errs : Value} {w wr : World} (h : Built D i vs errs w wr) : ∀ k, errs.ownBlock = some k → (∀ t, wr.cell? ⟨k, 0, none⟩ ≠ some (.string t)) ∧ w.heap.size ≤ k := by
  intro k hk
  rcases Nat.eq_zero_or_pos i with h0 | h0
  · rw [h.start h0] at hk; cases hk
  · obtain ⟨g, cap, hv, hge, _, hc⟩ := owns_cell h.own h0
    rw [hv] at hk
    obtain rfl : g = k := by simpa [Value.ownBlock] using hk
    refine ⟨fun t e => ?_, hge⟩
    rw [hc 0 h0] at e
    exact (h.errors 0 h0).no_string t (by simpa using e)

/-- One element more. -/
theorem Built.append {D : Nat → EData} {i : Nat} {vs : List Value} {errs errs' v : Value} {w w1 w2 : World} (h : Built D i vs errs w w1) (hf : fewB (D i).names = true) (hv : ErrN w1 (eOf (D i)) ⟨#[]⟩ (D i).names.reverse v)
    (hown : w2.ownsRow w.heap.size 23 1 errs' (i + 1) (vs ++ [v])) (hg : w1.grownBy w2 errs.ownBlock) : Built D (i + 1) (vs ++ [v]) errs' w w2 := by
  have hns := h.no_string
  refine ⟨by simp [h.len], fun k hk => ?_, hown, fun e => by omega, fun k hk => ?_, h.below.grown hg h.below.size (fun k hk => (hns k hk).2)⟩
  · rcases Nat.lt_or_ge k i with h1 | h1
    · exact h.few k h1
    · obtain rfl : k = i := by omega
      exact hf
  · rcases Nat.lt_or_ge k i with h1 | h1
    · have := (h.errors k h1).grown hg (fun k hk => (hns k hk).1)
      have e : (vs ++ [v]).getD k .nilIface = vs.getD k .nilIface := by
        simp [List.getElem?_append_left (show k < vs.length by rw [h.len]; exact h1)]
      rw [e]; exact this
    · obtain rfl : k = i := by omega
      have e : (vs ++ [v]).getD k .nilIface = v := by
        simp [h.len]
      rw [e]; exact hv.grown hg (fun k hk => (hns k hk).1)

/-- The slice as Least takes it. -/
theorem Built.slice {D : Nat → EData} {i : Nat} {vs : List Value} {errs : Value} {w wr : World} (h : Built D i vs errs w wr) (hi : i ≤ 1000) :
    ErrsAt wr errs i (fun k => eOf (D k)) (fun k => (D k).names.reverse) (fun k => vs.getD k .nilIface) := by
  rcases Nat.eq_zero_or_pos i with h0 | h0
  · have e := h.start h0
    subst h0
    exact ⟨none, 0, e, hi, fun hn => absurd hn (Nat.lt_irrefl _), fun k hk => absurd hk (Nat.not_lt_zero _)⟩
  · obtain ⟨g, cap, hv, _, hgs, hc⟩ := owns_cell h.own h0
    exact ⟨some ⟨g, 0, none⟩, cap, hv, hi, fun _ => ⟨g, rfl, hgs, hc⟩, h.errors⟩

/-- Five cells in a row that came in, kept across a call. -/
theorem row_call {W w1 w2 : World} {b q : Nat} {v0 v1 v2 v3 v4 : Value}
    (h : Below W.heap.size W w1 ∧ w1.cell? ⟨b, q, none⟩ = some v0 ∧ w1.cell? ⟨b, q + 1, none⟩ = some v1 ∧ w1.cell? ⟨b, q + 2, none⟩ = some v2 ∧ w1.cell? ⟨b, q + 3, none⟩ = some v3 ∧ w1.cell? ⟨b, q + 4, none⟩ = some v4)
    (hb : Hid (Below w1.heap.size w1 w2)) :
    Below W.heap.size W w2 ∧ w2.cell? ⟨b, q, none⟩ = some v0 ∧ w2.cell? ⟨b, q + 1, none⟩ = some v1 ∧ w2.cell? ⟨b, q + 2, none⟩ = some v2 ∧ w2.cell? ⟨b, q + 3, none⟩ = some v3 ∧ w2.cell? ⟨b, q + 4, none⟩ = some v4 :=
  ⟨keep_below h.1 (Nat.le_refl _) hb.out, keep_cell h.2.1 hb.out, keep_cell h.2.2.1 hb.out, keep_cell h.2.2.2.1 hb.out, keep_cell h.2.2.2.2.1 hb.out, keep_cell h.2.2.2.2.2 hb.out⟩
theorem row_drew {W w1 : World} {b q : Nat} {v0 v1 v2 v3 v4 : Value}
    (h : Below W.heap.size W w1 ∧ w1.cell? ⟨b, q, none⟩ = some v0 ∧ w1.cell? ⟨b, q + 1, none⟩ = some v1 ∧ w1.cell? ⟨b, q + 2, none⟩ = some v2 ∧ w1.cell? ⟨b, q + 3, none⟩ = some v3 ∧ w1.cell? ⟨b, q + 4, none⟩ = some v4) :
    Below W.heap.size W w1.drew ∧ w1.drew.cell? ⟨b, q, none⟩ = some v0 ∧ w1.drew.cell? ⟨b, q + 1, none⟩ = some v1 ∧ w1.drew.cell? ⟨b, q + 2, none⟩ = some v2 ∧ w1.drew.cell? ⟨b, q + 3, none⟩ = some v3 ∧ w1.drew.cell? ⟨b, q + 4, none⟩ = some v4 :=
  row_call h (Below.refl _ _).drew
end Go.Proofs.YtenfchkellkifaaDoor
