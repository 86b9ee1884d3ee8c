/- The reference's entries: correct, canonical, out of a list, the canonical form. Conditions: as each theorem says. -/
import Derived.Test.YtgeggdaokjimjaaDoorNRef
import Derived.Test.YtgeggdaokjimjaaDoorORef
import Derived.Test.YtgeggdaokjimjaaDoorRIv
namespace Go.Proofs.YtgeggdaokjimjaaDoor
open Go.RowKit
theorem code_some {m : Int} {H : List Iv} {e : Int × Option Int} (h : chkN m H = some e) : e.1 ≠ 0 := by
  unfold chkN at h
  cases hc : chkV H with
  | some x =>
    rw [hc] at h
    obtain rfl := Option.some.inj h
    unfold chkV at hc
    cases hk : chkL H with
    | none => rw [hk] at hc; cases hc
    | some x =>
      rw [hk] at hc
      obtain rfl := Option.some.inj hc
      unfold chkL at hk
      obtain ⟨i, _, hi⟩ := List.exists_of_findSome?_eq_some hk
      split at hi
      · cases hi
      · rename_i hn
        obtain rfl := Option.some.inj hi
        exact hn
  | none =>
    rw [hc] at h
    cases hb : beyond m H with
    | none => rw [hb] at h; cases h
    | some i => rw [hb] at h; obtain rfl := Option.some.inj h; show (4 : Int) ≠ 0; decide
/-- An entry is correct. -/
def okN (m : Int) (H : List Iv) : Bool := (chkN m H).isNone
theorem okN_good {m : Int} {H : List Iv} (h : GoodE m H) : okN m H = true := by unfold okN; rw [chkN_good h]; rfl
theorem okN_iff {m : Int} {H : List Iv} (h64 : All64 H) (hm : 0 ≤ m ∧ m ≤ UM) : okN m H = true ↔ GoodE m H := by
  rw [← chkN_iff h64 hm]; unfold okN; cases chkN m H <;> simp
theorem okN_code (m : Int) (H : List Iv) : (codeE (chkN m H) == 0) = okN m H := by
  unfold okN
  cases h : chkN m H with
  | none => rfl
  | some e => have := code_some h; simp [codeE, this]
/-- A list of a call's own whose numbers may be written: its block lies from B on. -/
def SoftE (w : World) (B : Nat) (v : Value) (n : Nat) : Prop :=
  ∃ p cap, v = .slice p n cap ∧ n ≤ maxLen ∧ (0 < n → ∃ g o, p = some ⟨g, o, none⟩ ∧ B ≤ g ∧ ∀ i, i < n →
    ((∃ z : Int, w.cell? ⟨g, o + i * 2, none⟩ = some (.int .u64 z)) ∧ w.frozen? ⟨g, o + i * 2, none⟩ = false) ∧ (∃ z : Int, w.cell? ⟨g, o + i * 2 + 1, none⟩ = some (.int .u64 z)) ∧ w.frozen? ⟨g, o + i * 2 + 1, none⟩ = false)
theorem softE_own {w : World} {B : Nat} {v : Value} {L : List Iv} (h : OwnL w B v L) : SoftE w B v L.length := by
  have hrow : w.ownsRow B 49 2 v L.length (ivC L) := h
  rcases hrow.2 with ⟨rfl, h0⟩ | ⟨g, cap, cur, rfl, hbg, hg, hnc, hcm, _⟩
  · rw [h0]; exact ⟨none, 0, rfl, Nat.zero_le _, fun h => absurd h (Nat.lt_irrefl 0)⟩
  · refine ⟨_, cap, rfl, Nat.le_trans hnc hcm, fun _ => ⟨g, 0, rfl, hbg, fun i hi => ?_⟩⟩
    have hx : L[i]? = some L[i] := by simp [hi]
    rw [Nat.zero_add]
    exact ⟨⟨⟨L[i].1, by rw [hrow.cellAt (i * 2) (by omega)]; exact (ivC_at L i _ hx).1⟩, hrow.frozenAt _⟩, ⟨L[i].2, by rw [hrow.cellAt (i * 2 + 1) (by omega)]; exact (ivC_at L i _ hx).2⟩, hrow.frozenAt _⟩
def repE (r : Int) (L : List Iv) : Int := if L = [] then 0 else r
def someE (L : List Iv) : Bool := !L.isEmpty
theorem ivs_nil (w : World) : IvsAt w (.slice none 0 0) [] := ⟨none, 0, rfl, by simp, fun h => absurd rfl h⟩
theorem soft_nil (w : World) (B : Nat) : SoftE w B (.slice none 0 0) 0 := ⟨none, 0, rfl, Nat.zero_le _, fun h => absurd h (Nat.lt_irrefl 0)⟩
theorem own_set {W : World} {B b o : Nat} {v : Value} {L : List Iv} (h : OwnL W B v L) (hb : b < B) (u : Value) : OwnL (W.setCell ⟨b, o, none⟩ u) B v L := by
  have hrow : W.ownsRow B 49 2 v L.length (ivC L) := h
  refine World.ownsRow.kept hrow (row := some b) ⟨rfl, rfl, rfl, by simp, fun k _ hk => Below.heap_setCell _ _ _ k (fun e => hk (by rw [e]))⟩ ?_
  rcases hrow.2 with ⟨rfl, _⟩ | ⟨g, cap, cur, rfl, hbg, _⟩
  · exact .inl rfl
  · refine .inr fun e => ?_
    have h1 : g = b := Option.some.inj e
    omega
theorem three_stored {w : World} {b : Nat} {x y z : Value} (h0 : w.cell? ⟨b, 0, none⟩ = some x) (h1 : w.cell? ⟨b, 1, none⟩ = some y) (h2 : w.cell? ⟨b, 2, none⟩ = some z) (u v t : Value) :
    (((w.setCell ⟨b, 0, none⟩ u).setCell ⟨b, 1, none⟩ v).setCell ⟨b, 2, none⟩ t).cell? ⟨b, 0, none⟩ = some u ∧ (((w.setCell ⟨b, 0, none⟩ u).setCell ⟨b, 1, none⟩ v).setCell ⟨b, 2, none⟩ t).cell? ⟨b, 1, none⟩ = some v ∧
      (((w.setCell ⟨b, 0, none⟩ u).setCell ⟨b, 1, none⟩ v).setCell ⟨b, 2, none⟩ t).cell? ⟨b, 2, none⟩ = some t := by
  refine ⟨?_, ?_, ?_⟩
  · rw [World.cell?_setCell_other _ _ _ _ (by simp), World.cell?_setCell_other _ _ _ _ (by simp)]; exact World.cell?_setCell_same' _ _ _ (by rw [h0]; rfl)
  · rw [World.cell?_setCell_other _ _ _ _ (by simp)]; exact World.cell?_setCell_same' _ _ _ (by rw [World.cell?_setCell_other _ _ _ _ (by simp), h1]; rfl)
  · exact World.cell?_setCell_same' _ _ _ (by rw [World.cell?_setCell_other _ _ _ _ (by simp), World.cell?_setCell_other _ _ _ _ (by simp), h2]; rfl)
theorem soft_set {w : World} {B b o : Nat} {v : Value} {L : List Iv} (h : IvsAt w v L ∧ SoftE w B v L.length) (hb : b < B) (u : Value) : IvsAt (w.setCell ⟨b, o, none⟩ u) v L ∧ SoftE (w.setCell ⟨b, o, none⟩ u) B v L.length := by
  obtain ⟨⟨p, cap, h1, h2, h3⟩, ⟨p', cap', k1, k2, k3⟩⟩ := h
  rw [h1] at k1
  cases k1
  have far : ∀ (g j : Nat), B ≤ g → (w.setCell ⟨b, o, none⟩ u).cell? ⟨g, j, none⟩ = w.cell? ⟨g, j, none⟩ := fun g j hg => World.cell?_setCell_other _ _ _ _ (fun e => by cases e; omega)
  have ff : ∀ (g j : Nat), B ≤ g → (w.setCell ⟨b, o, none⟩ u).frozen? ⟨g, j, none⟩ = w.frozen? ⟨g, j, none⟩ := fun g j hg => by
    unfold World.frozen?
    rw [Below.heap_setCell _ _ _ g (fun e => by have : g = b := e; omega)]
  refine ⟨⟨p, cap, h1, h2, fun hne => ?_⟩, ⟨p, cap, h1, k2, fun hn => ?_⟩⟩
  · obtain ⟨g, j, e, h6⟩ := h3 hne
    obtain ⟨g', j', e', hB, _⟩ := k3 (List.length_pos_iff.2 hne)
    rw [e] at e'
    cases e'
    exact ⟨g, j, e, fun i x hx => ⟨by rw [far _ _ hB]; exact (h6 i x hx).1, by rw [far _ _ hB]; exact (h6 i x hx).2⟩⟩
  · obtain ⟨g, j, e, hB, h7⟩ := k3 hn
    refine ⟨g, j, e, hB, fun i hi => ?_⟩
    obtain ⟨⟨⟨z, hz⟩, hf⟩, ⟨y, hy⟩, hg⟩ := h7 i hi
    exact ⟨⟨⟨z, by rw [far _ _ hB]; exact hz⟩, by rw [ff _ _ hB]; exact hf⟩, ⟨y, by rw [far _ _ hB]; exact hy⟩, by rw [ff _ _ hB]; exact hg⟩
theorem r1_call {W w1 w2 : World} {p q t : Addr} {a b c : Value} (h : Below W.heap.size W w1 ∧ w1.cell? p = some a ∧ w1.cell? q = some b ∧ w1.cell? t = some c) (hb : Hid (Below w1.heap.size w1 w2)) :
    Below W.heap.size W w2 ∧ w2.cell? p = some a ∧ w2.cell? q = some b ∧ w2.cell? t = some c := ⟨below_call h.1 hb.out, keep_cell h.2.1 hb.out, keep_cell h.2.2.1 hb.out, keep_cell h.2.2.2 hb.out⟩
theorem r1_drew {W w1 : World} {p q t : Addr} {a b c : Value} (h : Below W.heap.size W w1 ∧ w1.cell? p = some a ∧ w1.cell? q = some b ∧ w1.cell? t = some c) :
    Below W.heap.size W w1.drew ∧ w1.drew.cell? p = some a ∧ w1.drew.cell? q = some b ∧ w1.drew.cell? t = some c := r1_call h (Lib.hid (Below.refl _ _).drew)
theorem r1_set {W w1 : World} {p q t : Addr} {a b c : Value} {g : Nat} (h : Below W.heap.size W w1 ∧ w1.cell? p = some a ∧ w1.cell? q = some b ∧ w1.cell? t = some c) (hg : W.heap.size ≤ g) (hp : p.block ≠ g) (hq : q.block ≠ g) (ht : t.block ≠ g) (x y z : Value) :
    Below W.heap.size W (((w1.setCell ⟨g, 0, none⟩ x).setCell ⟨g, 1, none⟩ y).setCell ⟨g, 2, none⟩ z) ∧ (((w1.setCell ⟨g, 0, none⟩ x).setCell ⟨g, 1, none⟩ y).setCell ⟨g, 2, none⟩ z).cell? p = some a ∧ (((w1.setCell ⟨g, 0, none⟩ x).setCell ⟨g, 1, none⟩ y).setCell ⟨g, 2, none⟩ z).cell? q = some b ∧
      (((w1.setCell ⟨g, 0, none⟩ x).setCell ⟨g, 1, none⟩ y).setCell ⟨g, 2, none⟩ z).cell? t = some c := by
  have far : ∀ k : Addr, k.block ≠ g → (((w1.setCell ⟨g, 0, none⟩ x).setCell ⟨g, 1, none⟩ y).setCell ⟨g, 2, none⟩ z).cell? k = w1.cell? k := fun k hk => by
    rw [World.cell?_setCell_other _ _ _ _ (fun e => hk (by rw [← e])), World.cell?_setCell_other _ _ _ _ (fun e => hk (by rw [← e])), World.cell?_setCell_other _ _ _ _ (fun e => hk (by rw [← e]))]
  exact ⟨((h.1.setCell (p := ⟨g, 0, none⟩) hg _).setCell (p := ⟨g, 1, none⟩) hg _).setCell (p := ⟨g, 2, none⟩) hg _, by rw [far _ hp]; exact h.2.1, by rw [far _ hq]; exact h.2.2.1, by rw [far _ ht]; exact h.2.2.2⟩
end Go.Proofs.YtgeggdaokjimjaaDoor
