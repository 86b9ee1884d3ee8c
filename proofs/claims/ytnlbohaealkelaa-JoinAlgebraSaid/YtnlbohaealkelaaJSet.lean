/- What the laws of layer 8 ask of package join, and the look at all their arguments. No conditions of its own. -/
import Derived.Test.YtnlbohaealkelaaJRef2
namespace Go.Proofs.Ytnlbohaealkelaa
open Go.RowKit
/-- A call that returns an entry of its own. -/
def IsEA (r : Int) (L : List Iv) (w : World) (e : Ending) (w' : World) : Prop :=
  ∃ v, e = .returned (.agg #[.int .u64 (repE r L), .int .u64 (topL L), v]) ∧ IvsAt w' v (holesL L) ∧ SaneE v ∧ SoftE w' w.heap.size v (holesL L).length ∧ Below w.heap.size w w'
/-- The contracts of package join. -/
structure JoinC : Prop where
  uni : ∀ (r ma mb : Int) (A B : List Iv) (sa sb : Value) (w : World), EntAt w sa ma A → EntAt w sb mb B → Calls Try.prog 10 #[.agg #[.int .u64 r, .int .u64 ma, sa], .agg #[.int .u64 r, .int .u64 mb, sb]] w (IsEO r (orL (knownL ma A) (knownL mb B)) w)
  meet : ∀ (r ma mb : Int) (A B : List Iv) (sa sb : Value) (w : World), EntAt w sa ma A → EntAt w sb mb B → Calls Try.prog 11 #[.agg #[.int .u64 r, .int .u64 ma, sa], .agg #[.int .u64 r, .int .u64 mb, sb]] w (IsEO r (andL (knownL ma A) (knownL mb B)) w)
  minus : ∀ (r ma mb : Int) (A B : List Iv) (sa sb : Value) (w : World), EntAt w sa ma A → EntAt w sb mb B → Calls Try.prog 12 #[.agg #[.int .u64 r, .int .u64 ma, sa], .agg #[.int .u64 r, .int .u64 mb, sb]] w (IsEO r (subL (knownL ma A) (knownL mb B)) w)
  sub : ∀ (r ma mb : Int) (A B : List Iv) (sa sb : Value) (w : World), EntAt w sa ma A → EntAt w sb mb B → Calls Try.prog 15 #[.agg #[.int .u64 r, .int .u64 ma, sa], .agg #[.int .u64 r, .int .u64 mb, sb]] w (IsEnd (decide (subL (knownL ma A) (knownL mb B) = [])) w)
  add : ∀ (r m : Int) (H : List Iv) (s : Value) (c : Int) (w : World), EntAt w s m H → 0 ≤ c → c ≤ 18446744073709551615 → Calls Try.prog 17 #[.agg #[.int .u64 r, .int .u64 m, s], .int .u64 c] w (IsEA r (orL (knownL m H) [(c, c)]) w)
  next : ∀ (r m : Int) (H : List Iv) (s : Value) (w : World), EntAt w s m H → Calls Try.prog 21 #[.agg #[.int .u64 r, .int .u64 m, s]] w (IsNB8 (nextN (knownL m H)) (nextB (knownL m H)) w)
theorem someE_iff {L : List Iv} : someE L = true ↔ L ≠ [] := by unfold someE; cases L <;> simp
/-- What is handed back is a correct entry, also where nothing is known. -/
theorem eo_good {K : List Iv} (h : GoodL K) : GoodE (topL K) (holesL K) := by
  by_cases hK : K = []
  · subst hK; exact ⟨good_nil, Int.le_refl _, UM_pos, fun y hy => by cases hy⟩
  · exact of_good h hK
theorem eo_ent {K : List Iv} {w : World} {v : Value} (h : GoodL K) (hl : K.length ≤ 4000) (hi : IvsAt w v (holesL K)) (hs : SaneE v) : EntAt w v (topL K) (holesL K) := by
  have hg := eo_good h
  have := holes_count h
  exact ⟨⟨hi, hg.good.all, hs, hg.low, hg.top, by omega⟩, hg⟩
/-- A call that returns an entry and whether there is one: the entry in letters, correct or only in memory; an entry alone. -/
def IsTE (r m : Int) (H : List Iv) (b : Bool) (w : World) (e : Ending) (w' : World) : Prop := ∃ v, e = .returned (.tuple #[.agg #[.int .u64 r, .int .u64 m, v], .bool b]) ∧ EntAt w' v m H ∧ Below w.heap.size w w'
def IsT (r m : Int) (H : List Iv) (b : Bool) (w : World) (e : Ending) (w' : World) : Prop := ∃ v, e = .returned (.tuple #[.agg #[.int .u64 r, .int .u64 m, v], .bool b]) ∧ IvsAt w' v H ∧ Below w.heap.size w w'
def IsAE (r m : Int) (H : List Iv) (w : World) (e : Ending) (w' : World) : Prop := ∃ v, e = .returned (.agg #[.int .u64 r, .int .u64 m, v]) ∧ EntAt w' v m H ∧ Below w.heap.size w w'
def IsA (r m : Int) (H : List Iv) (w : World) (e : Ending) (w' : World) : Prop := ∃ v, e = .returned (.agg #[.int .u64 r, .int .u64 m, v]) ∧ IvsAt w' v H ∧ Below w.heap.size w w'
theorem eo_te {r : Int} {K : List Iv} (h : GoodL K) (hl : K.length ≤ 4000) {w : World} {e : Ending} {w' : World} (hh : IsEO r K w e w') : IsTE (repE r K) (topL K) (holesL K) (someE K) w e w' := by
  obtain ⟨v, rfl, hi, hs, _, hb⟩ := hh
  exact ⟨v, rfl, eo_ent h hl hi hs, hb⟩
theorem of_t {r : Int} {K : List Iv} {w : World} {e : Ending} {w' : World} (hh : IsOf r K w e w') : IsT (repE r K) (topL K) (holesL K) (someE K) w e w' := by
  obtain ⟨v, rfl, hi, _, hb⟩ := hh
  exact ⟨v, rfl, hi, hb⟩
theorem ea_ae {r : Int} {K : List Iv} (h : GoodL K) (hl : K.length ≤ 4000) {w : World} {e : Ending} {w' : World} (hh : IsEA r K w e w') : IsAE (repE r K) (topL K) (holesL K) w e w' := by
  obtain ⟨v, rfl, hi, hs, _, hb⟩ := hh
  exact ⟨v, rfl, eo_ent h hl hi hs, hb⟩
theorem one_a {r : Int} {K : List Iv} {w : World} {e : Ending} {w' : World} (hh : IsOne r K w e w') : IsA (repE r K) (topL K) (holesL K) w e w' := by
  obtain ⟨v, rfl, hi, _, hb⟩ := hh
  exact ⟨v, rfl, hi, hb⟩
theorem rep_some {r : Int} {K : List Iv} (h : K ≠ []) : repE r K = r := by unfold repE; rw [if_neg h]
theorem same_true (r m : Int) (H : List Iv) (s s' : Value) (w : World) (h : IvsAt w s H) (h' : IvsAt w s' H) : Calls Try.prog 14 #[.agg #[.int .u64 r, .int .u64 m, s], .agg #[.int .u64 r, .int .u64 m, s']] w (IsEnd true w) := by
  have k := refSameE_any r m r m H H s s' w h h'
  rwa [show decide (r = r ∧ m = m ∧ H = H) = true from by simp] at k
/-- An entry that lies in memory. -/
structure InE (w : World) (b : Nat) (r m : Int) (s : Value) (H : List Iv) : Prop where
  e3 : E3 w b r m s
  ent : EntAt w s m H
structure InI (w : World) (b : Nat) (r m : Int) (s : Value) (H : List Iv) : Prop where
  e3 : E3 w b r m s
  ivs : IvsAt w s H
theorem InE.call {w w' : World} {b : Nat} {r m : Int} {s : Value} {H : List Iv} (h : InE w b r m s H) (hb : Below w.heap.size w w') : InE w' b r m s H := ⟨h.e3.call hb, h.ent.call hb⟩
theorem InI.call {w w' : World} {b : Nat} {r m : Int} {s : Value} {H : List Iv} (h : InI w b r m s H) (hb : Below w.heap.size w w') : InI w' b r m s H := ⟨h.e3.call hb, h.ivs.call hb⟩
theorem InE.new {w w' : World} {r m : Int} {s : Value} {H : List Iv} {t : TypeId} (hw : w.alloc (.cells #[.int .u64 r, .int .u64 m, s] t) = w') (h : EntAt w s m H) : InE w' w.heap.size r m s H := hw ▸ ⟨E3.new w r m s t _ rfl, h.call (below_new w _)⟩
theorem InI.new {w w' : World} {r m : Int} {s : Value} {H : List Iv} {t : TypeId} (hw : w.alloc (.cells #[.int .u64 r, .int .u64 m, s] t) = w') (h : IvsAt w s H) : InI w' w.heap.size r m s H := hw ▸ ⟨E3.new w r m s t _ rfl, h.call (below_new w _)⟩
/-- A call that returns the entry of a list that is not empty; that of the empty list. -/
def IsEOs (r : Int) (L : List Iv) (w : World) (e : Ending) (w' : World) : Prop :=
  ∃ v, e = .returned (.tuple #[.agg #[.int .u64 r, .int .u64 (topL L), v], .bool true]) ∧ EntAt w' v (topL L) (holesL L) ∧ Below w.heap.size w w'
def IsEOn (w : World) (e : Ending) (w' : World) : Prop :=
  ∃ v, e = .returned (.tuple #[.agg #[.int .u64 0, .int .u64 0, v], .bool false]) ∧ EntAt w' v 0 [] ∧ Below w.heap.size w w'
theorem eo_some {r : Int} {K : List Iv} (h : GoodL K) (hl : K.length ≤ 4000) (hK : K ≠ []) {w : World} {e : Ending} {w' : World} (hh : IsEO r K w e w') : IsEOs r K w e w' := by
  obtain ⟨v, rfl, hi, hs, _, hb⟩ := hh
  refine ⟨v, ?_, eo_ent h hl hi hs, hb⟩
  rw [show repE r K = r from by unfold repE; rw [if_neg hK], someE_iff.2 hK]
theorem eo_none {r : Int} {w : World} {e : Ending} {w' : World} (hh : IsEO r [] w e w') : IsEOn w e w' := by
  obtain ⟨v, rfl, hi, hs, _, hb⟩ := hh
  exact ⟨v, rfl, eo_ent good_nil (by simp) hi hs, hb⟩
/-- The entry of a list knows that list. -/
theorem eo_known {K : List Iv} (h : GoodL K) (hK : K ≠ []) : knownL (topL K) (holesL K) = K := of_known h hK
/-- Entries as arguments. -/
def entArg8 (w : World) (m : Int) (s : Value) : Prop := (0 ≤ m ∧ m ≤ 18446744073709551615) ∧ SaneE s ∧ ((∃ q n cap, s = .slice q n cap ∧ 60 < n) ∨ ∃ H, H.length ≤ 60 ∧ All64 H ∧ IvsAt w s H)
theorem entArg8.shape {w : World} {m : Int} {s : Value} (h : entArg8 w m s) : ∃ p n c, s = .slice p n c := by
  obtain ⟨_, _, ⟨q, n, cap, h, _⟩ | ⟨H, _, _, h⟩⟩ := h
  · exact ⟨q, n, cap, h⟩
  · obtain ⟨p, c, h, _⟩ := h.shape; exact ⟨p, _, c, h⟩
theorem entArg8.split {w : World} {m : Int} {s : Value} (h : entArg8 w m s) (r r0 : Int) : okE w r0 (r, m, s) ∨ badE w r0 (r, m, s) := ent_split r0 h.1 h.2.2
/-- What an entry that is taken is. -/
theorem okE.ent {w : World} {r0 r m : Int} {s : Value} (h : okE w r0 (r, m, s)) (hs : SaneE s) : r = r0 ∧ ∃ H, EntAt w s m H ∧ H.length ≤ 60 := by
  obtain ⟨h0, H, hi, hg, hl⟩ := h
  exact ⟨h0, H, ⟨⟨hi, hg.good.all, hs, hg.low, hg.top, by omega⟩, hg⟩, hl⟩
theorem rightsE_any (n bl cp : Nat) (es : Nat → Int × Int × Value) (w w0 : World) (hw : Below w0.heap.size w0 w) (hn : n ≤ 100) (h : ∀ i, i < n → w.cell? ⟨bl, i * 3, none⟩ = some (.int .u64 (es i).1) ∧ w.cell? ⟨bl, i * 3 + 1, none⟩ = some (.int .u64 (es i).2.1) ∧ w.cell? ⟨bl, i * 3 + 2, none⟩ = some (es i).2.2)
    (ha : ∀ i, i < n → okE w0 (es 0).1 (es i) ∨ badE w0 (es 0).1 (es i)) :
    ∃ r : Bool, (r = true → ∀ i, i < n → okE w0 (es 0).1 (es i)) ∧ Calls Try.prog 8 #[.slice (some ⟨bl, 0, none⟩) n cp] w (IsEnd r w) := by
  have step : ∀ m, m ≤ n → (∀ i, i < m → okE w0 (es 0).1 (es i)) ∨ ∃ j, j < m ∧ (∀ i, i < j → okE w0 (es 0).1 (es i)) ∧ badE w0 (es 0).1 (es j) := by
    intro m
    induction m with
    | zero => intro _; exact .inl fun i hi => by omega
    | succ m ih =>
      intro hm
      rcases ih (by omega) with h1 | ⟨j, hj, h1, h2⟩
      · rcases ha m (by omega) with h2 | h2
        · refine .inl fun i hi => ?_
          by_cases he : i = m
          · subst he; exact h2
          · exact h1 i (by omega)
        · exact .inr ⟨m, by omega, h1, h2⟩
      · exact .inr ⟨j, by omega, h1, h2⟩
  rcases step n (Nat.le_refl _) with h1 | ⟨j, hj, h1, h2⟩
  · refine ⟨true, fun _ => h1, ?_⟩
    have k := rightsE_upto n bl cp es w n (Nat.le_refl _) hn h (fun i hi => (h1 i hi).call hw) (fun hlt => absurd hlt (by omega))
    rw [decide_eq_true rfl] at k
    exact k
  · refine ⟨false, (fun h => by cases h), ?_⟩
    have k := rightsE_upto n bl cp es w j (by omega) hn h (fun i hi => (h1 i hi).call hw) (fun _ => h2.call hw)
    rw [decide_eq_false (by omega)] at k
    exact k
/-- The literal list of one, two, three entries. -/
theorem list_one (w : World) (r m : Int) (s : Value) (t : TypeId) : ∀ i, i < 1 → (w.alloc (.cells #[.int .u64 r, .int .u64 m, s] t)).cell? ⟨w.heap.size, i * 3, none⟩ = some (.int .u64 r) ∧ (w.alloc (.cells #[.int .u64 r, .int .u64 m, s] t)).cell? ⟨w.heap.size, i * 3 + 1, none⟩ = some (.int .u64 m) ∧
    (w.alloc (.cells #[.int .u64 r, .int .u64 m, s] t)).cell? ⟨w.heap.size, i * 3 + 2, none⟩ = some s := by
  intro i hi
  obtain rfl : i = 0 := by omega
  refine ⟨?_, ?_, ?_⟩ <;> simp
def pick2 (a b : Int × Int × Value) : Nat → Int × Int × Value | 0 => a | _ => b
def pick3 (a b c : Int × Int × Value) : Nat → Int × Int × Value | 0 => a | 1 => b | _ => c
theorem list_two (w : World) (a b : Int × Int × Value) (t : TypeId) : ∀ i, i < 2 → (w.alloc (.cells #[.int .u64 a.1, .int .u64 a.2.1, a.2.2, .int .u64 b.1, .int .u64 b.2.1, b.2.2] t)).cell? ⟨w.heap.size, i * 3, none⟩ = some (.int .u64 (pick2 a b i).1) ∧
    (w.alloc (.cells #[.int .u64 a.1, .int .u64 a.2.1, a.2.2, .int .u64 b.1, .int .u64 b.2.1, b.2.2] t)).cell? ⟨w.heap.size, i * 3 + 1, none⟩ = some (.int .u64 (pick2 a b i).2.1) ∧ (w.alloc (.cells #[.int .u64 a.1, .int .u64 a.2.1, a.2.2, .int .u64 b.1, .int .u64 b.2.1, b.2.2] t)).cell? ⟨w.heap.size, i * 3 + 2, none⟩ = some (pick2 a b i).2.2 := by
  intro i hi
  obtain rfl | rfl : i = 0 ∨ i = 1 := by omega
  · refine ⟨?_, ?_, ?_⟩ <;> simp [pick2]
  · refine ⟨?_, ?_, ?_⟩ <;> simp [pick2]
theorem list_three (w : World) (a b c : Int × Int × Value) (t : TypeId) : ∀ i, i < 3 → (w.alloc (.cells #[.int .u64 a.1, .int .u64 a.2.1, a.2.2, .int .u64 b.1, .int .u64 b.2.1, b.2.2, .int .u64 c.1, .int .u64 c.2.1, c.2.2] t)).cell? ⟨w.heap.size, i * 3, none⟩ = some (.int .u64 (pick3 a b c i).1) ∧
    (w.alloc (.cells #[.int .u64 a.1, .int .u64 a.2.1, a.2.2, .int .u64 b.1, .int .u64 b.2.1, b.2.2, .int .u64 c.1, .int .u64 c.2.1, c.2.2] t)).cell? ⟨w.heap.size, i * 3 + 1, none⟩ = some (.int .u64 (pick3 a b c i).2.1) ∧
    (w.alloc (.cells #[.int .u64 a.1, .int .u64 a.2.1, a.2.2, .int .u64 b.1, .int .u64 b.2.1, b.2.2, .int .u64 c.1, .int .u64 c.2.1, c.2.2] t)).cell? ⟨w.heap.size, i * 3 + 2, none⟩ = some (pick3 a b c i).2.2 := by
  intro i hi
  obtain rfl | rfl | rfl : i = 0 ∨ i = 1 ∨ i = 2 := by omega
  · refine ⟨?_, ?_, ?_⟩ <;> simp [pick3]
  · refine ⟨?_, ?_, ?_⟩ <;> simp [pick3]
  · refine ⟨?_, ?_, ?_⟩ <;> simp [pick3]
/-- A call that returns an entry whose holes lie behind the call's heap. -/
def IsTS (r m : Int) (H : List Iv) (b : Bool) (w : World) (e : Ending) (w' : World) : Prop := ∃ v, e = .returned (.tuple #[.agg #[.int .u64 r, .int .u64 m, v], .bool b]) ∧ EntAt w' v m H ∧ SoftE w' w.heap.size v H.length ∧ Below w.heap.size w w'
theorem eo_ts {r : Int} {K : List Iv} (h : GoodL K) (hl : K.length ≤ 4000) (hK : K ≠ []) {w : World} {e : Ending} {w' : World} (hh : IsEO r K w e w') : IsTS r (topL K) (holesL K) true w e w' := by
  obtain ⟨v, rfl, hi, hs, hf, hb⟩ := hh
  refine ⟨v, ?_, eo_ent h hl hi hs, hf, hb⟩
  rw [rep_some hK, someE_iff.2 hK]
theorem eo_tn {r : Int} {w : World} {e : Ending} {w' : World} (hh : IsEO r [] w e w') : IsTS 0 0 [] false w e w' := by
  obtain ⟨v, rfl, hi, hs, hf, hb⟩ := hh
  exact ⟨v, rfl, eo_ent good_nil (by simp) hi hs, hf, hb⟩
structure InS (w : World) (b B : Nat) (r m : Int) (s : Value) (H : List Iv) : Prop where
  e3 : E3 w b r m s
  ent : EntAt w s m H
  soft : SoftE w B s H.length
theorem InS.call {w w' : World} {b B : Nat} {r m : Int} {s : Value} {H : List Iv} (h : InS w b B r m s H) (hb : Below w.heap.size w w') : InS w' b B r m s H := ⟨h.e3.call hb, h.ent.call hb, h.soft.call hb⟩
theorem InS.new {w w' : World} {B : Nat} {r m : Int} {s : Value} {H : List Iv} {t : TypeId} (hw : w.alloc (.cells #[.int .u64 r, .int .u64 m, s] t) = w') (h : EntAt w s m H) (hs : SoftE w B s H.length) : InS w' w.heap.size B r m s H := hw ▸ ⟨E3.new w r m s t _ rfl, h.call (below_new w _), hs.call (below_new w _)⟩
/-- What is kept of an entry when another block's three cells are written. -/
theorem InS.kept {w : World} {b B g : Nat} {r m : Int} {s : Value} {H : List Iv} (h : InS w b B r m s H) (hb : b ≠ g) (hg : g < B) (x y z : Value) : InI (((w.setCell ⟨g, 0, none⟩ x).setCell ⟨g, 1, none⟩ y).setCell ⟨g, 2, none⟩ z) b r m s H := by
  have far : ∀ i : Nat, (((w.setCell ⟨g, 0, none⟩ x).setCell ⟨g, 1, none⟩ y).setCell ⟨g, 2, none⟩ z).cell? ⟨b, i, none⟩ = w.cell? ⟨b, i, none⟩ := fun i => by
    rw [World.cell?_setCell_other _ _ _ _ (fun e => hb (by cases e; rfl)), World.cell?_setCell_other _ _ _ _ (fun e => hb (by cases e; rfl)), World.cell?_setCell_other _ _ _ _ (fun e => hb (by cases e; rfl))]
  refine ⟨⟨by rw [far]; exact h.e3.1, by rw [far]; exact h.e3.2.1, by rw [far]; exact h.e3.2.2⟩, ?_⟩
  exact (soft_set (o := 2) (soft_set (o := 1) (soft_set (o := 0) ⟨h.ent.any.at', h.soft⟩ hg x) hg y) hg z).1
theorem soft_kept {w : World} {B g : Nat} {s : Value} {H : List Iv} (hi : IvsAt w s H) (hs : SoftE w B s H.length) (hg : g < B) (x y z : Value) : IvsAt (((w.setCell ⟨g, 0, none⟩ x).setCell ⟨g, 1, none⟩ y).setCell ⟨g, 2, none⟩ z) s H :=
  (soft_set (o := 2) (soft_set (o := 1) (soft_set (o := 0) ⟨hi, hs⟩ hg x) hg y) hg z).1
/-- A block of three cells that may be written. -/
structure Free3 (w : World) (b : Nat) : Prop where
  f0 : w.frozen? ⟨b, 0, none⟩ = false
  f1 : w.frozen? ⟨b, 1, none⟩ = false
  f2 : w.frozen? ⟨b, 2, none⟩ = false
  lt : b < w.heap.size
theorem Free3.call {w w' : World} {b : Nat} (h : Free3 w b) (hb : Below w.heap.size w w') : Free3 w' b := ⟨keep_free h.f0 h.lt hb, keep_free h.f1 h.lt hb, keep_free h.f2 h.lt hb, Nat.lt_of_lt_of_le h.lt hb.size⟩
theorem Free3.new {w w' : World} {x y z : Value} {t : TypeId} (hw : w.alloc (.cells #[x, y, z] t) = w') : Free3 w' w.heap.size := by
  subst hw
  refine ⟨by simp, by simp, by simp, by simp⟩
theorem InI.stored {w : World} {b : Nat} {r m : Int} {s : Value} {r' m' : Int} {s' : Value} {H' : List Iv} (h : E3 w b r m s) (hi : IvsAt (((w.setCell ⟨b, 0, none⟩ (.int .u64 r')).setCell ⟨b, 1, none⟩ (.int .u64 m')).setCell ⟨b, 2, none⟩ s') s' H') :
    InI (((w.setCell ⟨b, 0, none⟩ (.int .u64 r')).setCell ⟨b, 1, none⟩ (.int .u64 m')).setCell ⟨b, 2, none⟩ s') b r' m' s' H' := ⟨three_stored h.1 h.2.1 h.2.2 _ _ _, hi⟩
end Go.Proofs.Ytnlbohaealkelaa
