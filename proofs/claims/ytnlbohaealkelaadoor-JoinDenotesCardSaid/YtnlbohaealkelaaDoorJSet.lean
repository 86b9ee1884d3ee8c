/- What the laws of layer 8 ask of package join, and the look at all their arguments. No conditions of its own. -/
import Derived.Test.YtnlbohaealkelaaDoorJRef2
namespace Go.Proofs.YtnlbohaealkelaaDoor
open Go.RowKit
/-- A call that returns an entry of its own. -/
def IsEA (r : Int) (L : List Iv) (w : World) (e : Ending) (w' : World) : Prop :=
  ∃ v, e = .returned (.agg #[.int .u64 (repE r L), .int .u64 (topL L), v]) ∧ IvsAt w' v (holesL L) ∧ SaneE v ∧ SoftE w' w.heap.size v (holesL L).length ∧ Below w.heap.size w w'
/-- The contracts of package join. -/
structure JoinC : Prop where
  uni : ∀ (r ma mb : Int) (A B : List Iv) (sa sb : Value) (w : World), EntAt w sa ma A → EntAt w sb mb B → Calls Tryd.prog 6 #[.agg #[.int .u64 r, .int .u64 ma, sa], .agg #[.int .u64 r, .int .u64 mb, sb]] w (IsEO r (orL (knownL ma A) (knownL mb B)) w)
  meet : ∀ (r ma mb : Int) (A B : List Iv) (sa sb : Value) (w : World), EntAt w sa ma A → EntAt w sb mb B → Calls Tryd.prog 7 #[.agg #[.int .u64 r, .int .u64 ma, sa], .agg #[.int .u64 r, .int .u64 mb, sb]] w (IsEO r (andL (knownL ma A) (knownL mb B)) w)
  minus : ∀ (r ma mb : Int) (A B : List Iv) (sa sb : Value) (w : World), EntAt w sa ma A → EntAt w sb mb B → Calls Tryd.prog 8 #[.agg #[.int .u64 r, .int .u64 ma, sa], .agg #[.int .u64 r, .int .u64 mb, sb]] w (IsEO r (subL (knownL ma A) (knownL mb B)) w)
  sub : ∀ (r ma mb : Int) (A B : List Iv) (sa sb : Value) (w : World), EntAt w sa ma A → EntAt w sb mb B → Calls Tryd.prog 15 #[.agg #[.int .u64 r, .int .u64 ma, sa], .agg #[.int .u64 r, .int .u64 mb, sb]] w (IsEnd (decide (subL (knownL ma A) (knownL mb B) = [])) w)
  add : ∀ (r m : Int) (H : List Iv) (s : Value) (c : Int) (w : World), EntAt w s m H → 0 ≤ c → c ≤ 18446744073709551615 → Calls Tryd.prog 12 #[.agg #[.int .u64 r, .int .u64 m, s], .int .u64 c] w (IsEA r (orL (knownL m H) [(c, c)]) w)
  next : ∀ (r m : Int) (H : List Iv) (s : Value) (w : World), EntAt w s m H → Calls Tryd.prog 13 #[.agg #[.int .u64 r, .int .u64 m, s]] w (IsNB8 (nextN (knownL m H)) (nextB (knownL m H)) w)
theorem someE_iff {L : List Iv} : someE L = true ↔ L ≠ [] := by unfold someE; cases L <;> simp
/-- What is handed back is a correct entry, also where nothing is known. -/
theorem eo_good {K : List Iv} (h : GoodL K) : GoodE (topL K) (holesL K) := by
  by_cases hK : K = []
  · subst hK; exact ⟨good_nil, Int.le_refl _, UM_pos, fun y hy => by cases hy⟩
  · exact of_good h hK
theorem eo_ent {K : List Iv} {w : World} {v : Value} (h : GoodL K) (hl : K.length ≤ 4000) (hi : IvsAt w v (holesL K)) (hs : SaneE v) : EntAt w v (topL K) (holesL K) := by
  have hg := eo_good h
  have := holes_count h
  exact ⟨⟨hi, hg.good.all, hs, hg.low, hg.top, by omega⟩, hg⟩
/-- A call that returns an entry and whether there is one: the entry in letters, correct or only in memory; an entry alone. -/
def IsTE (r m : Int) (H : List Iv) (b : Bool) (w : World) (e : Ending) (w' : World) : Prop := ∃ v, e = .returned (.tuple #[.agg #[.int .u64 r, .int .u64 m, v], .bool b]) ∧ EntAt w' v m H ∧ Below w.heap.size w w'
def IsAE (r m : Int) (H : List Iv) (w : World) (e : Ending) (w' : World) : Prop := ∃ v, e = .returned (.agg #[.int .u64 r, .int .u64 m, v]) ∧ EntAt w' v m H ∧ Below w.heap.size w w'
theorem eo_te {r : Int} {K : List Iv} (h : GoodL K) (hl : K.length ≤ 4000) {w : World} {e : Ending} {w' : World} (hh : IsEO r K w e w') : IsTE (repE r K) (topL K) (holesL K) (someE K) w e w' := by
  obtain ⟨v, rfl, hi, hs, _, hb⟩ := hh
  exact ⟨v, rfl, eo_ent h hl hi hs, hb⟩
theorem ea_ae {r : Int} {K : List Iv} (h : GoodL K) (hl : K.length ≤ 4000) {w : World} {e : Ending} {w' : World} (hh : IsEA r K w e w') : IsAE (repE r K) (topL K) (holesL K) w e w' := by
  obtain ⟨v, rfl, hi, hs, _, hb⟩ := hh
  exact ⟨v, rfl, eo_ent h hl hi hs, hb⟩
theorem rep_some {r : Int} {K : List Iv} (h : K ≠ []) : repE r K = r := by unfold repE; rw [if_neg h]
theorem same_true (r m : Int) (H : List Iv) (s s' : Value) (w : World) (h : IvsAt w s H) (h' : IvsAt w s' H) : Calls Tryd.prog 14 #[.agg #[.int .u64 r, .int .u64 m, s], .agg #[.int .u64 r, .int .u64 m, s']] w (IsEnd true w) := by
  have k := refSameE_any r m r m H H s s' w h h'
  rwa [show decide (r = r ∧ m = m ∧ H = H) = true from by simp] at k
/-- An entry that lies in memory. -/
structure InE (w : World) (b : Nat) (r m : Int) (s : Value) (H : List Iv) : Prop where
  e3 : E3 w b r m s
  ent : EntAt w s m H
theorem InE.call {w w' : World} {b : Nat} {r m : Int} {s : Value} {H : List Iv} (h : InE w b r m s H) (hb : Below w.heap.size w w') : InE w' b r m s H := ⟨h.e3.call hb, h.ent.call hb⟩
theorem InE.new {w w' : World} {r m : Int} {s : Value} {H : List Iv} {t : TypeId} (hw : w.alloc (.cells #[.int .u64 r, .int .u64 m, s] t) = w') (h : EntAt w s m H) : InE w' w.heap.size r m s H := hw ▸ ⟨E3.new w r m s t _ rfl, h.call (below_new w _)⟩
/-- Entries as arguments. -/
def entArg8 (w : World) (m : Int) (s : Value) : Prop := (0 ≤ m ∧ m ≤ 18446744073709551615) ∧ SaneE s ∧ ((∃ q n cap, s = .slice q n cap ∧ 60 < n) ∨ ∃ H, H.length ≤ 60 ∧ All64 H ∧ IvsAt w s H)
theorem entArg8.shape {w : World} {m : Int} {s : Value} (h : entArg8 w m s) : ∃ p n c, s = .slice p n c := by
  obtain ⟨_, _, ⟨q, n, cap, h, _⟩ | ⟨H, _, _, h⟩⟩ := h
  · exact ⟨q, n, cap, h⟩
  · obtain ⟨p, c, h, _⟩ := h.shape; exact ⟨p, _, c, h⟩
theorem entArg8.split {w : World} {m : Int} {s : Value} (h : entArg8 w m s) (r r0 : Int) : okE w r0 (r, m, s) ∨ badE w r0 (r, m, s) := ent_split r0 h.1 h.2.2
/-- What an entry that is taken is. -/
theorem okE.ent {w : World} {r0 r m : Int} {s : Value} (h : okE w r0 (r, m, s)) (hs : SaneE s) : r = r0 ∧ ∃ H, EntAt w s m H ∧ H.length ≤ 60 := by
  obtain ⟨h0, H, hi, hg, hl⟩ := h
  exact ⟨h0, H, ⟨⟨hi, hg.good.all, hs, hg.low, hg.top, by omega⟩, hg⟩, hl⟩
theorem rightsE_any (n bl cp : Nat) (es : Nat → Int × Int × Value) (w w0 : World) (hw : Below w0.heap.size w0 w) (hn : n ≤ 100) (h : ∀ i, i < n → w.cell? ⟨bl, i * 3, none⟩ = some (.int .u64 (es i).1) ∧ w.cell? ⟨bl, i * 3 + 1, none⟩ = some (.int .u64 (es i).2.1) ∧ w.cell? ⟨bl, i * 3 + 2, none⟩ = some (es i).2.2)
    (ha : ∀ i, i < n → okE w0 (es 0).1 (es i) ∨ badE w0 (es 0).1 (es i)) :
    ∃ r : Bool, (r = true → ∀ i, i < n → okE w0 (es 0).1 (es i)) ∧ Calls Tryd.prog 4 #[.slice (some ⟨bl, 0, none⟩) n cp] w (IsEnd r w) := by
  have step : ∀ m, m ≤ n → (∀ i, i < m → okE w0 (es 0).1 (es i)) ∨ ∃ j, j < m ∧ (∀ i, i < j → okE w0 (es 0).1 (es i)) ∧ badE w0 (es 0).1 (es j) := by
    intro m
    induction m with
    | zero => intro _; exact .inl fun i hi => by omega
    | succ m ih =>
      intro hm
      rcases ih (by omega) with h1 | ⟨j, hj, h1, h2⟩
      · rcases ha m (by omega) with h2 | h2
        · refine .inl fun i hi => ?_
          by_cases he : i = m
          · subst he; exact h2
          · exact h1 i (by omega)
        · exact .inr ⟨m, by omega, h1, h2⟩
      · exact .inr ⟨j, by omega, h1, h2⟩
  rcases step n (Nat.le_refl _) with h1 | ⟨j, hj, h1, h2⟩
  · refine ⟨true, fun _ => h1, ?_⟩
    have k := rightsE_upto n bl cp es w n (Nat.le_refl _) hn h (fun i hi => (h1 i hi).call hw) (fun hlt => absurd hlt (by omega))
    rw [decide_eq_true rfl] at k
    exact k
  · refine ⟨false, (fun h => by cases h), ?_⟩
    have k := rightsE_upto n bl cp es w j (by omega) hn h (fun i hi => (h1 i hi).call hw) (fun _ => h2.call hw)
    rw [decide_eq_false (by omega)] at k
    exact k
def pick2 (a b : Int × Int × Value) : Nat → Int × Int × Value | 0 => a | _ => b
theorem list_two (w : World) (a b : Int × Int × Value) (t : TypeId) : ∀ i, i < 2 → (w.alloc (.cells #[.int .u64 a.1, .int .u64 a.2.1, a.2.2, .int .u64 b.1, .int .u64 b.2.1, b.2.2] t)).cell? ⟨w.heap.size, i * 3, none⟩ = some (.int .u64 (pick2 a b i).1) ∧
    (w.alloc (.cells #[.int .u64 a.1, .int .u64 a.2.1, a.2.2, .int .u64 b.1, .int .u64 b.2.1, b.2.2] t)).cell? ⟨w.heap.size, i * 3 + 1, none⟩ = some (.int .u64 (pick2 a b i).2.1) ∧ (w.alloc (.cells #[.int .u64 a.1, .int .u64 a.2.1, a.2.2, .int .u64 b.1, .int .u64 b.2.1, b.2.2] t)).cell? ⟨w.heap.size, i * 3 + 2, none⟩ = some (pick2 a b i).2.2 := by
  intro i hi
  obtain rfl | rfl : i = 0 ∨ i = 1 := by omega
  · refine ⟨?_, ?_, ?_⟩ <;> simp [pick2]
  · refine ⟨?_, ?_, ?_⟩ <;> simp [pick2]
end Go.Proofs.YtnlbohaealkelaaDoor
