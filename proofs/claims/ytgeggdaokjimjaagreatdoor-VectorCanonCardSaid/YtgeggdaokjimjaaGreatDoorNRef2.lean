/- The reference's entries: correct, canonical, out of a list, the canonical form. Conditions: as each theorem says. -/
import Derived.Test.YtgeggdaokjimjaaGreatDoorNRef
import Derived.Test.YtgeggdaokjimjaaGreatDoorOSet
namespace Go.Proofs.YtgeggdaokjimjaaGreatDoor
open Go.RowKit
theorem code_some {m : Int} {H : List Iv} {e : Int × Option Int} (h : chkN m H = some e) : e.1 ≠ 0 := by
  unfold chkN at h
  cases hc : chkV H with
  | some x =>
    rw [hc] at h
    obtain rfl := Option.some.inj h
    unfold chkV at hc
    cases hk : chkL H with
    | none => rw [hk] at hc; cases hc
    | some x =>
      rw [hk] at hc
      obtain rfl := Option.some.inj hc
      unfold chkL at hk
      obtain ⟨i, _, hi⟩ := List.exists_of_findSome?_eq_some hk
      split at hi
      · cases hi
      · rename_i hn
        obtain rfl := Option.some.inj hi
        exact hn
  | none =>
    rw [hc] at h
    cases hb : beyond m H with
    | none => rw [hb] at h; cases h
    | some i => rw [hb] at h; obtain rfl := Option.some.inj h; show (4 : Int) ≠ 0; decide
/-- An entry is correct. -/
def okN (m : Int) (H : List Iv) : Bool := (chkN m H).isNone
theorem okN_good {m : Int} {H : List Iv} (h : GoodE m H) : okN m H = true := by unfold okN; rw [chkN_good h]; rfl
theorem okN_iff {m : Int} {H : List Iv} (h64 : All64 H) (hm : 0 ≤ m ∧ m ≤ UM) : okN m H = true ↔ GoodE m H := by
  rw [← chkN_iff h64 hm]; unfold okN; cases chkN m H <;> simp
theorem okN_code (m : Int) (H : List Iv) : (codeE (chkN m H) == 0) = okN m H := by
  unfold okN
  cases h : chkN m H with
  | none => rfl
  | some e => have := code_some h; simp [codeE, this]
/-- A list of a call's own whose numbers may be written: its block lies from B on. -/
def SoftE (w : World) (B : Nat) (v : Value) (n : Nat) : Prop :=
  ∃ p cap, v = .slice p n cap ∧ n ≤ maxLen ∧ (0 < n → ∃ g o, p = some ⟨g, o, none⟩ ∧ B ≤ g ∧ ∀ i, i < n →
    ((∃ z : Int, w.cell? ⟨g, o + i * 2, none⟩ = some (.int .u64 z)) ∧ w.frozen? ⟨g, o + i * 2, none⟩ = false) ∧ (∃ z : Int, w.cell? ⟨g, o + i * 2 + 1, none⟩ = some (.int .u64 z)) ∧ w.frozen? ⟨g, o + i * 2 + 1, none⟩ = false)
theorem softE_own {w : World} {B : Nat} {v : Value} {L : List Iv} (h : OwnL w B v L) : SoftE w B v L.length := by
  have hrow : w.ownsRow B 37 2 v L.length (ivC L) := h
  rcases hrow.2 with ⟨rfl, h0⟩ | ⟨g, cap, cur, rfl, hbg, hg, hnc, hcm, _⟩
  · rw [h0]; exact ⟨none, 0, rfl, Nat.zero_le _, fun h => absurd h (Nat.lt_irrefl 0)⟩
  · refine ⟨_, cap, rfl, Nat.le_trans hnc hcm, fun _ => ⟨g, 0, rfl, hbg, fun i hi => ?_⟩⟩
    have hx : L[i]? = some L[i] := by simp [hi]
    rw [Nat.zero_add]
    exact ⟨⟨⟨L[i].1, by rw [hrow.cellAt (i * 2) (by omega)]; exact (ivC_at L i _ hx).1⟩, hrow.frozenAt _⟩, ⟨L[i].2, by rw [hrow.cellAt (i * 2 + 1) (by omega)]; exact (ivC_at L i _ hx).2⟩, hrow.frozenAt _⟩
def repE (r : Int) (L : List Iv) : Int := if L = [] then 0 else r
def someE (L : List Iv) : Bool := !L.isEmpty
/-- A call that returns the entry of a list. -/
def IsOf (r : Int) (L : List Iv) (w : World) (e : Ending) (w' : World) : Prop :=
  ∃ v, e = .returned (.tuple #[.agg #[.int .u64 (repE r L), .int .u64 (topL L), v], .bool (someE L)]) ∧ IvsAt w' v (holesL L) ∧ SoftE w' w.heap.size v (holesL L).length ∧ Below w.heap.size w w'
theorem top_at {L : List Iv} {k : Nat} (h : L.length = k + 1) : ∃ z, L[k]? = some z ∧ topL L = z.2 := by
  have hk : k < L.length := by omega
  refine ⟨L[k], by simp [hk], ?_⟩
  unfold topL
  rw [List.getLast?_eq_getElem?, h, Nat.add_sub_cancel]
  simp [hk]
theorem ivs_nil (w : World) : IvsAt w (.slice none 0 0) [] := ⟨none, 0, rfl, by simp, fun h => absurd rfl h⟩
theorem soft_nil (w : World) (B : Nat) : SoftE w B (.slice none 0 0) 0 := ⟨none, 0, rfl, Nat.zero_le _, fun h => absurd h (Nat.lt_irrefl 0)⟩
/-- At most one interval more. -/
theorem holes_len {L : List Iv} : (holesL L).length ≤ 2 * (L.length + 1) + 2 := by
  unfold holesL
  split
  · simp
  · have h1 := subL_len [(0, topL L)] L
    simp only [List.length_cons, List.length_nil] at h1
    omega
theorem own_set {W : World} {B b o : Nat} {v : Value} {L : List Iv} (h : OwnL W B v L) (hb : b < B) (u : Value) : OwnL (W.setCell ⟨b, o, none⟩ u) B v L := by
  have hrow : W.ownsRow B 37 2 v L.length (ivC L) := h
  refine World.ownsRow.kept hrow (row := some b) ⟨rfl, rfl, rfl, by simp, fun k _ hk => Below.heap_setCell _ _ _ k (fun e => hk (by rw [e]))⟩ ?_
  rcases hrow.2 with ⟨rfl, _⟩ | ⟨g, cap, cur, rfl, hbg, _⟩
  · exact .inl rfl
  · refine .inr fun e => ?_
    have h1 : g = b := Option.some.inj e
    omega
theorem three_stored {w : World} {b : Nat} {x y z : Value} (h0 : w.cell? ⟨b, 0, none⟩ = some x) (h1 : w.cell? ⟨b, 1, none⟩ = some y) (h2 : w.cell? ⟨b, 2, none⟩ = some z) (u v t : Value) :
    (((w.setCell ⟨b, 0, none⟩ u).setCell ⟨b, 1, none⟩ v).setCell ⟨b, 2, none⟩ t).cell? ⟨b, 0, none⟩ = some u ∧ (((w.setCell ⟨b, 0, none⟩ u).setCell ⟨b, 1, none⟩ v).setCell ⟨b, 2, none⟩ t).cell? ⟨b, 1, none⟩ = some v ∧
      (((w.setCell ⟨b, 0, none⟩ u).setCell ⟨b, 1, none⟩ v).setCell ⟨b, 2, none⟩ t).cell? ⟨b, 2, none⟩ = some t := by
  refine ⟨?_, ?_, ?_⟩
  · rw [World.cell?_setCell_other _ _ _ _ (by simp), World.cell?_setCell_other _ _ _ _ (by simp)]; exact World.cell?_setCell_same' _ _ _ (by rw [h0]; rfl)
  · rw [World.cell?_setCell_other _ _ _ _ (by simp)]; exact World.cell?_setCell_same' _ _ _ (by rw [World.cell?_setCell_other _ _ _ _ (by simp), h1]; rfl)
  · exact World.cell?_setCell_same' _ _ _ (by rw [World.cell?_setCell_other _ _ _ _ (by simp), World.cell?_setCell_other _ _ _ _ (by simp), h2]; rfl)
set_option maxRecDepth 100000 in
theorem refOf_any (r : Int) (L : List Iv) (s : Value) (w : World) (ho : OpAt w s L) : Calls Tryz.prog 40 #[.int .u64 r, s] w (IsOf r L w) := by
  obtain ⟨p, cap, rfl, _⟩ := ho.at'.shape
  by_cases hL : L = []
  · have hlen : L.length = 0 := by rw [hL]; rfl
    unfold IsOf
    rw [show repE r L = 0 from by simp [repE, hL], show topL L = 0 from by rw [hL]; rfl, show someE L = false from by rw [hL]; rfl, show holesL L = [] from by rw [hL]; rfl]
    rw [hlen]
    clear ho hL hlen
    go_enter Tryz.func40, Tryz.ntmps40
    go_wp2_with fail
    refine bodyPost_ret (v := .tuple #[.agg #[.int .u64 0, .int .u64 0, .slice none 0 0], .bool false]) (by simp [results, Tryz.results40, go_sem]) rfl ?_
    exact ⟨_, rfl, ivs_nil _, soft_nil _ _, below_new _ _⟩
  · obtain ⟨k, hk⟩ : ∃ k, L.length = k + 1 := ⟨L.length - 1, by have := List.length_pos_iff.2 hL; omega⟩
    obtain ⟨z, hz, ht⟩ := top_at hk
    have htr := top_range ho.good hL
    obtain ⟨b, o, cp, e, _, c1⟩ := ho.at'.elem hz
    cases e
    rw [← ht] at c1
    have hlen := ho.len
    have hb0 := below_new w (.cells #[.int .u64 0, .int .u64 0, .slice none 0 0] 33)
    have c1' := keep_cell c1 hb0
    have hb := below_alloc hb0 (.cells #[.int .u64 0, .int .u64 (topL L)] 37)
    have hgo : GoodL [(0, topL L)] := good_one htr.1 (Int.le_refl _) htr.2
    have hh : subL [(0, topL L)] L = holesL L := by unfold holesL; rw [if_neg hL]
    have km := refMinus_any [(0, topL L)] L _ _ _ (one_at (w.alloc (.cells #[.int .u64 0, .int .u64 0, .slice none 0 0] 33)) 0 (topL L) 37 (w.heap.size + 1) (by simp) hgo) (ho.call hb)
    rw [hh] at km
    unfold IsOf
    rw [show repE r L = r from by simp [repE, hL], show someE L = true from by unfold someE; cases L with | nil => exact absurd rfl hL | cons _ _ => rfl]
    have K := Lib.hid km; clear km
    have HB := Lib.hid hb; clear hb hb0
    have HHL := Lib.hid (holes_len (L := L))
    rw [hk] at hlen HHL K ⊢
    have i0 : ¬ (k : Int) + 1 = 0 := by omega
    have i1 : (0 : Int) ≤ (k : Int) := by omega
    clear ho hL hk hz ht htr c1 hgo hh
    generalize topL L = t at *
    generalize holesL L = G at *
    go_enter Tryz.func40, Tryz.ntmps40
    go_wp2_with fail
    refine K.out.mono ?_
    rintro e w1 ⟨v, rfl, hv, h⟩
    obtain ⟨pv, cv, rfl, _⟩ := own_shape hv
    have HV := Lib.hid hv
    have e0 := keep_cell (p := ⟨w.heap.size, 0, none⟩) (v := .int .u64 0) (by simp) h
    have e1 := keep_cell (p := ⟨w.heap.size, 1, none⟩) (v := .int .u64 0) (by simp) h
    have e2 := keep_cell (p := ⟨w.heap.size, 2, none⟩) (v := .slice none 0 0) (by simp) h
    have f0 := keep_free (p := ⟨w.heap.size, 0, none⟩) (by simp) (by simp; omega) h
    have f1 := keep_free (p := ⟨w.heap.size, 1, none⟩) (by simp) (by simp; omega) h
    have f2 := keep_free (p := ⟨w.heap.size, 2, none⟩) (by simp) (by simp; omega) h
    have H1 := Lib.hid h; clear hv h
    go_wp2_with fail
    have hs3 := three_stored e0 e1 e2 (.int .u64 r) (.int .u64 t) (.slice pv G.length cv)
    refine bodyPost_ret (v := .tuple #[.agg #[.int .u64 r, .int .u64 t, .slice pv G.length cv], .bool true]) (by simp [results, Tryz.results40, go_sem, hs3.1, hs3.2.1, hs3.2.2]) rfl ?_
    have hlt : w.heap.size < ((w.alloc (.cells #[.int .u64 0, .int .u64 0, .slice none 0 0] 33)).alloc (.cells #[.int .u64 0, .int .u64 t] 37)).heap.size := by simp; omega
    have ho := own_set (o := 2) (own_set (o := 1) (own_set (o := 0) HV.out hlt (.int .u64 r)) hlt (.int .u64 t)) hlt (.slice pv G.length cv)
    have hw := own_base (B' := w.heap.size) ho (Nat.le_of_lt hlt)
    have hl20 : G.length ≤ 1048576 := by have := HHL.out; omega
    exact ⟨_, rfl, OwnL.ivs hw hl20, softE_own hw, (((below_call HB.out H1.out).setCell (p := ⟨w.heap.size, 0, none⟩) (Nat.le_refl _) _).setCell (p := ⟨w.heap.size, 1, none⟩) (Nat.le_refl _) _).setCell (p := ⟨w.heap.size, 2, none⟩) (Nat.le_refl _) _⟩
/-- The reference's canonical form. -/
theorem known_len {m : Int} {H : List Iv} : (knownL m H).length ≤ 1 + 2 * (1 + H.length) := by
  have h1 := subL_len [(0, m)] H
  simp only [List.length_cons, List.length_nil] at h1
  unfold knownL
  omega
theorem soft_set {w : World} {B b o : Nat} {v : Value} {L : List Iv} (h : IvsAt w v L ∧ SoftE w B v L.length) (hb : b < B) (u : Value) : IvsAt (w.setCell ⟨b, o, none⟩ u) v L ∧ SoftE (w.setCell ⟨b, o, none⟩ u) B v L.length := by
  obtain ⟨⟨p, cap, h1, h2, h3⟩, ⟨p', cap', k1, k2, k3⟩⟩ := h
  rw [h1] at k1
  cases k1
  have far : ∀ (g j : Nat), B ≤ g → (w.setCell ⟨b, o, none⟩ u).cell? ⟨g, j, none⟩ = w.cell? ⟨g, j, none⟩ := fun g j hg => World.cell?_setCell_other _ _ _ _ (fun e => by cases e; omega)
  have ff : ∀ (g j : Nat), B ≤ g → (w.setCell ⟨b, o, none⟩ u).frozen? ⟨g, j, none⟩ = w.frozen? ⟨g, j, none⟩ := fun g j hg => by
    unfold World.frozen?
    rw [Below.heap_setCell _ _ _ g (fun e => by have : g = b := e; omega)]
  refine ⟨⟨p, cap, h1, h2, fun hne => ?_⟩, ⟨p, cap, h1, k2, fun hn => ?_⟩⟩
  · obtain ⟨g, j, e, h6⟩ := h3 hne
    obtain ⟨g', j', e', hB, _⟩ := k3 (List.length_pos_iff.2 hne)
    rw [e] at e'
    cases e'
    exact ⟨g, j, e, fun i x hx => ⟨by rw [far _ _ hB]; exact (h6 i x hx).1, by rw [far _ _ hB]; exact (h6 i x hx).2⟩⟩
  · obtain ⟨g, j, e, hB, h7⟩ := k3 hn
    refine ⟨g, j, e, hB, fun i hi => ?_⟩
    obtain ⟨⟨⟨z, hz⟩, hf⟩, ⟨y, hy⟩, hg⟩ := h7 i hi
    exact ⟨⟨⟨z, by rw [far _ _ hB]; exact hz⟩, by rw [ff _ _ hB]; exact hf⟩, ⟨y, by rw [far _ _ hB]; exact hy⟩, by rw [ff _ _ hB]; exact hg⟩
theorem SoftE.base {w : World} {B B' : Nat} {v : Value} {n : Nat} (h : SoftE w B v n) (hB : B' ≤ B) : SoftE w B' v n := by
  obtain ⟨p, cap, h1, h2, h3⟩ := h
  refine ⟨p, cap, h1, h2, fun hn => ?_⟩
  obtain ⟨g, o, e, h4, h5⟩ := h3 hn
  exact ⟨g, o, e, Nat.le_trans hB h4, h5⟩
theorem r1_call {W w1 w2 : World} {p q t : Addr} {a b c : Value} (h : Below W.heap.size W w1 ∧ w1.cell? p = some a ∧ w1.cell? q = some b ∧ w1.cell? t = some c) (hb : Hid (Below w1.heap.size w1 w2)) :
    Below W.heap.size W w2 ∧ w2.cell? p = some a ∧ w2.cell? q = some b ∧ w2.cell? t = some c := ⟨below_call h.1 hb.out, keep_cell h.2.1 hb.out, keep_cell h.2.2.1 hb.out, keep_cell h.2.2.2 hb.out⟩
theorem r1_drew {W w1 : World} {p q t : Addr} {a b c : Value} (h : Below W.heap.size W w1 ∧ w1.cell? p = some a ∧ w1.cell? q = some b ∧ w1.cell? t = some c) :
    Below W.heap.size W w1.drew ∧ w1.drew.cell? p = some a ∧ w1.drew.cell? q = some b ∧ w1.drew.cell? t = some c := r1_call h (Lib.hid (Below.refl _ _).drew)
theorem r1_set {W w1 : World} {p q t : Addr} {a b c : Value} {g : Nat} (h : Below W.heap.size W w1 ∧ w1.cell? p = some a ∧ w1.cell? q = some b ∧ w1.cell? t = some c) (hg : W.heap.size ≤ g) (hp : p.block ≠ g) (hq : q.block ≠ g) (ht : t.block ≠ g) (x y z : Value) :
    Below W.heap.size W (((w1.setCell ⟨g, 0, none⟩ x).setCell ⟨g, 1, none⟩ y).setCell ⟨g, 2, none⟩ z) ∧ (((w1.setCell ⟨g, 0, none⟩ x).setCell ⟨g, 1, none⟩ y).setCell ⟨g, 2, none⟩ z).cell? p = some a ∧ (((w1.setCell ⟨g, 0, none⟩ x).setCell ⟨g, 1, none⟩ y).setCell ⟨g, 2, none⟩ z).cell? q = some b ∧
      (((w1.setCell ⟨g, 0, none⟩ x).setCell ⟨g, 1, none⟩ y).setCell ⟨g, 2, none⟩ z).cell? t = some c := by
  have far : ∀ k : Addr, k.block ≠ g → (((w1.setCell ⟨g, 0, none⟩ x).setCell ⟨g, 1, none⟩ y).setCell ⟨g, 2, none⟩ z).cell? k = w1.cell? k := fun k hk => by
    rw [World.cell?_setCell_other _ _ _ _ (fun e => hk (by rw [← e])), World.cell?_setCell_other _ _ _ _ (fun e => hk (by rw [← e])), World.cell?_setCell_other _ _ _ _ (fun e => hk (by rw [← e]))]
  exact ⟨((h.1.setCell (p := ⟨g, 0, none⟩) hg _).setCell (p := ⟨g, 1, none⟩) hg _).setCell (p := ⟨g, 2, none⟩) hg _, by rw [far _ hp]; exact h.2.1, by rw [far _ hq]; exact h.2.2.1, by rw [far _ ht]; exact h.2.2.2⟩
set_option maxRecDepth 100000 in
set_option maxHeartbeats 2000000 in
theorem refCanon_any (r m : Int) (H : List Iv) (s : Value) (w : World) (ho : OpAt w s H) (hg : GoodE m H) (hl : H.length ≤ 1000) : Calls Tryz.prog 22 #[.agg #[.int .u64 r, .int .u64 m, s]] w (IsOf r (knownL m H) w) := by
  obtain ⟨p, cap, rfl, _⟩ := ho.at'.shape
  obtain ⟨w1, hw1⟩ : ∃ w1, w.alloc (.cells #[.int .u64 r, .int .u64 m, .slice p H.length cap] 33) = w1 := ⟨_, rfl⟩
  have hb1 : Below w.heap.size w w1 := hw1 ▸ below_new w _
  have hs1 : w1.heap.size = w.heap.size + 1 := by rw [← hw1]; simp
  have a0 : w1.cell? ⟨w.heap.size, 0, none⟩ = some (.int .u64 r) := by rw [← hw1]; simp
  have a1 : w1.cell? ⟨w.heap.size, 1, none⟩ = some (.int .u64 m) := by rw [← hw1]; simp
  have a2 : w1.cell? ⟨w.heap.size, 2, none⟩ = some (.slice p H.length cap) := by rw [← hw1]; simp
  have hb2 := below_new w1 (.cells #[.int .u64 0, .int .u64 0, .slice none 0 0] 33)
  have HS0 := Lib.hid (r1_drew (r1_call ⟨Below.refl _ _, a0, a1, a2⟩ (Lib.hid hb2)))
  clear a0 a1 a2
  have HO := Lib.hid (ho.call hb1)
  have KK := Lib.hid (fun W h => refKnown_any r m H (.slice p H.length cap) W h hg)
  have KO := Lib.hid (fun s W h => refOf_any r (knownL m H) s W h)
  have hkg := known_good hg
  have hkl := known_len (m := m) (H := H)
  have HG := Lib.hid (And.intro hkg (show (knownL m H).length ≤ 20000 by omega))
  have HB := Lib.hid hb1; clear hb1 hkg hkl hg ho hb2
  go_enter Tryz.func22, Tryz.ntmps22
  go_wp2_with fail
  clear hw1
  have HS1 := Lib.hid hs1; clear hs1
  obtain ⟨w2, hw2⟩ : ∃ w2, w1.alloc (.cells #[.int .u64 0, .int .u64 0, .slice none 0 0] 33) = w2 := ⟨_, rfl⟩
  have hB2 : Below w1.heap.size w1 w2 := hw2 ▸ below_new w1 _
  have q0 : w2.cell? ⟨w.heap.size + 1, 0, none⟩ = some (.int .u64 0) := by rw [← hw2, ← HS1.out]; simp
  have q1 : w2.cell? ⟨w.heap.size + 1, 1, none⟩ = some (.int .u64 0) := by rw [← hw2, ← HS1.out]; simp
  have q2 : w2.cell? ⟨w.heap.size + 1, 2, none⟩ = some (.slice none 0 0) := by rw [← hw2, ← HS1.out]; simp
  have p0 : w2.frozen? ⟨w.heap.size + 1, 0, none⟩ = false := by rw [← hw2, ← HS1.out]; simp
  have p1 : w2.frozen? ⟨w.heap.size + 1, 1, none⟩ = false := by rw [← hw2, ← HS1.out]; simp
  have p2 : w2.frozen? ⟨w.heap.size + 1, 2, none⟩ = false := by rw [← hw2, ← HS1.out]; simp
  have hlt : w.heap.size + 1 < w2.heap.size := World.block_lt_of_cell? w2 _ q0
  rw [hw2] at HS0 ⊢
  have HB2 := Lib.hid (below_call HB.out hB2)
  have HLT := Lib.hid hlt
  have HO2 := Lib.hid (HO.out.call hB2)
  clear hB2 hlt hw2
  go_region_held3 (fun w' => Below w1.heap.size w1 w' ∧ w'.cell? ⟨w.heap.size, 0, none⟩ = some (.int .u64 r) ∧ w'.cell? ⟨w.heap.size, 1, none⟩ = some (.int .u64 m) ∧ w'.cell? ⟨w.heap.size, 2, none⟩ = some (.slice p H.length cap))
    (first
      | exact r1_call (by assumption) (by assumption)
      | exact HS0.out
      | exact r1_set (by assumption) (Nat.le_of_eq HS1.out) (by simp) (by simp) (by simp) _ _ _
      | assumption)
    (first
      | (go_at_call 41; refine (KK.out _ (HO2.out.call (Below.refl _ _).drew)).mono ?_; rintro en w3 ⟨vk, rfl, hvk, h'⟩; have hh : Below w2.heap.size w2 w3 := (Below.refl _ _).drew.trans h'; have t0 := keep_cell q0 hh; have t1 := keep_cell q1 hh; have t2 := keep_cell q2 hh; have u0 := keep_free p0 HLT.out hh; have u1 := keep_free p1 HLT.out hh; have u2 := keep_free p2 HLT.out hh; have HL3 : Hid (w.heap.size + 1 < w3.heap.size) := Lib.hid (Nat.lt_of_lt_of_le HLT.out h'.size); have HVK := Lib.hid hvk; clear hvk hh; have h' := Lib.hid h')
      | (go_at_call 40; refine (KO.out _ _ ⟨HVK.out.ivs (by have := HG.out.2; omega), HG.out.1, HG.out.2⟩).mono ?_; rintro en w4 ⟨vo, rfl, hvo, hso, h'⟩; have t0 := keep_cell t0 h'; have t1 := keep_cell t1 h'; have t2 := keep_cell t2 h'; have u0 := keep_free u0 HL3.out h'; have u1 := keep_free u1 HL3.out h'; have u2 := keep_free u2 HL3.out h'; obtain ⟨po, co, rfl, _⟩ := hvo.shape; have HVO := Lib.hid (And.intro hvo hso); clear hvo hso; have h' := Lib.hid h'; have hSw := r1_call (by assumption) h'))
  have hHeld := hSw
  have HSW := Lib.hid (below_call HB.out hSw.1)
  clear hSw hHeld
  go_wp2_with fail
  have hs3 := three_stored t0 t1 t2 (.int .u64 (repE r (knownL m H))) (.int .u64 (topL (knownL m H))) (.slice po (holesL (knownL m H)).length co)
  refine bodyPost_ret (v := .tuple #[.agg #[.int .u64 (repE r (knownL m H)), .int .u64 (topL (knownL m H)), .slice po (holesL (knownL m H)).length co], .bool (someE (knownL m H))]) (by simp [results, Tryz.results22, go_sem, hs3.1, hs3.2.1, hs3.2.2]) rfl ?_
  have hv := soft_set (o := 2) (soft_set (o := 1) (soft_set (o := 0) HVO.out HL3.out (.int .u64 (repE r (knownL m H)))) HL3.out (.int .u64 (topL (knownL m H)))) HL3.out (.slice po (holesL (knownL m H)).length co)
  exact ⟨_, rfl, hv.1, hv.2.base (by have := HL3.out; omega), ((HSW.out.setCell (p := ⟨w.heap.size + 1, 0, none⟩) (Nat.le_succ _) _).setCell (p := ⟨w.heap.size + 1, 1, none⟩) (Nat.le_succ _) _).setCell (p := ⟨w.heap.size + 1, 2, none⟩) (Nat.le_succ _) _⟩
end Go.Proofs.YtgeggdaokjimjaaGreatDoor
