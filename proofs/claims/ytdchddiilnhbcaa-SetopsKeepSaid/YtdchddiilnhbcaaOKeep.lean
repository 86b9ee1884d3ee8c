/- The law SetopsKeep in every state, out of what package setops says. Conditions: the contracts of package setops. -/
import Derived.Test.YtdchddiilnhbcaaOAlive5
import Derived.Deep.RegionHeld3
import Derived.Laws.OwnMore
namespace Go.Proofs.Ytdchddiilnhbcaa
open Go.RowKit
/-- A nil slice has no room. -/
def saneV (v : Value) : Prop := ∀ n c, v = .slice none n c → n = 0 ∧ c = 0
section
variable {ops : Array Oper} {rest : List Oper} {o : Oper} {a : Act} {Q : Exit → Act → World → Prop}
/-- A list appended to an empty one of the call's own: a copy of the call's own. -/
theorem append_copy (hgd : o.guard = none) (s x : Operand) (w0 w : World) (hB : Below w0.heap.size w0 w) (v0 v : Value) (l : List Iv)
    (ho : o.op = .call { callee := .builtin .append, args := #[s, x], argTypes := #[23, 23] })
    (hs : a.eval s = v0) (hx : a.eval x = v) (hown : w.ownsRow w0.heap.size 30 2 v0 0 []) (hv : IvsAt w v l) (hsv : saneV v) (hl : l.length ≤ 60)
    (h : ∀ v' w', OwnL w' w0.heap.size v' l → Below w0.heap.size w0 w' → wpList Try.prog ops Q rest (a.put o.dst v') w') : wpList Try.prog ops Q (o :: rest) a w := by
  obtain ⟨i0, hi', hz0, hz1, hz2⟩ := info_parts infoIv
  obtain ⟨p, cap, rfl, _⟩ := hv.shape
  cases p with
  | none =>
    obtain ⟨h1, h2⟩ := hsv _ _ rfl
    obtain rfl : l = [] := List.eq_nil_of_length_eq_zero h1
    subst h2
    refine wpList_plain hgd fun _ hK => ?_
    have hr := run_append_owned_none (P := Try.prog) w w0.heap.size 23 o.type 30 i0 2 Try.underlying23 hi' v0 0 [] hown
    unfold Oper.wp execOp
    simp only [ho, resolve, invoke, builtin, Sem.run_bind, Sem.run_pure, Result.andThen_ok, List.map_toArray, List.map_cons, List.map_nil, hs, hx, List.length_nil, hr]
    exact hK _ _ (h v0 w hown hB)
  | some ad =>
    have hnews : ∀ j u, (ivC l)[j]? = some u → w.cell? (ad.add j) = some u := by
      intro j u hj
      have hne : l ≠ [] := by rintro rfl; simp [ivC] at hj
      obtain ⟨q, cp, e, _, h3⟩ := hv
      obtain ⟨b, of, e2, _⟩ := h3 hne
      cases e
      cases e2
      exact ivs_cells (cap := cap) (n := l.length) ⟨_, _, rfl, by omega, h3⟩ j u hj
    refine wpList_append_own _ hgd s x 23 ho w0.heap.size 30 i0 (.agg #[.int .u64 0, .int .u64 0]) 2 16 Try.underlying23 hi' hz0 hz1 hz2 rfl (by decide) v0 0 [] hs hown ad l.length cap (ivC l) hx (ivC_len l) hnews (ivC_one l) (by unfold maxLen; omega) (by omega) hB.size ?_
    intro v' w' hown' hgrow _
    refine h v' w' ?_ (own_grown hB hown hgrow hB.size)
    unfold OwnL
    rw [Nat.zero_add, List.nil_append] at hown'
    exact hown'
end
theorem own_empty (w : World) (k : Nat) (hk : k = w.heap.size) (B : Nat) (hB : B ≤ w.heap.size) : (w.alloc (.cells #[] 30)).ownsRow B 30 2 (.slice (some ⟨k, 0, none⟩) 0 0) 0 [] := by
  subst hk
  exact World.ownsRow_lit w #[] 0 hB (Nat.zero_le _) rfl
/-- A slice whose numbers may be written: each lies in a block from B up to T. -/
def SoftV (w : World) (B T : Nat) (v : Value) : Prop :=
  ∃ p n cap, v = .slice p n cap ∧ n ≤ maxLen ∧ ∀ i, i < n → ∃ g, p = some ⟨g, 0, none⟩ ∧ B ≤ g ∧ g < T ∧ (∃ z : Int, w.cell? ⟨g, i * 2, none⟩ = some (.int .u64 z)) ∧ w.frozen? ⟨g, i * 2, none⟩ = false
theorem soft_own {w : World} {B : Nat} {v : Value} {L : List Iv} (h : OwnL w B v L) : SoftV w B w.heap.size v := by
  have hrow : w.ownsRow B 30 2 v L.length (ivC L) := h
  rcases hrow.2 with ⟨rfl, h0⟩ | ⟨g, cap, cur, rfl, hbg, hg, hnc, hcm, _⟩
  · exact ⟨none, 0, 0, rfl, Nat.zero_le _, fun i hi => by omega⟩
  · refine ⟨_, L.length, cap, rfl, Nat.le_trans hnc hcm, fun i hi => ⟨g, rfl, hbg, (Array.getElem?_eq_some_iff.1 hg).1, ?_, ?_⟩⟩
    · have hx : L[i]? = some L[i] := by simp [hi]
      exact ⟨L[i].1, by rw [hrow.cellAt (i * 2) (by omega)]; exact (ivC_at L i _ hx).1⟩
    · exact hrow.frozenAt _
theorem SoftV.mono {w : World} {B B' T T' : Nat} {v : Value} (h : SoftV w B T v) (hB : B' ≤ B) (hT : T ≤ T') : SoftV w B' T' v := by
  obtain ⟨p, n, cap, h1, h2, h3⟩ := h
  refine ⟨p, n, cap, h1, h2, fun i hi => ?_⟩
  obtain ⟨g, a, b, c, d⟩ := h3 i hi
  exact ⟨g, a, by omega, by omega, d⟩
theorem SoftV.call {w w' : World} {B T : Nat} {v : Value} (h : SoftV w B T v) (hb : Below w.heap.size w w') (hT : T ≤ w.heap.size) : SoftV w' B T v := by
  obtain ⟨p, n, cap, h1, h2, h3⟩ := h
  refine ⟨p, n, cap, h1, h2, fun i hi => ?_⟩
  obtain ⟨g, a, b, c, ⟨z, d⟩, e⟩ := h3 i hi
  exact ⟨g, a, b, c, ⟨z, keep_cell d hb⟩, keep_free e (by show g < _; omega) hb⟩
theorem SoftV.set {w : World} {B T : Nat} {v : Value} (h : SoftV w B T v) (g j : Nat) (z : Int) : SoftV (w.setCell ⟨g, j, none⟩ (.int .u64 z)) B T v := by
  obtain ⟨p, n, cap, h1, h2, h3⟩ := h
  refine ⟨p, n, cap, h1, h2, fun i hi => ?_⟩
  obtain ⟨g', a, b, c, ⟨y, d⟩, e⟩ := h3 i hi
  refine ⟨g', a, b, c, ?_, by rw [World.frozen?_setCell]; exact e⟩
  by_cases he : g' = g ∧ i * 2 = j
  · obtain ⟨rfl, rfl⟩ := he
    exact ⟨z, by rw [World.cell?_setCell_same' _ _ _ (by rw [d]; rfl)]⟩
  · exact ⟨y, by rw [World.cell?_setCell_other _ _ _ _ (by intro e2; injection e2 with e3 e4; exact he ⟨e3.symm, e4.symm⟩)]; exact d⟩
/-- One more result, behind a call. -/
theorem soft_add {w W W' : World} {B : Nat} {vs : List Value} {v : Value} {L : List Iv} (h : ∀ x ∈ vs, SoftV w B w.heap.size x) (hw : Below w.heap.size w W) (hb : Below W.heap.size W W') (hB : B ≤ W.heap.size) (hn : OwnL W' W.heap.size v L) :
    ∀ x ∈ v :: vs, SoftV W' B W'.heap.size x := fun x hx => by
  rcases List.mem_cons.1 hx with rfl | hx
  · exact (soft_own hn).mono hB (Nat.le_refl _)
  · exact ((h x hx).call (below_call hw hb) (Nat.le_refl _)).mono (Nat.le_refl _) (below_call hw hb).size
theorem soft_add1 {w W W' w4 : World} {R : Prop} {vs : List Value} {v : Value} {L : List Iv} (hS : Below w4.heap.size w4 W ∧ R) (h : ∀ x ∈ vs, SoftV w w4.heap.size w.heap.size x) (hw : Below w.heap.size w W) (hb : Below W.heap.size W W') (hn : OwnL W' W.heap.size v L) :
    ∀ x ∈ v :: vs, SoftV W' w4.heap.size W'.heap.size x := soft_add h hw hb hS.1.size hn
theorem soft_add0 {W W' w4 : World} {R : Prop} {vs : List Value} {v : Value} {L : List Iv} (hS : Below w4.heap.size w4 W ∧ R) (h : ∀ x ∈ vs, SoftV w4 w4.heap.size w4.heap.size x) (hb : Below W.heap.size W W') (hn : OwnL W' W.heap.size v L) :
    ∀ x ∈ v :: vs, SoftV W' w4.heap.size W'.heap.size x := soft_add h hS.1 hb hS.1.size hn
/-- What the law's loops keep: the memory from before the results, the results' numbers, the slice of results. -/
def LoopI (w4 : World) (T : Nat) (vs : List Value) (W : World) : Prop :=
  Below w4.heap.size w4 W ∧ (∀ x ∈ vs, SoftV W w4.heap.size T x) ∧ ∀ (k : Nat) v, vs[k]? = some v → W.cell? ⟨T, k, none⟩ = some v
theorem loop_start7 {w4 w' : World} {R : Prop} {v1 v2 v3 v4 v5 v6 v7 : Value} {t : TypeId} (hS : Below w4.heap.size w4 (w'.alloc (.cells #[v1, v2, v3, v4, v5, v6, v7] t)) ∧ R) (h : ∀ x ∈ [v7, v6, v5, v4, v3, v2, v1], SoftV w' w4.heap.size w'.heap.size x) :
    ∃ vs : List Value, vs.length = 7 ∧ LoopI w4 w'.heap.size vs (w'.alloc (.cells #[v1, v2, v3, v4, v5, v6, v7] t)) := by
  refine ⟨[v1, v2, v3, v4, v5, v6, v7], rfl, hS.1, fun x hx => ?_, fun k v hv => ?_⟩
  · exact (h x (by simp at hx ⊢; rcases hx with h | h | h | h | h | h | h <;> simp [h])).call (below_new _ _) (Nat.le_refl _)
  · match k, hv with
    | 0, hv => simp at hv; subst hv; simp
    | 1, hv => simp at hv; subst hv; simp
    | 2, hv => simp at hv; subst hv; simp
    | 3, hv => simp at hv; subst hv; simp
    | 4, hv => simp at hv; subst hv; simp
    | 5, hv => simp at hv; subst hv; simp
    | 6, hv => simp at hv; subst hv; simp
    | k + 7, hv => simp at hv
theorem loop_set {w4 W : World} {T : Nat} {vs : List Value} (h : LoopI w4 T vs W) {g : Nat} (h1 : w4.heap.size ≤ g) (h2 : g < T) (j : Nat) (z : Int) : LoopI w4 T vs (W.setCell ⟨g, j, none⟩ (.int .u64 z)) :=
  ⟨below_set h.1 h1 _ _, fun x hx => (h.2.1 x hx).set g j z, fun k v hv => by
    rw [World.cell?_setCell_other _ _ _ _ (by intro e; injection e with e1 _; omega)]
    exact h.2.2 k v hv⟩
theorem op_nil (w : World) : OpAt w (.slice none 0 0) [] := ⟨⟨none, 0, rfl, by simp, fun h => absurd rfl h⟩, good_nil, by simp⟩
theorem keep_boxK {W w1 w2 : World} {p q : Addr} {a b : Value} (h : Below W.heap.size W w1 ∧ w1.cell? p = some a ∧ w1.cell? q = some b) (hb : Below w1.heap.size w1 w2) :
    Below W.heap.size W w2 ∧ w2.cell? p = some a ∧ w2.cell? q = some b := ⟨below_call h.1 hb, keep_cell h.2.1 hb, keep_cell h.2.2 hb⟩
theorem good_all : GoodL [(0, 18446744073709551615)] := good_one (by decide) (by decide) (by decide)
set_option maxRecDepth 100000 in
set_option maxHeartbeats 8000000 in
theorem lawKeep_any (C0 : SetC) (sa sb : Value) (w : World) (ha : okArg w sa ∨ badArg w sa) (hb : okArg w sb ∨ badArg w sb) (hsa : saneV sa) (hsb : saneV sb) : Calls Try.prog 7 #[sa, sb] w (IsEnd true w) := by
  obtain ⟨pa, na, ca, rfl⟩ := arg_shape ha
  obtain ⟨pb, nb, cb, rfl⟩ := arg_shape hb
  have C := Lib.hid C0
  have KA := Lib.hid (fun w => alive5 C0 w)
  obtain ⟨r, hr, KR⟩ := rights2 (.slice pa na ca) (.slice pb nb cb) w 23 w.heap.size rfl ha hb
  have HR := Lib.hid KR
  have SA := Lib.hid hsa
  have SB := Lib.hid hsb
  clear KR C0 ha hb hsa hsb
  cases r with
  | false =>
    go_enter Try.func7, Try.ntmps7
    go_wp2_with fail
    refine HR.out.mono ?_
    rintro e w1 ⟨rfl, h⟩
    have H1 := Lib.hid (below_call (below_new w _) h)
    clear h
    go_wp2_with fail
    refine (KA.out w1).mono ?_
    rintro e w2 ⟨rfl, h⟩
    have H2 := Lib.hid (below_call H1.out h)
    clear h
    go_wp2_with fail
    go_ret
    exact ⟨rfl, H2.out⟩
  | true =>
    obtain ⟨a, ha, hla, b, hb, hlb⟩ := hr rfl
    have ga := ha.good
    have gb := hb.good
    go_enter Try.func7, Try.ntmps7
    go_wp2_with fail
    refine HR.out.mono ?_
    rintro e w1 ⟨rfl, h⟩
    have H1 := Lib.hid (below_call (below_new w _) h)
    have E1 : Hid (Env w1 [((.slice pa na ca), a), ((.slice pb nb cb), b)]) := Lib.hid (Env.add (Env.add (fun p hp => by cases hp) ((hb.call (below_new w _)).call h)) ((ha.call (below_new w _)).call h))
    clear h ha hb
    have B1 := below_new w1 (.cells #[] 30)
    go_wp2_with (at_builtin; first
      | (refine append_copy rfl _ _ w1 _ B1 _ _ a rfl rfl rfl (own_empty w1 w1.heap.size rfl _ (Nat.le_refl _)) ((E1.out.get (v := .slice pa na ca) (l := a) (.head _)).call B1).at' SA.out hla ?_; intro vp w2 hown2 hb2; have HP2 := Lib.hid hown2; have E2 := Lib.hid (E1.out.call hb2); have H2 := Lib.hid (below_call H1.out hb2); have B2 := below_new w2 (.cells #[] 30); clear hown2 hb2)
      | (refine append_copy rfl _ _ w2 _ B2 _ _ b rfl rfl rfl (own_empty w2 w2.heap.size rfl _ (Nat.le_refl _)) ((E2.out.get (v := .slice pb nb cb) (l := b) (.tail _ (.head _))).call B2).at' SB.out hlb ?_; intro vq w3 hown3 hb3; have HQ3 := Lib.hid hown3; have HP3 := Lib.hid (HP2.out.below hb3); have E3 := Lib.hid (E2.out.call hb3); have H3 := Lib.hid (below_call H2.out hb3); clear hown3 hb3))
    obtain ⟨w4, hw4⟩ : ∃ w4, w3.alloc (.cells #[.int .u64 0, .int .u64 18446744073709551615] 30) = w4 := ⟨_, rfl⟩
    have b4 : Below w3.heap.size w3 w4 := hw4 ▸ below_new _ _
    have c0 : w4.cell? ⟨w3.heap.size, 0, none⟩ = some (.int .u64 0) := by rw [← hw4]; simp
    have c1 : w4.cell? ⟨w3.heap.size, 1, none⟩ = some (.int .u64 18446744073709551615) := by rw [← hw4]; simp
    rw [hw4]
    have H4 := Lib.hid (below_call H3.out b4)
    have E4 := Lib.hid (Env.add (Env.add (E3.out.call b4) (⟨(HP3.out.below b4).ivs (by omega), ga, by omega⟩ : OpAt w4 vp a)) (⟨(HQ3.out.below b4).ivs (by omega), gb, by omega⟩ : OpAt w4 vq b))
    clear hw4 b4 B1 B2 E1 E2 E3 H1 H2 H3 HP2 HP3 HQ3 HR SA SB hr
    have hs : Below w4.heap.size w4 w4 ∧ w4.cell? ⟨w3.heap.size, 0, none⟩ = some (.int .u64 0) ∧ w4.cell? ⟨w3.heap.size, 1, none⟩ = some (.int .u64 18446744073709551615) := ⟨Below.refl _ _, c0, c1⟩
    have EP := Lib.hid (fun (W : World) (h : Below w4.heap.size w4 W ∧ W.cell? ⟨w3.heap.size, 0, none⟩ = some (.int .u64 0) ∧ W.cell? ⟨w3.heap.size, 1, none⟩ = some (.int .u64 18446744073709551615)) => (E4.out.get (v := vp) (l := a) (.tail _ (.head _))).call h.1)
    have EQ := Lib.hid (fun (W : World) (h : Below w4.heap.size w4 W ∧ W.cell? ⟨w3.heap.size, 0, none⟩ = some (.int .u64 0) ∧ W.cell? ⟨w3.heap.size, 1, none⟩ = some (.int .u64 18446744073709551615)) => (E4.out.get (v := vq) (l := b) (.head _)).call h.1)
    have HV : Hid (∀ x ∈ ([] : List Value), SoftV w4 w4.heap.size w4.heap.size x) := Lib.hid (fun x hx => by cases hx)
    clear c0 c1
    go_region_held3 (fun W' => Below w4.heap.size w4 W' ∧ W'.cell? ⟨w3.heap.size, 0, none⟩ = some (.int .u64 0) ∧ W'.cell? ⟨w3.heap.size, 1, none⟩ = some (.int .u64 18446744073709551615))
  (first
    | exact keep_boxK (by assumption) (Hid.out (by assumption))
    | exact keep_boxK hs (Below.refl _ _).drew
    | exact keep_boxK (by assumption) (below_new _ _)
    | exact hs
    | assumption)
  (first
    | (go_at_call 11; refine (C.out.uni _ _ _ _ _ (EP.out _ (by assumption)) (by first | exact EQ.out _ (by assumption) | exact op_nil _)).mono ?_; rintro en w' ⟨vk, rfl, hv', hb'⟩; replace HV := Lib.hid (by first | exact soft_add1 (by assumption) HV.out (Below.refl _ _) hb' hv' | exact soft_add1 (by assumption) HV.out (below_new _ _) hb' hv' | exact soft_add0 (by assumption) HV.out hb' hv'); obtain ⟨pv, cv, rfl⟩ := own_nil_len hv'; (first | (have _t := LT; replace LT := Lib.hid (LT.out.call hb'); clear _t) | (have LT := Lib.hid ((one_op_at _ 0 18446744073709551615 30 _ rfl good_all).call hb')) | (have LT := Lib.hid (((one_op_at w4 0 18446744073709551615 30 _ rfl good_all).call (Below.refl _ _).drew).call hb')) | skip); have hb := Lib.hid hb'; clear hb' hv')
    | (go_at_call 13; refine (C.out.meet _ _ _ _ _ (EP.out _ (by assumption)) (by first | exact EQ.out _ (by assumption) | exact LT.out | exact LT.out.call (below_new _ _) | exact one_op_at _ 0 18446744073709551615 _ _ rfl good_all)).mono ?_; rintro en w' ⟨vk, rfl, hv', hb'⟩; replace HV := Lib.hid (by first | exact soft_add1 (by assumption) HV.out (Below.refl _ _) hb' hv' | exact soft_add1 (by assumption) HV.out (below_new _ _) hb' hv' | exact soft_add0 (by assumption) HV.out hb' hv'); obtain ⟨pv, cv, rfl⟩ := own_nil_len hv'; (first | (have _t := LT; replace LT := Lib.hid (LT.out.call hb'); clear _t) | (have LT := Lib.hid ((one_op_at _ 0 18446744073709551615 30 _ rfl good_all).call hb')) | (have LT := Lib.hid (((one_op_at w4 0 18446744073709551615 30 _ rfl good_all).call (Below.refl _ _).drew).call hb')) | skip); have hb := Lib.hid hb'; clear hb' hv')
    | (go_at_call 15; refine (C.out.sub _ _ _ _ _ (EP.out _ (by assumption)) (by first | exact EQ.out _ (by assumption) | exact op_nil _)).mono ?_; rintro en w' ⟨vk, rfl, hv', hb'⟩; replace HV := Lib.hid (by first | exact soft_add1 (by assumption) HV.out (Below.refl _ _) hb' hv' | exact soft_add1 (by assumption) HV.out (below_new _ _) hb' hv' | exact soft_add0 (by assumption) HV.out hb' hv'); obtain ⟨pv, cv, rfl⟩ := own_nil_len hv'; (first | (have _t := LT; replace LT := Lib.hid (LT.out.call hb'); clear _t) | (have LT := Lib.hid ((one_op_at _ 0 18446744073709551615 30 _ rfl good_all).call hb')) | (have LT := Lib.hid (((one_op_at w4 0 18446744073709551615 30 _ rfl good_all).call (Below.refl _ _).drew).call hb')) | skip); have hb := Lib.hid hb'; clear hb' hv')
    | (go_at_call 18; refine (C.out.not _ _ _ _ _ (EP.out _ (by assumption)) good_all).mono ?_; rintro en w' ⟨vk, rfl, hv', hb'⟩; replace HV := Lib.hid (by first | exact soft_add1 (by assumption) HV.out (Below.refl _ _) hb' hv' | exact soft_add1 (by assumption) HV.out (below_new _ _) hb' hv' | exact soft_add0 (by assumption) HV.out hb' hv'); obtain ⟨pv, cv, rfl⟩ := own_nil_len hv'; (first | (have _t := LT; replace LT := Lib.hid (LT.out.call hb'); clear _t) | (have LT := Lib.hid ((one_op_at _ 0 18446744073709551615 30 _ rfl good_all).call hb')) | (have LT := Lib.hid (((one_op_at w4 0 18446744073709551615 30 _ rfl good_all).call (Below.refl _ _).drew).call hb')) | skip); have hb := Lib.hid hb'; clear hb' hv'))
    all_goals
      obtain ⟨vs, hvl, hL⟩ := loop_start7 (t := 23) (by assumption) HV.out
      have HL := Lib.hid hL
      clear hL HV hs EP EQ
      go_wp2_with fail
      go_loopw [9, 10, 46] (fun _ _ j wr => ∃ k : Nat, k ≤ 7 ∧ j = .int .i64 k ∧ LoopI w4 w'.heap.size vs wr) (fun _ _ j _ => 7 - (intOf j).toNat)
      case atStart => exact ⟨0, by omega, rfl, HL.out⟩
      case round =>
        obtain ⟨k, hk, rfl, hl⟩ := hrel
        have HLk := Lib.hid hl; clear hl
        by_cases hlt : k < 7
        · obtain ⟨v, hv⟩ : ∃ v, vs[k]? = some v := ⟨vs[k], by simp [hvl, hlt]⟩
          have c0 := HLk.out.2.2 k v hv
          obtain ⟨p, n, cap, rfl, hn, hs⟩ := HLk.out.2.1 v (List.mem_of_getElem? hv)
          have HVk := Lib.hid hv; clear hv hs
          have i1 : (0 : Int) ≤ (k : Int) := by omega
          have i2 : (k : Int) < 7 := by omega
          unfold maxLen at hn
          go_wp2_with fail
          obtain ⟨wA, rfl⟩ : ∃ wA : World, wA = wr := ⟨_, rfl⟩
          go_loopw [10, 52] (fun _ j w2 => ∃ q : Nat, q ≤ n ∧ j = .int .i64 q ∧ LoopI w4 w'.heap.size vs w2) (fun _ j _ => n - (intOf j).toNat)
          case atStart => exact ⟨0, by omega, rfl, HLk.out⟩
          case round =>
            obtain ⟨q, hq, rfl, hl⟩ := hrel
            have HLq := Lib.hid hl; clear hl
            by_cases hltq : q < n
            · obtain ⟨p', n', cap', e0, _, hs⟩ := HLq.out.2.1 _ (List.mem_of_getElem? HVk.out)
              cases e0
              obtain ⟨g, rfl, hg1, hg2, ⟨z, cz⟩, fz⟩ := hs q hltq
              have j1 : (0 : Int) ≤ (q : Int) := by omega
              have j2 : (q : Int) < (n : Int) := by omega
              clear hs c0
              go_wp2_with fail
              go_roundw
              case rel => exact ⟨q + 1, by omega, by go_num, loop_set HLq.out hg1 hg2 _ _⟩
              case measure => simp [intOf]; omega
            · obtain rfl : q = n := by omega
              go_wp2_with fail
              go_roundw
              case rel => exact ⟨k + 1, by omega, by go_num, HLq.out⟩
              case measure => simp [intOf]; omega
        · obtain rfl : k = 7 := by omega
          have HW := Lib.hid (below_call H4.out HLk.out.1)
          have E5 := Lib.hid (E4.out.call HLk.out.1)
          go_wp2_with fail
          refine (KA.out wr).mono ?_
          rintro e w5 ⟨rfl, h⟩
          have H5 := Lib.hid (below_call HW.out h)
          have E6 := Lib.hid (E5.out.call h)
          clear h E5
          go_wp2_with fail
          refine (same_yes (E6.out.get (v := vp) (l := a) (.tail _ (.head _))) (E6.out.get (v := .slice pa na ca) (l := a) (.tail _ (.tail _ (.head _)))) rfl).mono ?_
          rintro e w6 ⟨rfl, h⟩
          have H6 := Lib.hid (below_call H5.out h)
          have E7 := Lib.hid (E6.out.call h)
          clear h E6
          go_wp2_with fail
          refine (same_yes (E7.out.get (v := vq) (l := b) (.head _)) (E7.out.get (v := .slice pb nb cb) (l := b) (.tail _ (.tail _ (.tail _ (.head _))))) rfl).mono ?_
          rintro e w7 ⟨rfl, h⟩
          have H7 := Lib.hid (below_call H6.out h)
          clear h
          go_wp2_with fail
          go_ret
          exact ⟨rfl, H7.out⟩
end Go.Proofs.Ytdchddiilnhbcaa
