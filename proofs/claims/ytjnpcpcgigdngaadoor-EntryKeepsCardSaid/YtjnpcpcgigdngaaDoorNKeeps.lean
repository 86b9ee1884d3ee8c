/- The law EntryKeeps in every state, out of what package entry says. Conditions: the contracts of package entry, and the fixed value of errors.errorType. -/
import Derived.Test.YtjnpcpcgigdngaaDoorNLaws
import Derived.Test.YtjnpcpcgigdngaaDoorOKeep
namespace Go.Proofs.YtjnpcpcgigdngaaDoor
open Go.RowKit
/-- A list whose numbers may be written, its block from B up to T. -/
def NumE (w : World) (B T : Nat) (v : Value) (n : Nat) : Prop :=
  ∃ p cap, v = .slice p n cap ∧ n ≤ maxLen ∧ (0 < n → ∃ g o, p = some ⟨g, o, none⟩ ∧ B ≤ g ∧ g < T ∧ ∀ i, i < n →
    ((∃ z : Int, w.cell? ⟨g, o + i * 2, none⟩ = some (.int .u64 z)) ∧ w.frozen? ⟨g, o + i * 2, none⟩ = false) ∧ (∃ z : Int, w.cell? ⟨g, o + i * 2 + 1, none⟩ = some (.int .u64 z)) ∧ w.frozen? ⟨g, o + i * 2 + 1, none⟩ = false)
theorem SoftE.num {w : World} {B : Nat} {v : Value} {n : Nat} (h : SoftE w B v n) : NumE w B w.heap.size v n := by
  obtain ⟨p, cap, h1, h2, h3⟩ := h
  refine ⟨p, cap, h1, h2, fun hn => ?_⟩
  obtain ⟨g, o, h4, h5, h6⟩ := h3 hn
  obtain ⟨⟨⟨z, hz⟩, _⟩, _⟩ := h6 0 hn
  exact ⟨g, o, h4, h5, World.block_lt_of_cell? w _ hz, h6⟩
theorem NumE.call {w w' : World} {B T : Nat} {v : Value} {n : Nat} (h : NumE w B T v n) (hT : T ≤ w.heap.size) (hb : Below w.heap.size w w') : NumE w' B T v n := by
  obtain ⟨p, cap, h1, h2, h3⟩ := h
  refine ⟨p, cap, h1, h2, fun hn => ?_⟩
  obtain ⟨g, o, h4, h5, h6, h7⟩ := h3 hn
  refine ⟨g, o, h4, h5, h6, fun i hi => ?_⟩
  obtain ⟨⟨⟨z, hz⟩, hf⟩, ⟨y, hy⟩, hg⟩ := h7 i hi
  exact ⟨⟨⟨z, keep_cell hz hb⟩, keep_free hf (by show g < _; omega) hb⟩, ⟨y, keep_cell hy hb⟩, keep_free hg (by show g < _; omega) hb⟩
theorem numE_set {w : World} {g g' j j' : Nat} {z : Int} (h : ∃ y : Int, w.cell? ⟨g', j', none⟩ = some (.int .u64 y)) : ∃ y : Int, (w.setCell ⟨g, j, none⟩ (.int .u64 z)).cell? ⟨g', j', none⟩ = some (.int .u64 y) := by
  obtain ⟨y, hy⟩ := h
  by_cases he : g' = g ∧ j' = j
  · obtain ⟨rfl, rfl⟩ := he
    exact ⟨z, by rw [World.cell?_setCell_same' _ _ _ (by rw [hy]; rfl)]⟩
  · exact ⟨y, by rw [World.cell?_setCell_other _ _ _ _ (by intro e2; injection e2 with e3 e4; exact he ⟨e3.symm, e4.symm⟩)]; exact hy⟩
theorem NumE.set {w : World} {B T : Nat} {v : Value} {n : Nat} (h : NumE w B T v n) (g j : Nat) (z : Int) : NumE (w.setCell ⟨g, j, none⟩ (.int .u64 z)) B T v n := by
  obtain ⟨p, cap, h1, h2, h3⟩ := h
  refine ⟨p, cap, h1, h2, fun hn => ?_⟩
  obtain ⟨g', o, h4, h5, h6, h7⟩ := h3 hn
  refine ⟨g', o, h4, h5, h6, fun i hi => ?_⟩
  obtain ⟨⟨hz, hf⟩, hy, hg⟩ := h7 i hi
  exact ⟨⟨numE_set hz, by rw [World.frozen?_setCell]; exact hf⟩, numE_set hy, by rw [World.frozen?_setCell]; exact hg⟩
/-- A row of a call's own whose block lies below T. -/
def RowE (w : World) (B T : Nat) (v : Value) (L : List Iv) : Prop := OwnL w B v L ∧ ∀ g, v.ownBlock = some g → g < T
theorem RowE.of {w : World} {B : Nat} {v : Value} {L : List Iv} (h : OwnL w B v L) : RowE w B w.heap.size v L := by
  refine ⟨h, fun g hg => ?_⟩
  have hrow : w.ownsRow B 48 2 v L.length (ivC L) := h
  exact (hrow.lt g hg).2
theorem RowE.call {w w' : World} {B T : Nat} {v : Value} {L : List Iv} (h : RowE w B T v L) (hb : Below w.heap.size w w') : RowE w' B T v L := ⟨h.1.below hb, h.2⟩
theorem RowE.set {w : World} {B T g j : Nat} {v : Value} {L : List Iv} (h : RowE w B T v L) (hg : g < B ∨ T ≤ g) (u : Value) : RowE (w.setCell ⟨g, j, none⟩ u) B T v L := by
  refine ⟨?_, h.2⟩
  have hrow : w.ownsRow B 48 2 v L.length (ivC L) := h.1
  refine World.ownsRow.kept hrow (row := some g) ⟨rfl, rfl, rfl, by simp, fun k _ hk => Below.heap_setCell _ _ _ k (fun e => hk (by rw [e]))⟩ ?_
  cases hv : v.ownBlock with
  | none => exact .inl rfl
  | some k =>
    refine .inr fun e => ?_
    have h1 : k = g := Option.some.inj e
    have h2 := hrow.lt k hv
    have h3 := h.2 k hv
    omega
/-- What the law's loops keep: what lay when Canon was called; the boxes of the two entries; the copy; the three lists' numbers. -/
structure KeepE (wA : World) (X Z BL TL BK TK BO TO : Nat) (vc vl vo vk : Value) (nc nl no : Nat) (KL : List Iv) (W : World) : Prop where
  low : Below wA.heap.size wA W
  cx : W.cell? ⟨X, 2, none⟩ = some vc
  cz : W.cell? ⟨Z, 2, none⟩ = some vo
  row : RowE W BK TK vk KL
  c : NumE W wA.heap.size X vc nc
  l : NumE W BL TL vl nl
  o : NumE W BO TO vo no
  lt1 : wA.heap.size ≤ X
  lt2 : X < BL
  lt3 : BL ≤ TL
  lt4 : TL ≤ BK
  lt5 : BK ≤ TK
  lt6 : TK ≤ BO
  lt7 : BO ≤ TO
  lt8 : TO ≤ Z
theorem KeepE.set {wA : World} {X Z BL TL BK TK BO TO : Nat} {vc vl vo vk : Value} {nc nl no : Nat} {KL : List Iv} {W : World} (h : KeepE wA X Z BL TL BK TK BO TO vc vl vo vk nc nl no KL W) {g : Nat}
    (hg : (wA.heap.size ≤ g ∧ g < X) ∨ (BL ≤ g ∧ g < TL) ∨ (BO ≤ g ∧ g < TO)) (j : Nat) (z : Int) : KeepE wA X Z BL TL BK TK BO TO vc vl vo vk nc nl no KL (W.setCell ⟨g, j, none⟩ (.int .u64 z)) := by
  have h1 := h.lt1; have h2 := h.lt2; have h3 := h.lt3; have h4 := h.lt4; have h5 := h.lt5; have h6 := h.lt6; have h7 := h.lt7; have h8 := h.lt8
  have ne : ∀ K k, K ≠ g → (⟨K, k, none⟩ : Addr) ≠ ⟨g, j, none⟩ := fun K k hne e => by injection e with e1 _; exact hne e1
  refine ⟨below_set h.low (by omega) _ _, ?_, ?_, h.row.set (by omega) _, h.c.set g j z, h.l.set g j z, h.o.set g j z, h1, h2, h3, h4, h5, h6, h7, h8⟩
  · rw [World.cell?_setCell_other _ _ _ _ (ne _ _ (by omega)).symm]; exact h.cx
  · rw [World.cell?_setCell_other _ _ _ _ (ne _ _ (by omega)).symm]; exact h.cz
section
variable {ops : Array Oper} {rest : List Oper} {o : Oper} {a : Act} {Q : Exit → Act → World → Prop}
/-- append_copy for longer lists. -/
theorem append_copyE (hgd : o.guard = none) (s x : Operand) (w0 w : World) (hB : Below w0.heap.size w0 w) (v0 v : Value) (l : List Iv)
    (ho : o.op = .call { callee := .builtin .append, args := #[s, x], argTypes := #[24, 24] })
    (hs : a.eval s = v0) (hx : a.eval x = v) (hown : w.ownsRow w0.heap.size 48 2 v0 0 []) (hv : IvsAt w v l) (hsv : saneV v) (hl : l.length ≤ 10000)
    (h : ∀ v' w', OwnL w' w0.heap.size v' l → Below w0.heap.size w0 w' → wpList Tryd.prog ops Q rest (a.put o.dst v') w') : wpList Tryd.prog ops Q (o :: rest) a w := by
  obtain ⟨i0, hi', hz0, hz1, hz2⟩ := info_parts infoIv
  obtain ⟨p, cap, rfl, _⟩ := hv.shape
  cases p with
  | none =>
    obtain ⟨h1, h2⟩ := hsv _ _ rfl
    obtain rfl : l = [] := List.eq_nil_of_length_eq_zero h1
    subst h2
    refine wpList_plain hgd fun _ hK => ?_
    have hr := run_append_owned_none (P := Tryd.prog) w w0.heap.size 24 o.type 48 i0 2 Tryd.underlying24 hi' v0 0 [] hown
    unfold Oper.wp execOp
    simp only [ho, resolve, invoke, builtin, Sem.run_bind, Sem.run_pure, Result.andThen_ok, List.map_toArray, List.map_cons, List.map_nil, hs, hx, List.length_nil, hr]
    exact hK _ _ (h v0 w hown hB)
  | some ad =>
    have hnews : ∀ j u, (ivC l)[j]? = some u → w.cell? (ad.add j) = some u := by
      intro j u hj
      have hne : l ≠ [] := by rintro rfl; simp [ivC] at hj
      obtain ⟨q, cp, e, _, h3⟩ := hv
      obtain ⟨b, of, e2, _⟩ := h3 hne
      cases e
      cases e2
      exact ivs_cells (cap := cap) (n := l.length) ⟨_, _, rfl, by omega, h3⟩ j u hj
    refine wpList_append_own _ hgd s x 24 ho w0.heap.size 48 i0 (.agg #[.int .u64 0, .int .u64 0]) 2 16 Tryd.underlying24 hi' hz0 hz1 hz2 rfl (by decide) v0 0 [] hs hown ad l.length cap (ivC l) hx (ivC_len l) hnews (ivC_one l) (by unfold maxLen; omega) (by omega) hB.size ?_
    intro v' w' hown' hgrow _
    refine h v' w' ?_ (own_grown hB hown hgrow hB.size)
    unfold OwnL
    rw [Nat.zero_add, List.nil_append] at hown'
    exact hown'
end
theorem sane_row {W : World} {B : Nat} {v : Value} {L : List Iv} (h : OwnL W B v L) : SaneE v := by
  have hrow : W.ownsRow B 48 2 v L.length (ivC L) := h
  rcases hrow.2 with ⟨h1, _⟩ | ⟨g, cap, cur, h1, _, _, hnc, _⟩
  · refine ⟨fun n c e => ?_, fun a n c e => ?_⟩
    · rw [e] at h1; cases h1; exact ⟨rfl, rfl⟩
    · rw [e] at h1; cases h1
  · refine ⟨fun n c e => ?_, fun a n c e => ?_⟩
    · rw [e] at h1; cases h1
    · rw [e] at h1; cases h1; exact hnc
set_option maxRecDepth 100000 in
set_option maxHeartbeats 8000000 in
theorem lawKeeps7_right (C : EntC) (r m : Int) (H : List Iv) (p : Option Addr) (cap : Nat) (w : World) (hg : ErrT w) (ha : AnyAt w (.slice p H.length cap) m H) (hl : H.length ≤ 60) (hgd : GoodE m H) : Calls Tryd.prog 8 #[.agg #[.int .u64 r, .int .u64 m, .slice p H.length cap]] w (IsEnd true w) := by
  have KA := Lib.hid (fun W h => alive7_any C W h)
  have hb := below_new w (.cells #[.int .u64 r, .int .u64 m, .slice p H.length cap] 26)
  have i3 : ¬ (60 : Int) < (H.length : Int) := by omega
  have k0 := fun W (h : AnyAt W (.slice p H.length cap) m H) => refRightE_any r m H (.slice p H.length cap) W h.at' h.all
  rw [okN_good hgd] at k0
  have K0 := Lib.hid k0; clear k0
  have HGD := Lib.hid hgd
  have hkl := known_len (m := m) (H := H)
  have hkg := known_good hgd
  have hhl := holes_len (L := knownL m H)
  have K1 := Lib.hid (fun s W hg (h : AnyAt W s m H) => C.canon r m H s W hg ⟨h, hgd⟩)
  have K2 := Lib.hid (fun s W hg (h : AnyAt W s m H) => C.known r m H s W hg ⟨h, hgd⟩)
  have K3 := Lib.hid (fun s W hg h => C.of' 1 (knownL m H) s W hg h)
  have K4 := Lib.hid (fun (a b : Value) W (h1 : IvsAt W a H) (h2 : IvsAt W b H) => (decide_eq_true (⟨rfl, rfl, rfl⟩ : r = r ∧ m = m ∧ H = H)) ▸ refSameE_any r m r m _ _ a b W h1 h2)
  have K5 := Lib.hid (fun W (h : AnyAt W (.slice p H.length cap) m H) => refKnown_any r m H (.slice p H.length cap) W (EntAt.op ⟨h, hgd⟩) hgd)
  have K6 := Lib.hid (fun (a b : Value) W (h1 : IvsAt W a (knownL m H)) (h2 : IvsAt W b (knownL m H)) => (decide_eq_true (rfl : knownL m H = knownL m H)) ▸ refSame_any _ _ a b W h1 h2)
  unfold IsEO at K1 K3; unfold IsKn at K2
  have HKG := Lib.hid hkg
  have hk300 : (knownL m H).length ≤ 300 := by omega
  have hh300 : (holesL (knownL m H)).length ≤ 10000 := by omega
  clear hkl hkg hhl hgd
  generalize topL (knownL m H) = tt at *
  generalize holesL (knownL m H) = G at *
  generalize repE r (knownL m H) = rr at *
  generalize repE 1 (knownL m H) = r1 at *
  generalize someE (knownL m H) = sb at *
  generalize knownL m H = KL at *
  have HSE := Lib.hid ha.sane
  have HALL := Lib.hid (And.intro ha.all (And.intro ha.low ha.top))
  have HG0 := Lib.hid (hg.here hb)
  have HA0 := Lib.hid (ha.call hb)
  have HB0 := Lib.hid hb; clear hb hg ha C
  go_enter Tryd.func8, Tryd.ntmps8
  go_wp2_with fail
  refine (K0.out _ HA0.out).mono ?_
  rintro e w1 ⟨rfl, h⟩
  have e0 := keep_cell (p := ⟨w.heap.size, 0, none⟩) (v := .int .u64 r) (by simp) h
  have e1 := keep_cell (p := ⟨w.heap.size, 1, none⟩) (v := .int .u64 m) (by simp) h
  have e2 := keep_cell (p := ⟨w.heap.size, 2, none⟩) (v := .slice p H.length cap) (by simp) h
  have hlt : w.heap.size < w1.heap.size := World.block_lt_of_cell? w1 _ e0
  have HA1 := Lib.hid (HA0.out.call h); have HG1 := Lib.hid (HG0.out.here h); have HB1 := Lib.hid (below_call HB0.out h); have HW1 := Lib.hid h; clear h
  have HE0 := Lib.hid (E3.new w r m (.slice p H.length cap) 26 _ rfl)
  have hn1 := below_new w1 (.cells #[.int .u64 r, .int .u64 m, .slice p H.length cap] 26)
  have f0 := keep_cell e0 hn1
  have f1 := keep_cell e1 hn1
  have f2 := keep_cell e2 hn1
  have g0 := keep_cell (p := ⟨w1.heap.size, 0, none⟩) (v := .int .u64 r) (w := w1.alloc (.cells #[.int .u64 r, .int .u64 m, .slice p H.length cap] 26)) (by simp) (Below.refl _ _)
  have g1 := keep_cell (p := ⟨w1.heap.size, 1, none⟩) (v := .int .u64 m) (w := w1.alloc (.cells #[.int .u64 r, .int .u64 m, .slice p H.length cap] 26)) (by simp) (Below.refl _ _)
  have g2 := keep_cell (p := ⟨w1.heap.size, 2, none⟩) (v := .slice p H.length cap) (w := w1.alloc (.cells #[.int .u64 r, .int .u64 m, .slice p H.length cap] 26)) (by simp) (Below.refl _ _)
  have fr : ∀ k, (w1.alloc (.cells #[.int .u64 r, .int .u64 m, .slice p H.length cap] 26)).frozen? ⟨w1.heap.size, k, none⟩ = false := fun k => by simp
  have hszb : (w1.alloc (.cells #[.int .u64 r, .int .u64 m, .slice p H.length cap] 26)).heap.size = w1.heap.size + 1 := World.size_alloc _ _
  have HX := Lib.hid (And.intro g0 (And.intro g1 (And.intro g2 (And.intro fr hszb)))); clear g0 g1 g2 fr hszb
  have HN1 := Lib.hid hn1; clear hn1
  have HF := Lib.hid (And.intro f0 (And.intro f1 f2)); clear f0 f1
  have HLT := Lib.hid hlt; clear hlt
  have f2b := keep_cell f2 (below_new (w1.alloc (.cells #[.int .u64 r, .int .u64 m, .slice p H.length cap] 26)) (.cells #[] 48))
  go_wp2_with (at_builtin; refine append_copyE rfl _ _ (w1.alloc (.cells #[.int .u64 r, .int .u64 m, .slice p H.length cap] 26)) _ (below_new _ _) _ _ H rfl rfl rfl (own_none _ _ (by simp) _ (Nat.le_refl _)) ((HA1.out.call HN1.out).call (below_new _ _)).at' HSE.out.1 (by omega) ?_; intro v' w2 ho hb; obtain ⟨pv, cv, rfl, _⟩ := own_shape ho; have HV := Lib.hid ho; have g0 := keep_cell HX.out.1 hb; have g1 := keep_cell HX.out.2.1 hb; have g2 := keep_cell HX.out.2.2.1 hb; have h0 := keep_free (HX.out.2.2.2.1 2) (by rw [HX.out.2.2.2.2]; exact Nat.lt_succ_self _) hb; have HB2 := Lib.hid hb; clear ho hb)
  clear e0 e1 e2 f2 f2b
  have hs1 : w1.heap.size < w2.heap.size := World.block_lt_of_cell? w2 _ g0
  have hBA := (below_call (below_call HW1.out HN1.out) HB2.out).setCell (p := ⟨w1.heap.size, 2, none⟩) HW1.out.size (.slice pv H.length cv)
  have HE_0 := Lib.hid (HE0.out.call hBA)
  have HA_0 := Lib.hid (HA0.out.call hBA)
  have HG_0 := Lib.hid (HG0.out.here hBA)
  have HB_0 := Lib.hid (below_call HB0.out hBA)
  have hoA : E3 (w2.setCell ⟨w1.heap.size, 2, none⟩ (.slice pv H.length cv)) w1.heap.size r m (.slice pv H.length cv) :=
    ⟨by rw [World.cell?_setCell_other _ _ _ _ (by simp)]; exact g0, by rw [World.cell?_setCell_other _ _ _ _ (by simp)]; exact g1, World.cell?_setCell_same' _ _ _ (by rw [g2]; rfl)⟩
  have HO_0 := Lib.hid hoA; clear hoA
  have hrow := own_set (o := 2) HV.out (b := w1.heap.size) (by rw [HX.out.2.2.2.2]; exact Nat.lt_succ_self _) (.slice pv H.length cv)
  have HV_0 : Hid (AnyAt (w2.setCell ⟨w1.heap.size, 2, none⟩ (.slice pv H.length cv)) (.slice pv H.length cv) m H) := Lib.hid ⟨OwnL.ivs hrow (by omega), HALL.out.1, sane_row hrow, HALL.out.2.1, HALL.out.2.2, by omega⟩
  have hsz : w1.heap.size < (w2.setCell ⟨w1.heap.size, 2, none⟩ (.slice pv H.length cv)).heap.size := by simpa using hs1
  clear g0 g1 g2 h0 hs1 hBA hrow
  have HSZ := Lib.hid hsz; clear hsz
  generalize w2.setCell ⟨w1.heap.size, 2, none⟩ (.slice pv H.length cv) = wA at *
  refine (K1.out _ _ HG_0.out HV_0.out).mono ?_
  rintro e w3 ⟨vc, rfl, hvc, _, hsc, h⟩
  obtain ⟨pc, cc, rfl, _⟩ := hvc.shape
  have NC := Lib.hid hsc.num
  have HW3 := Lib.hid h
  have hn := below_new w3 (.cells #[.int .u64 rr, .int .u64 tt, .slice pc G.length cc] 26)
  have hb := below_call h hn
  have HXc := Lib.hid (E3.new w3 rr tt (.slice pc G.length cc) 26 _ rfl)
  have HE_1 := Lib.hid (HE_0.out.call hb); have HA_1 := Lib.hid (HA_0.out.call hb); have HG_1 := Lib.hid (HG_0.out.here hb); have HO_1 := Lib.hid (HO_0.out.call hb); have HV_1 := Lib.hid (HV_0.out.call hb)
  have NC_1 := Lib.hid (NC.out.call (Nat.le_refl _) hn)
  have HL_1 := Lib.hid hb
  clear h hn hb hvc hsc
  obtain ⟨o0, o1, o2⟩ := HO_1.out
  go_wp2_with fail
  clear o0 o1 o2
  refine (K2.out _ _ HG_1.out HV_1.out).mono ?_
  rintro e w4 ⟨vl, rfl, hvl, hsl, hso, h⟩
  obtain ⟨pl, cl, rfl, _⟩ := hvl.shape
  have NL := Lib.hid hso.num
  have HVL := Lib.hid (And.intro hvl hsl)
  have HXc2 := Lib.hid (HXc.out.call h); have NC_2 := Lib.hid (NC_1.out.call (by simp) h)
  have HE_2 := Lib.hid (HE_1.out.call h); have HA_2 := Lib.hid (HA_1.out.call h); have HG_2 := Lib.hid (HG_1.out.here h); have HO_2 := Lib.hid (HO_1.out.call h); have HV_2 := Lib.hid (HV_1.out.call h)
  have HL_2 := Lib.hid (below_call HL_1.out h)
  have HSZ4 : Hid (w3.heap.size + 1 ≤ w4.heap.size) := Lib.hid (by have := h.size; rw [World.size_alloc] at this; exact this)
  clear h hvl hsl hso
  go_wp2_with (at_builtin; refine append_copyE rfl _ _ w4 _ (below_new _ _) _ _ KL rfl rfl rfl (own_none _ _ rfl _ (Nat.le_refl _)) (HVL.out.1.call (below_new _ _)) HVL.out.2.1 (by omega) ?_; intro v5 w5 ho hb; obtain ⟨pk, ck, rfl, _⟩ := own_shape ho; have HK := Lib.hid ho; have HW5 := Lib.hid hb; clear ho hb)
  have h := HW5.out
  have HXc3 := Lib.hid (HXc2.out.call h); have NC_3 := Lib.hid (NC_2.out.call (Nat.le_trans (Nat.le_succ _) HSZ4.out) h); have NL_3 := Lib.hid (NL.out.call (Nat.le_refl _) h)
  have HE_3 := Lib.hid (HE_2.out.call h); have HA_3 := Lib.hid (HA_2.out.call h); have HG_3 := Lib.hid (HG_2.out.here h); have HO_3 := Lib.hid (HO_2.out.call h); have HV_3 := Lib.hid (HV_2.out.call h)
  have HL_3 := Lib.hid (below_call HL_2.out h)
  have HSZ5 := Lib.hid h.size
  clear h
  refine (K3.out _ _ HG_3.out ⟨OwnL.ivs HK.out (by omega), HKG.out, sane_row HK.out, by omega⟩).mono ?_
  rintro e w6 ⟨vo, rfl, hvo, _, hso, h⟩
  obtain ⟨po, co, rfl, _⟩ := hvo.shape
  have NO := Lib.hid hso.num
  have hn := below_new w6 (.cells #[.int .u64 r1, .int .u64 tt, .slice po G.length co] 26)
  have hb := below_call h hn
  have HXo := Lib.hid (E3.new w6 r1 tt (.slice po G.length co) 26 _ rfl)
  have HXc4 := Lib.hid (HXc3.out.call hb)
  have HSZ6 := Lib.hid h.size
  have HKE : Hid (KeepE wA w3.heap.size w6.heap.size (w3.heap.size + 1) w4.heap.size w4.heap.size w5.heap.size w5.heap.size w6.heap.size (.slice pc G.length cc) (.slice pl KL.length cl) (.slice po G.length co) (.slice pk KL.length ck) G.length KL.length G.length KL
      (w6.alloc (.cells #[.int .u64 r1, .int .u64 tt, .slice po G.length co] 26))) := Lib.hid
    { low := below_call HL_3.out hb, cx := HXc4.out.2.2, cz := HXo.out.2.2, row := (RowE.of HK.out).call hb, c := NC_3.out.call (by have := HSZ4.out; have := HSZ5.out; omega) hb, l := by
        have := NL_3.out.call (by have := HSZ5.out; omega) hb
        rwa [World.size_alloc] at this
      o := NO.out.call (Nat.le_refl _) hn
      lt1 := HW3.out.size, lt2 := Nat.lt_succ_self _, lt3 := HSZ4.out, lt4 := Nat.le_refl _, lt5 := HSZ5.out, lt6 := Nat.le_refl _, lt7 := HSZ6.out, lt8 := Nat.le_refl _ }
  clear h hn hb hvo hso
  have c2 := HKE.out.cx
  go_wp2_with fail
  go_loopw [47] (fun i wr => ∃ k : Nat, i = .int .i64 k ∧ k ≤ G.length ∧ KeepE wA w3.heap.size w6.heap.size (w3.heap.size + 1) w4.heap.size w4.heap.size w5.heap.size w5.heap.size w6.heap.size (.slice pc G.length cc) (.slice pl KL.length cl) (.slice po G.length co) (.slice pk KL.length ck) G.length KL.length G.length KL wr) (fun i _ => G.length - (intOf i).toNat)
  case atStart => exact ⟨0, rfl, Nat.zero_le _, HKE.out⟩
  case round =>
    obtain ⟨k, rfl, hk, hE⟩ := hrel
    have HKC := Lib.hid hE
    by_cases hlt : k < G.length
    · obtain ⟨p', cap', e, _, hn⟩ := hE.c
      cases e
      obtain ⟨g, o, rfl, hB, hT2, hc⟩ := hn (by omega)
      obtain ⟨⟨⟨z, hz⟩, hf⟩, ⟨z2, hz2⟩, hf2⟩ := hc k hlt
      have hbx := hE.cx
      clear hn hc hE
      have i1 : (0 : Int) ≤ (k : Int) := by omega
      have i2 : (k : Int) < (G.length : Int) := by omega
      have hk2 : k ≤ 10000 := by omega
      go_wp2_with fail
      go_roundw
      case rel => exact ⟨k + 1, by go_num, by omega, HKC.out.set (.inl ⟨hB, hT2⟩) _ _⟩
      case measure => simp [intOf]; omega
    · obtain rfl : k = G.length := by omega
      obtain ⟨wHKC, rfl⟩ : ∃ wHKC : World, wHKC = wr := ⟨_, rfl⟩
      clear hE c2
      go_wp2_with fail
      go_loopw [62] (fun i wr => ∃ k : Nat, i = .int .i64 k ∧ k ≤ KL.length ∧ KeepE wA w3.heap.size w6.heap.size (w3.heap.size + 1) w4.heap.size w4.heap.size w5.heap.size w5.heap.size w6.heap.size (.slice pc G.length cc) (.slice pl KL.length cl) (.slice po G.length co) (.slice pk KL.length ck) G.length KL.length G.length KL wr) (fun i _ => KL.length - (intOf i).toNat)
      case atStart => exact ⟨0, rfl, Nat.zero_le _, HKC.out⟩
      case round =>
        obtain ⟨k, rfl, hk, hE⟩ := hrel
        have HKL := Lib.hid hE
        by_cases hlt : k < KL.length
        · obtain ⟨p', cap', e, _, hn⟩ := hE.l
          cases e
          obtain ⟨g, o, rfl, hB, hT2, hc⟩ := hn (by omega)
          obtain ⟨⟨⟨z, hz⟩, hf⟩, ⟨z2, hz2⟩, hf2⟩ := hc k hlt
          clear hn hc hE
          have i1 : (0 : Int) ≤ (k : Int) := by omega
          have i2 : (k : Int) < (KL.length : Int) := by omega
          have hk2 : k ≤ 10000 := by omega
          go_wp2_with fail
          go_roundw
          case rel => exact ⟨k + 1, by go_num, by omega, HKL.out.set (.inr <| .inl ⟨hB, hT2⟩) _ _⟩
          case measure => simp [intOf]; omega
        · obtain rfl : k = KL.length := by omega
          obtain ⟨wHKL, rfl⟩ : ∃ wHKL : World, wHKL = wr := ⟨_, rfl⟩
          have z2 := hE.cz
          clear hE
          go_wp2_with fail
          go_loopw [77] (fun i wr => ∃ k : Nat, i = .int .i64 k ∧ k ≤ G.length ∧ KeepE wA w3.heap.size w6.heap.size (w3.heap.size + 1) w4.heap.size w4.heap.size w5.heap.size w5.heap.size w6.heap.size (.slice pc G.length cc) (.slice pl KL.length cl) (.slice po G.length co) (.slice pk KL.length ck) G.length KL.length G.length KL wr) (fun i _ => G.length - (intOf i).toNat)
          case atStart => exact ⟨0, rfl, Nat.zero_le _, HKL.out⟩
          case round =>
            obtain ⟨k, rfl, hk, hE⟩ := hrel
            have HKO := Lib.hid hE
            by_cases hlt : k < G.length
            · obtain ⟨p', cap', e, _, hn⟩ := hE.o
              cases e
              obtain ⟨g, o, rfl, hB, hT2, hc⟩ := hn (by omega)
              obtain ⟨⟨⟨z, hz⟩, hf⟩, ⟨z2, hz2⟩, hf2⟩ := hc k hlt
              have hbx := hE.cz
              clear hn hc hE
              have i1 : (0 : Int) ≤ (k : Int) := by omega
              have i2 : (k : Int) < (G.length : Int) := by omega
              have hk2 : k ≤ 10000 := by omega
              go_wp2_with fail
              go_roundw
              case rel => exact ⟨k + 1, by go_num, by omega, HKO.out.set (.inr <| .inr ⟨hB, hT2⟩) _ _⟩
              case measure => simp [intOf]; omega
            · obtain rfl : k = G.length := by omega
              obtain ⟨wHKO, rfl⟩ : ∃ wHKO : World, wHKO = wr := ⟨_, rfl⟩
              have hlow := hE.low
              have hrowz := hE.row.1
              obtain ⟨e0, e1, e2⟩ := HE_0.out.call hlow
              obtain ⟨o0, o1, o2⟩ := HO_0.out.call hlow
              have HAZ := Lib.hid (HA_0.out.call hlow)
              have HVZ := Lib.hid (HV_0.out.call hlow)
              have HGZ := Lib.hid (HG_0.out.here hlow)
              have HBZ := Lib.hid (below_call HB_0.out hlow)
              have HKZ := Lib.hid (OwnL.ivs hrowz (by omega))
              clear hE hlow hrowz
              go_wp2_with fail
              have HA_x0 := HAZ; have HV_x0 := HVZ; have HB_x0 := HBZ; have HK_x0 := HKZ
              refine (KA.out _ HGZ.out).mono ?_
              rintro e x1 ⟨rfl, h⟩
              have e0 := keep_cell e0 h
              have e1 := keep_cell e1 h
              have e2 := keep_cell e2 h
              have o0 := keep_cell o0 h
              have o1 := keep_cell o1 h
              have o2 := keep_cell o2 h
              have HA_x1 := Lib.hid (HA_x0.out.call h); have HV_x1 := Lib.hid (HV_x0.out.call h); have HB_x1 := Lib.hid (below_call HB_x0.out h); have HK_x1 := Lib.hid (HK_x0.out.call h)
              clear h
              go_wp2_with fail
              refine (K4.out _ _ _ HV_x1.out.at' HA_x1.out.at').mono ?_
              rintro e x2 ⟨rfl, h⟩
              have e0 := keep_cell e0 h
              have e1 := keep_cell e1 h
              have e2 := keep_cell e2 h
              have o0 := keep_cell o0 h
              have o1 := keep_cell o1 h
              have o2 := keep_cell o2 h
              have HA_x2 := Lib.hid (HA_x1.out.call h); have HV_x2 := Lib.hid (HV_x1.out.call h); have HB_x2 := Lib.hid (below_call HB_x1.out h); have HK_x2 := Lib.hid (HK_x1.out.call h)
              clear h
              go_wp2_with fail
              refine (K5.out _ HA_x2.out).mono ?_
              rintro e x3 ⟨vk2, rfl, hvk, h⟩
              have e0 := keep_cell e0 h
              have e1 := keep_cell e1 h
              have e2 := keep_cell e2 h
              have o0 := keep_cell o0 h
              have o1 := keep_cell o1 h
              have o2 := keep_cell o2 h
              have HA_x3 := Lib.hid (HA_x2.out.call h); have HV_x3 := Lib.hid (HV_x2.out.call h); have HB_x3 := Lib.hid (below_call HB_x2.out h); have HK_x3 := Lib.hid (HK_x2.out.call h)
              have HVK := Lib.hid (OwnL.ivs hvk (by omega)); clear hvk
              clear h
              go_wp2_with fail
              refine (K6.out _ _ _ HK_x3.out HVK.out).mono ?_
              rintro e x4 ⟨rfl, h⟩
              have e0 := keep_cell e0 h
              have e1 := keep_cell e1 h
              have e2 := keep_cell e2 h
              have o0 := keep_cell o0 h
              have o1 := keep_cell o1 h
              have o2 := keep_cell o2 h
              have HA_x4 := Lib.hid (HA_x3.out.call h); have HV_x4 := Lib.hid (HV_x3.out.call h); have HB_x4 := Lib.hid (below_call HB_x3.out h); have HK_x4 := Lib.hid (HK_x3.out.call h)
              clear h
              go_wp2_with fail
              go_ret
              exact ⟨rfl, HB_x4.out⟩
set_option maxRecDepth 100000 in
set_option maxHeartbeats 4000000 in
theorem lawKeeps7_any (C : EntC) (v : Value) (w : World) (hg : ErrT w) (ha : entArg w v) : Calls Tryd.prog 8 #[v] w (IsEnd true w) := by
  obtain ⟨r, m, s, rfl, hm, hsane, hs⟩ := ha
  have KA := Lib.hid (fun W h => alive7_any C W h)
  have HG := Lib.hid hg; clear hg
  rcases hs with ⟨q, n, cap, rfl, hn⟩ | ⟨H, hl, h64, hi⟩
  · have i3 : (60 : Int) < (n : Int) := by omega
    have hb := below_new w (.cells #[.int .u64 r, .int .u64 m, .slice q n cap] 26)
    have HG1 := Lib.hid (HG.out.here hb)
    have HB1 := Lib.hid hb; clear hb C hsane hn
    go_enter Tryd.func8, Tryd.ntmps8
    go_wp2_with fail
    refine (KA.out _ HG1.out).mono ?_
    rintro e w2 ⟨rfl, h⟩
    have HB2 := Lib.hid (below_call HB1.out h); clear h
    go_wp2_with fail
    go_ret
    exact ⟨rfl, HB2.out⟩
  · obtain ⟨p, cap, rfl, _⟩ := hi.shape
    have i3 : ¬ (60 : Int) < (H.length : Int) := by omega
    have hb := below_new w (.cells #[.int .u64 r, .int .u64 m, .slice p H.length cap] 26)
    have HE0 := Lib.hid (E3.new w r m (.slice p H.length cap) 26 _ rfl)
    have HA0 : Hid (AnyAt (w.alloc (.cells #[.int .u64 r, .int .u64 m, .slice p H.length cap] 26)) (.slice p H.length cap) m H) := Lib.hid ⟨hi.call hb, h64, hsane, hm.1, hm.2, by omega⟩
    have HAw : Hid (AnyAt w (.slice p H.length cap) m H) := Lib.hid ⟨hi, h64, hsane, hm.1, hm.2, by omega⟩
    have HG0 := Lib.hid (HG.out.here hb)
    have HB0 := Lib.hid hb; clear hb hi
    have HC := Lib.hid C; clear C
    have K0 := Lib.hid (fun W (h : AnyAt W (.slice p H.length cap) m H) => refRightE_any r m H (.slice p H.length cap) W h.at' h.all)
    cases ho : okN m H with
    | false =>
      rw [ho] at K0
      clear ho HC
      go_enter Tryd.func8, Tryd.ntmps8
      go_wp2_with fail
      obtain ⟨e0, e1, e2⟩ := HE0.out
      refine (K0.out _ HA0.out).mono ?_
      rintro e w1 ⟨rfl, h⟩
      clear e0 e1 e2
      have HE1 := Lib.hid (HE0.out.call h); have HA1 := Lib.hid (HA0.out.call h); have HG1 := Lib.hid (HG0.out.here h); have HB1 := Lib.hid (below_call HB0.out h)
      clear h
      obtain ⟨e0, e1, e2⟩ := HE1.out
      go_wp2_with fail
      refine (KA.out _ HG1.out).mono ?_
      rintro e w2 ⟨rfl, h⟩
      clear e0 e1 e2
      have HE2 := Lib.hid (HE1.out.call h); have HA2 := Lib.hid (HA1.out.call h); have HG2 := Lib.hid (HG1.out.here h); have HB2 := Lib.hid (below_call HB1.out h)
      clear h
      obtain ⟨e0, e1, e2⟩ := HE2.out
      go_wp2_with fail
      go_ret
      exact ⟨rfl, HB2.out⟩
    | true =>
      have HGD := Lib.hid ((okN_iff h64 hm).1 ho)
      rw [ho] at K0
      clear ho
      exact lawKeeps7_right HC.out r m H p cap w HG.out HAw.out hl HGD.out
end Go.Proofs.YtjnpcpcgigdngaaDoor
