/- Package vector: Clone. Conditions: the vector is in memory. -/
import Derived.Test.YtemhbmcgnmfoaaaGreatDoorPCodeA
namespace Go.Proofs.YtemhbmcgnmfoaaaGreatDoor
open Go.RowKit
theorem vec_slices {w : World} {v : Value} {V : List (Int × Int × List Iv)} (hv : VecM w v V) : ∃ es : List (Int × Int × Value), VecAt w v es ∧ es.length = V.length ∧ (∀ e ∈ es, ∃ p n c, e.2.2 = .slice p n c) ∧
    ∀ (i : Nat) (e : Int × Int × Value) (x : Int × Int × List Iv), es[i]? = some e → V[i]? = some x → e.1 = x.1 ∧ e.2.1 = x.2.1 ∧ AnyAt w e.2.2 x.2.1 x.2.2 := by
  obtain ⟨⟨es, h1, h2, h3⟩, _⟩ := hv
  refine ⟨es, h1, h2, fun e he => ?_, h3⟩
  obtain ⟨i, hi⟩ := List.mem_iff_getElem?.1 he
  have hlt : i < V.length := by have := (List.getElem?_eq_some_iff.1 hi).1; omega
  obtain ⟨p, cap, hs, _⟩ := (h3 i e V[i] hi (by simp [hlt])).2.2.at'.shape
  exact ⟨p, _, cap, hs⟩
theorem entC_one : ∀ es : List (Int × Int × Value), (∀ e ∈ es, ∃ p n c, e.2.2 = .slice p n c) → ∀ u ∈ entC es, u.oneCell' = true := by
  intro es h u hu
  unfold entC at hu
  obtain ⟨e, he, hu⟩ := List.mem_flatMap.1 hu
  obtain ⟨p, n, c, hs⟩ := h e he
  rw [hs] at hu
  simp at hu
  rcases hu with rfl | rfl | rfl <;> simp [Value.oneCell']
theorem ent_cells {w : World} {ad : Addr} {n cap : Nat} {es : List (Int × Int × Value)} (h : VecAt w (.slice (some ad) n cap) es) : ∀ j u, (entC es)[j]? = some u → w.cell? (ad.add j) = some u := by
  intro j u hj
  obtain ⟨p, c, e, _, h3⟩ := h
  cases e
  have hne : es ≠ [] := by rintro rfl; simp [entC] at hj
  obtain ⟨b, o, e2, h6⟩ := h3 hne
  cases e2
  have hlt : j < es.length * 3 := by have := (List.getElem?_eq_some_iff.1 hj).1; rw [entC_len] at this; exact this
  obtain ⟨i, hi3, hilt⟩ : ∃ i, (j = i * 3 ∨ j = i * 3 + 1 ∨ j = i * 3 + 2) ∧ i < es.length := ⟨j / 3, by omega, by omega⟩
  obtain ⟨x, hi⟩ : ∃ x, es[i]? = some x := ⟨es[i], by simp [hilt]⟩
  obtain ⟨c0, c1, c2⟩ := h6 _ _ hi
  obtain ⟨k0, k1, k2⟩ := entC_at es _ _ hi
  have hd : ∀ q, (⟨b, o, none⟩ : Addr).add q = ⟨b, o + q, none⟩ := fun q => by simp [Addr.add]
  rw [hd]
  rcases hi3 with rfl | rfl | rfl
  · rw [k0] at hj
    obtain rfl := Option.some.inj hj
    exact c0
  · rw [k1] at hj
    obtain rfl := Option.some.inj hj
    exact c1
  · rw [k2] at hj
    obtain rfl := Option.some.inj hj
    exact c2
/-- A call that returns a copy of a list of entries. -/
def IsCp9 (es : List (Int × Int × Value)) (w : World) (e : Ending) (w' : World) : Prop := ∃ v, e = .returned v ∧ w'.ownsRow w.heap.size 61 3 v es.length (entC es) ∧ Below w.heap.size w w'
set_option maxRecDepth 100000 in
set_option maxHeartbeats 2000000 in
theorem cloneV_any (es : List (Int × Int × Value)) (p : Option Addr) (n cap : Nat) (w : World) (ha : VecAt w (.slice p n cap) es) (hsv : SaneE (.slice p n cap)) (hl : es.length ≤ 100000) (hs : ∀ e ∈ es, ∃ p n c, e.2.2 = .slice p n c) :
    Calls Tryz.prog 94 #[.slice p n cap] w (IsCp9 es w) := by
  obtain ⟨i0, hi', hz0, hz1, hz2⟩ := info_parts infoE
  have hn : n = es.length := by obtain ⟨p', c', e, _⟩ := ha; cases e; rfl
  subst hn
  have q22 : ∀ (w : World) (a : Option Addr) (n c n' c' : Nat), (binOp .eql 40 (.slice a n c) (.slice none n' c')).run Tryz.prog w = .ok (.bool a.isNone) w := fun w a n c n' c' => Lib.run_eql_slice_nil w _ _ a n c n' c' Tryz.underlying40
  cases p with
  | none =>
    obtain ⟨h1, rfl⟩ := hsv.1 _ _ rfl
    obtain rfl : es = [] := List.eq_nil_of_length_eq_zero h1
    clear ha hsv hl h1 hs
    go_enter Tryz.func94, Tryz.ntmps94
    go_wp2_with fail
    go_ret
    exact ⟨_, rfl, World.ownsRow_nil _ _ _ _, Below.refl _ _⟩
  | some ad =>
    have HA := Lib.hid ha; clear ha
    have HS := Lib.hid (entC_one es hs); clear hs hsv
    have HR := Lib.hid (World.ownsRow_made (base := w.heap.size) (e := 61) (size := 3) w #[] 0 (Nat.le_refl _) (Nat.zero_le _) (by simp))
    go_enter Tryz.func94, Tryz.ntmps94
    go_wp2_with (at_builtin; refine wpList_append_own _ rfl _ _ 40 rfl w.heap.size 61 i0 (.agg #[.int .u64 0, .int .u64 0, .slice none 0 0]) 3 40 Tryz.underlying40 hi' hz0 hz1 hz2 rfl (by decide) _ 0 [] rfl HR.out ad es.length cap (entC es) rfl (entC_len es) (ent_cells (HA.out.call (below_new _ _))) HS.out (by unfold maxLen; omega) (by omega) (below_new _ _).size ?_; intro v' w' ho hgr _; have HB := Lib.hid (own_grown (below_new w (.cells #[] 61)) HR.out hgr (below_new _ _).size); obtain ⟨q', c', rfl, _⟩ := own_shape ho; have HO := Lib.hid ho; clear ho hgr)
    go_ret
    refine ⟨_, rfl, ?_, HB.out⟩
    have h := HO.out
    rw [Nat.zero_add, List.nil_append] at h
    simpa using h
/-- While the lists of a copied vector are copied: the block g of its entries, k of them done. -/
structure ClS (g : Nat) (es es' : List (Int × Int × Value)) (V : List (Int × Int × List Iv)) (k : Nat) (W : World) : Prop where
  len : es'.length = V.length
  el : ∀ (i : Nat) (e : Int × Int × Value) (x : Int × Int × List Iv), es'[i]? = some e → V[i]? = some x →
    (e.1 = x.1 ∧ e.2.1 = x.2.1) ∧ (W.cell? ⟨g, i * 3, none⟩ = some (.int .u64 e.1) ∧ W.cell? ⟨g, i * 3 + 1, none⟩ = some (.int .u64 e.2.1) ∧ W.cell? ⟨g, i * 3 + 2, none⟩ = some e.2.2) ∧
    (W.frozen? ⟨g, i * 3, none⟩ = false ∧ W.frozen? ⟨g, i * 3 + 1, none⟩ = false ∧ W.frozen? ⟨g, i * 3 + 2, none⟩ = false) ∧
    (i < k → (IvsAt W e.2.2 x.2.2 ∧ SoftE W (g + 1) e.2.2 x.2.2.length) ∧ SaneE e.2.2) ∧ (k ≤ i → es[i]? = some e)
theorem ClS.call {g k : Nat} {es es' : List (Int × Int × Value)} {V : List (Int × Int × List Iv)} {A B : World} (h : ClS g es es' V k A) (hb : Below A.heap.size A B) : ClS g es es' V k B := by
  refine ⟨h.len, fun i e x he hx => ?_⟩
  obtain ⟨h1, ⟨c0, c1, c2⟩, ⟨f0, f1, f2⟩, h4, h5⟩ := h.el i e x he hx
  have hlt : g < A.heap.size := World.block_lt_of_cell? A _ c0
  exact ⟨h1, ⟨keep_cell c0 hb, keep_cell c1 hb, keep_cell c2 hb⟩, ⟨keep_free f0 hlt hb, keep_free f1 hlt hb, keep_free f2 hlt hb⟩, fun hi => ⟨⟨(h4 hi).1.1.call hb, (h4 hi).1.2.call hb⟩, (h4 hi).2⟩, h5⟩
theorem ClS.put {g k : Nat} {es es' : List (Int × Int × Value)} {V : List (Int × Int × List Iv)} {A : World} (h : ClS g es es' V k A) {e : Int × Int × Value} {x : Int × Int × List Iv} (he : es'[k]? = some e) (hx : V[k]? = some x) {s : Value}
    (hs : (IvsAt A s x.2.2 ∧ SoftE A (g + 1) s x.2.2.length) ∧ SaneE s) : ClS g es (es'.set k (e.1, e.2.1, s)) V (k + 1) (A.setCell ⟨g, k * 3 + 2, none⟩ s) := by
  obtain ⟨hk1, ⟨d0, d1, d2⟩, ⟨g0, g1, g2⟩, _, _⟩ := h.el k e x he hx
  have hlt : k < es'.length := (List.getElem?_eq_some_iff.1 he).1
  have oth : ∀ (o : Nat) (u : Value), o ≠ k * 3 + 2 → A.cell? ⟨g, o, none⟩ = some u → (A.setCell ⟨g, k * 3 + 2, none⟩ s).cell? ⟨g, o, none⟩ = some u := fun o u ho hc => by
    rw [World.cell?_setCell_other _ _ _ _ (by intro e; injection e with e1 e2; omega)]; exact hc
  refine ⟨by rw [List.length_set]; exact h.len, fun i e' x' he' hx' => ?_⟩
  by_cases hik : i = k
  · subst hik
    rw [List.getElem?_set_self hlt] at he'
    obtain rfl := Option.some.inj he'
    obtain rfl := Option.some.inj (hx.symm.trans hx')
    refine ⟨hk1, ⟨oth _ _ (by omega) d0, oth _ _ (by omega) d1, World.cell?_setCell_same' _ _ _ (by rw [d2]; rfl)⟩, ⟨(World.frozen?_setCell _ _ _ _).trans g0, (World.frozen?_setCell _ _ _ _).trans g1, (World.frozen?_setCell _ _ _ _).trans g2⟩, fun _ => ⟨soft_set hs.1 (Nat.lt_succ_self g) s, hs.2⟩, fun h0 => absurd h0 (by omega)⟩
  · rw [List.getElem?_set_ne (fun e0 => hik e0.symm)] at he'
    obtain ⟨h1, ⟨c0, c1, c2⟩, ⟨f0, f1, f2⟩, h4, h5⟩ := h.el i e' x' he' hx'
    exact ⟨h1, ⟨oth _ _ (by omega) c0, oth _ _ (by omega) c1, oth _ _ (by omega) c2⟩, ⟨(World.frozen?_setCell _ _ _ _).trans f0, (World.frozen?_setCell _ _ _ _).trans f1, (World.frozen?_setCell _ _ _ _).trans f2⟩,
      fun hi => ⟨soft_set (h4 (by omega)).1 (Nat.lt_succ_self g) s, (h4 (by omega)).2⟩, fun hi => h5 (by omega)⟩
theorem ClS.done {w wr : World} {g : Nat} {es es' : List (Int × Int × Value)} {V : List (Int × Int × List Iv)} {q : Option Addr} {cq : Nat} (h : ClS g es es' V V.length wr) (hq : V ≠ [] → q = some ⟨g, 0, none⟩ ∧ w.heap.size ≤ g) (hs : SaneE (.slice q V.length cq)) (hl : V.length ≤ 100000)
    (hr : ∀ x ∈ V, 0 ≤ x.1 ∧ x.1 ≤ 18446744073709551615) (hal : ∀ (i : Nat) (e : Int × Int × Value) (x : Int × Int × List Iv), es[i]? = some e → V[i]? = some x → e.1 = x.1 ∧ e.2.1 = x.2.1 ∧ AnyAt w e.2.2 x.2.1 x.2.2) (hel : es.length = V.length) :
    VecS wr (.slice q V.length cq) V ∧ SoftW wr w.heap.size (.slice q V.length cq) (nsV V) := by
  have hm : V.length ≤ maxLen := by unfold maxLen; omega
  have hlt : ∀ {i : Nat} {x : Int × Int × List Iv}, V[i]? = some x → i < V.length := fun hx => (List.getElem?_eq_some_iff.1 hx).1
  refine ⟨⟨⟨⟨es', ⟨q, cq, by rw [h.len], by rw [h.len]; exact hm, fun hne => ?_⟩, h.len, fun i e x he hx => ?_⟩, hl⟩, hs, hr⟩, ?_⟩
  · have hV : V ≠ [] := by rintro rfl; exact hne (List.eq_nil_of_length_eq_zero (by rw [h.len]; rfl))
    refine ⟨g, 0, (hq hV).1, fun i e he => ?_⟩
    have hi : i < V.length := by have := (List.getElem?_eq_some_iff.1 he).1; rw [h.len] at this; exact this
    obtain ⟨_, ⟨c0, c1, c2⟩, _⟩ := h.el i e V[i] he (by simp [hi])
    rw [Nat.zero_add]
    exact ⟨c0, c1, c2⟩
  · obtain ⟨h1, _, _, h4, _⟩ := h.el i e x he hx
    have hi := hlt hx
    have hi2 : i < es.length := by omega
    obtain ⟨_, _, ha⟩ := hal i es[i] x (by simp [hi2]) hx
    have h4 := h4 hi
    exact ⟨h1.1, h1.2, h4.1.1, ha.all, h4.2, ha.low, ha.top, ha.len⟩
  · have hnl : (nsV V).length = V.length := by unfold nsV; rw [List.length_map]
    refine ⟨q, cq, by rw [hnl], by rw [hnl]; exact hm, fun hne => ?_⟩
    have hV : V ≠ [] := by rintro rfl; exact hne rfl
    refine ⟨g, 0, (hq hV).1, (hq hV).2, fun i n hi => ?_⟩
    have hilt : i < V.length := by have := (List.getElem?_eq_some_iff.1 hi).1; rw [hnl] at this; exact this
    have hx : V[i]? = some V[i] := by simp [hilt]
    have hi2 : i < es'.length := by rw [h.len]; exact hilt
    have he : es'[i]? = some es'[i] := by simp [hi2]
    obtain ⟨_, ⟨c0, c1, c2⟩, ⟨f0, f1, _⟩, h4, _⟩ := h.el i _ _ he hx
    have hn : n = V[i].2.2.length := by unfold nsV at hi; rw [List.getElem?_map, hx] at hi; exact (Option.some.inj hi).symm
    subst hn
    rw [Nat.zero_add]
    exact ⟨⟨_, c0⟩, ⟨_, c1⟩, f0, f1, _, c2, soft_low9 (h4 hilt).1.2 (Nat.le_trans (hq hV).2 (Nat.le_succ g))⟩
set_option maxRecDepth 100000 in
set_option maxHeartbeats 4000000 in
theorem vClone_any (V : List (Int × Int × List Iv)) (v : Value) (w : World) (hv : VecS w v V) : Calls Tryz.prog 62 #[v] w (IsVN V w) := by
  obtain ⟨es, hat, hel, hss, hal⟩ := vec_slices hv.m
  obtain ⟨p, cap, rfl⟩ := hv.m.shape
  have hlen := hv.m.len
  have K := Lib.hid (cloneV_any es p V.length cap w hat hv.sane (by omega) hss)
  have HR := Lib.hid hv.rng
  have HAL := Lib.hid (And.intro hal hss)
  have HEL := Lib.hid hel
  clear hv hat hss hal hel
  have KE := Lib.hid cloneE_any
  go_enter Tryz.func62, Tryz.ntmps62
  go_wp2_with fail
  refine K.out.mono ?_
  rintro e w1 ⟨u, rfl, hrow, h⟩
  have H1 := Lib.hid h; clear h
  -- the copy's block
  obtain ⟨q, cq, g, rfl, hq, hgl, hcl, hsn⟩ : ∃ q cq g, u = .slice q V.length cq ∧ (V ≠ [] → q = some ⟨g, 0, none⟩ ∧ w.heap.size ≤ g) ∧ (V ≠ [] → g < w1.heap.size) ∧ ClS g es es V 0 w1 ∧ SaneE u := by
    have hsn := sane_own hrow
    have hrow2 := hrow
    have hel := HEL.out
    rcases hrow.2 with ⟨rfl, h0⟩ | ⟨g, c, cur, rfl, hbg, hgg, hnc, hcm, _⟩
    · have hV : V.length = 0 := by omega
      have hVn : V = [] := List.eq_nil_of_length_eq_zero hV
      exact ⟨none, 0, 0, by rw [hV], fun hne => absurd hVn hne, fun hne => absurd hVn hne, ⟨hel, fun i e x _ hx => by rw [hVn] at hx; simp at hx⟩, hsn⟩
    · refine ⟨_, c, g, by rw [hel], fun _ => ⟨rfl, hbg⟩, fun _ => (Array.getElem?_eq_some_iff.1 hgg).1, ⟨hel, fun i e x he hx => ?_⟩, hsn⟩
      obtain ⟨c0, c1, c2⟩ := own_cells3 hrow2 rfl i e he
      rw [Nat.zero_add] at c0 c1 c2
      exact ⟨⟨(HAL.out.1 i e x he hx).1, (HAL.out.1 i e x he hx).2.1⟩, ⟨c0, c1, c2⟩, ⟨hrow2.frozenAt _, hrow2.frozenAt _, hrow2.frozenAt _⟩, fun hi => absurd hi (Nat.not_lt_zero i), fun _ => he⟩
  have HQ := Lib.hid (And.intro hq hgl); clear hq hgl hrow
  have HSN := Lib.hid hsn; clear hsn
  have HCL := Lib.hid hcl; clear hcl
  go_wp2_with fail
  go_loopw [10] (fun i wr => ∃ (k : Nat) (es' : List (Int × Int × Value)), i = .int .i64 k ∧ k ≤ V.length ∧ ClS g es es' V k wr ∧ Below w.heap.size w wr ∧ w1.heap.size ≤ wr.heap.size) (fun i _ => V.length - (intOf i).toNat)
  case atStart => exact ⟨0, es, rfl, Nat.zero_le _, HCL.out, H1.out, Nat.le_refl _⟩
  case round =>
    obtain ⟨k, es', rfl, hk, hcs, hb, hsz⟩ := hrel
    have HB := Lib.hid hb; clear hb
    by_cases hlt : k < V.length
    · obtain ⟨⟨x, m, H⟩, hx⟩ : ∃ x, V[k]? = some x := ⟨V[k], by simp [hlt]⟩
      have hlt2 : k < es'.length := by rw [hcs.len]; exact hlt
      obtain ⟨⟨r, m2, s0⟩, he⟩ : ∃ e, es'[k]? = some e := ⟨es'[k], by simp [hlt2]⟩
      obtain ⟨⟨e1, e2⟩, ⟨c0, c1, c2⟩, ⟨f0, f1, f2⟩, _, hold⟩ := hcs.el k _ _ he hx
      have he0 := hold (Nat.le_refl _)
      obtain ⟨_, _, ha⟩ := HAL.out.1 k _ _ he0 hx
      dsimp only at e1 e2 c0 c1 c2 ha
      subst e1 e2
      obtain ⟨ps, cs, rfl, _⟩ := ha.at'.shape
      have hVne : V ≠ [] := by rintro rfl; simp at hlt
      obtain ⟨rfl, hgw⟩ := HQ.out.1 hVne
      have hgl : g < wr.heap.size := Nat.lt_of_lt_of_le (HQ.out.2 hVne) hsz
      have hbn := below_new wr (.cells #[.int .u64 r, .int .u64 m2, .slice ps H.length cs] 61)
      have KC := Lib.hid (KE.out H ps H.length cs _ ((ha.at'.call HB.out).call hbn) ha.sane.1 (by have := ha.len; omega))
      have HBN := Lib.hid hbn; clear hbn
      have HHL : Hid (H.length ≤ 5000) := Lib.hid ha.len
      have i1 : (0 : Int) ≤ (k : Int) := by omega
      have i2 : (k : Int) < (V.length : Int) := by omega
      have c0' : wr.cell? ⟨g, 0 + k * 3, none⟩ = some (.int .u64 r) := by rw [Nat.zero_add]; exact c0
      have c1' : wr.cell? ⟨g, 0 + k * 3 + 1, none⟩ = some (.int .u64 m2) := by rw [Nat.zero_add]; exact c1
      have c2' : wr.cell? ⟨g, 0 + k * 3 + 2, none⟩ = some (.slice ps H.length cs) := by rw [Nat.zero_add]; exact c2
      have HC := Lib.hid (And.intro hcs (And.intro he hx)); clear hcs he hx hold he0 ha
      have HF := Lib.hid (And.intro c2 f2); clear f0 f1 f2
      have HG := Lib.hid (And.intro hgw (And.intro hgl hsz)); clear hgw hgl hsz hVne
      go_wp2_with fail
      refine KC.out.mono ?_
      rintro e w2 ⟨vs, rfl, hvs, h⟩
      obtain ⟨pv, cv, rfl, _⟩ := own_shape hvs
      have hb2 := below_call HBN.out h
      have t2 := keep_cell HF.out.1 hb2
      have u2 := keep_free HF.out.2 HG.out.2.1 hb2
      have hsv : (IvsAt w2 (.slice pv H.length cv) H ∧ SoftE w2 (g + 1) (.slice pv H.length cv) H.length) ∧ SaneE (.slice pv H.length cv) :=
        ⟨⟨hvs.ivs (by have := HHL.out; omega), soft_low9 (softE_own hvs) (Nat.le_trans (Nat.succ_le_of_lt HG.out.2.1) HBN.out.size)⟩, sane_row hvs⟩
      have HP := Lib.hid ((HC.out.1.call hb2).put HC.out.2.1 HC.out.2.2 hsv)
      have HB2 := Lib.hid (And.intro (below_call HB.out hb2) (Nat.le_trans HG.out.2.2 hb2.size)); clear hb2 hsv hvs h c0 c1 c2 c0' c1' c2'
      have t2' : w2.cell? ⟨g, 0 + k * 3 + 2, none⟩ = some (.slice ps H.length cs) := by rw [Nat.zero_add]; exact t2
      have u2' : w2.frozen? ⟨g, 0 + k * 3 + 2, none⟩ = false := by rw [Nat.zero_add]; exact u2
      go_wp2_with fail
      go_roundw
      case rel => exact ⟨k + 1, _, by go_num, by omega, HP.out, HB2.out.1.setCell (p := ⟨g, k * 3 + 2, none⟩) HG.out.1 _, by simpa using HB2.out.2⟩
      case measure => simp [intOf]; omega
    · obtain rfl : k = V.length := by omega
      have HC := Lib.hid hcs; clear hcs
      go_wp2_with fail
      go_ret
      obtain ⟨s1, s2⟩ := HC.out.done HQ.out.1 HSN.out hlen HR.out HAL.out.1 HEL.out
      exact ⟨_, rfl, s1, s2, HB.out⟩
end Go.Proofs.YtemhbmcgnmfoaaaGreatDoor
