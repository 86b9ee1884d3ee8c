/- The contracts of package lattice, second part: Subset, Add, Count. Conditions: at most 1000 entries with at most 1000 holes each; as each theorem says. Made by tools/gen_lcodeb.py. -/
import Derived.Test.YtefiobfljhmkkaaLPairs
import Derived.Test.YtefiobfljhmkkaaPAlive
import Derived.Test.YtefiobfljhmkkaaPMath
import Derived.Test.YtefiobfljhmkkaaNSetC
import Derived.Test.YtefiobfljhmkkaaCells
import Derived.Test.YtefiobfljhmkkaaNRef
import Derived.Test.YtefiobfljhmkkaaRIv
import Derived.Shelf.SlGeneric
import Derived.Shelf.SlSorted.Search
import Derived.Ground.SlsoProg
import Derived.Test.YtefiobfljhmkkaaProg
import Derived.Sort.Grow
import Derived.Deep.DrawnRows
namespace Go.Proofs.Ytefiobfljhmkkaa
open Go.RowKit Go.Maps

/-- What the entry that comes stands for. -/
theorem pairs_item {w1 : World} {A B : List (Int × Int × List Iv)} {D : DataW Value} (h : PairsD w1 A B D) {r a m a2 m2 : Int} {p p2 : Option Addr} {n c n2 c2 : Nat} {y : DataW Value × List MemPlace}
    (hv : pairR (.agg #[.int .u64 a, .int .u64 m, .slice p n c, .int .u64 a2, .int .u64 m2, .slice p2 n2 c2]) = some y) (hat : ∀ zd, D.atKey (.int .u64 r) zd = y.1) :
    SideAt w1 m (.slice p n c) (knV A r) ∧ SideAt w1 m2 (.slice p2 n2 c2) (knV B r) := by
  obtain ⟨u, h2, h3⟩ := h.at' r (has_true_of_atKey hat)
  have e := congrArg Prod.fst (pairR_held hv)
  rw [← hat (.held u), h2] at e
  cases e
  obtain ⟨r1, m1, s1, r2, m2', s2, e, h4, h5⟩ := h3
  cases e
  exact ⟨h4, h5⟩
set_option maxRecDepth 100000 in
set_option maxHeartbeats 8000000 in
theorem lSubset_any (A B : List (Int × Int × List Iv)) (a b : Value) (w : World) (ha : VecS w a A) (hb : VecS w b B) (gA : GoodV A) (gB : GoodV B) (sA : smallV 1000 1000 A) (sB : smallV 1000 1000 B) :
    Calls Try.prog 14 #[a, b] w (IsEnd (decide (opV subL A B = [])) w) := by
  obtain ⟨pa, ca, rfl⟩ := ha.m.shape
  obtain ⟨pb, cb, rfl⟩ := hb.m.shape
  have KP := Lib.hid (pairs_any A B _ _ w ha hb gA gB (by have := sA.1; omega) (by have := sB.1; omega))
  have HNIL := Lib.hid (opV_nil (f := subL) (fun _ _ h h' => subL_good h h') rfl gA gB)
  clear gA gB sA sB ha hb
  have KK := Lib.hid pKnown_any
  have KS := Lib.hid setSubset_any
  obtain ⟨nn, hnn⟩ : ∃ nn, A.length + B.length = nn := ⟨_, rfl⟩
  go_enter Try.func14, Try.ntmps14
  go_wp2_with fail
  refine KP.out.mono ?_
  rintro e w1 ⟨bm, D, rfl, hown, hpd, hb1⟩
  have HPD := Lib.hid hpd
  have HB1 := Lib.hid hb1
  clear hpd hb1
  rw [hnn] at hown
  clear hnn KP
  go_wp2_with (at_range; refine wpList_range_own _ rfl _ 54 rfl 29 57 keyLaw Try.underlying54 _ bm nn _ rfl hown ?_; intro w0 hrg0 hg0 hs0)
  go_frame
  have HB0 := Lib.hid ((Apart.of_grown (q := fun _ => False) hg0 (fun r e => by cases e)).below (Nat.le_refl _) (fun _ _ h => h)); clear hg0 hs0
  obtain ⟨r, hr⟩ : ∃ r, w1.heap.size = r := ⟨_, rfl⟩
  have HBW : Hid (Below r w1 w0) := Lib.hid (hr ▸ HB0.out); clear HB0
  rw [hr] at hrg0 ⊢
  have HR := Lib.hid hr; clear hr
  go_loopw [4] (fun _ wr => ∃ (left : Lit → Bool) (cnt : Nat), wr.ranges Try.prog 29 pairR bm r nn D left cnt ∧ (∀ q : Int, Maps.has D (.int .u64 q) = true → left (.int .u64 q) = false → subL (knV A q) (knV B q) = []) ∧ Below r w1 wr) (fun _ wr => wr.rangeLeft bm r)
  case atStart => exact ⟨_, _, hrg0, fun q h1 h2 => (by rw [h1] at h2; cases h2), HBW.out⟩
  case round =>
    obtain ⟨left, cnt, hrg, hdone, hbr⟩ := hrel
    have HD := Lib.hid hdone; clear hdone
    have HBR := Lib.hid hbr; clear hbr
    go_wp2_with (at_next; refine wpList_next_ranges _ rfl _ rfl 29 keyLaw pairR (Value.int .u64) id (fun key kl hk => by obtain ⟨x, hx, _⟩ := Maps.keyOf_int_inv Try.underlying29 hk; exact ⟨x, hx⟩) (fun v _ _ => ⟨v, rfl⟩) bm r nn _ _ _ rfl hrg ?_ ?_)
    · intro hc0 hl0
      have HT := Lib.hid (show decide (opV subL A B = []) = true from decide_eq_true (HNIL.out.2 fun q => by
        cases hh : Maps.has D (.int .u64 q) with
        | true => exact HD.out q hh (hl0 _)
        | false => obtain ⟨e1, e2⟩ := none_knV HPD.out hh; rw [e1, e2]; rfl))
      clear hrg hc0 hl0
      go_wp2_with fail
      go_ret
      exact ⟨ret_bool HT.out.symm, below_call HB1.out (HR.out.symm ▸ HBR.out)⟩
    · intro x c kl yd yp w2 cnt2 hkey hlk hv hat hrg2 hlt hg2 hs2 hen
      obtain ⟨x', ex, rfl, hwf⟩ := Maps.keyOf_int_inv Try.underlying29 hkey
      cases ex
      obtain ⟨a0, m0, p0, n0, c0, a2, m2, p2, n2, c2, rfl⟩ := pairR_inv (v := c) hv
      obtain ⟨hs1, hs2'⟩ := pairs_item HPD.out hv hat
      have hap2 : Apart (fun k => k = r) wr w2 := Apart.of_grown hg2 (fun k e => by cases e; rfl)
      have hb2 : Below r w1 w2 := HBR.out.trans (hap2.below (by have := HBR.out.size; have := HR.out; omega) fun k hk e => by omega)
      obtain ⟨w3, hw3⟩ : ∃ w3, w2.alloc (.cells #[.int .u64 a0, .int .u64 m0, .slice p0 n0 c0, .int .u64 a2, .int .u64 m2, .slice p2 n2 c2] 57) = w3 := ⟨_, rfl⟩
      have hb3 : Below w2.heap.size w2 w3 := hw3 ▸ below_new w2 _
      have t0 : w3.cell? ⟨w2.heap.size, 0, none⟩ = some (.int .u64 a0) := by rw [← hw3]; simp
      have t1 : w3.cell? ⟨w2.heap.size, 1, none⟩ = some (.int .u64 m0) := by rw [← hw3]; simp
      have t2 : w3.cell? ⟨w2.heap.size, 2, none⟩ = some (.slice p0 n0 c0) := by rw [← hw3]; simp
      have t3 : w3.cell? ⟨w2.heap.size, 3, none⟩ = some (.int .u64 a2) := by rw [← hw3]; simp
      have t4 : w3.cell? ⟨w2.heap.size, 4, none⟩ = some (.int .u64 m2) := by rw [← hw3]; simp
      have t5 : w3.cell? ⟨w2.heap.size, 5, none⟩ = some (.slice p2 n2 c2) := by rw [← hw3]; simp
      have hb13 : Below r w1 w3 := hb2.trans (hb3.mono (by have := hb2.size; have := HR.out; omega))
      have hb13' : Below w1.heap.size w1 w3 := HR.out.symm ▸ hb13
      have K := Lib.hid (KK.out a0 m0 a2 m2 (.slice p0 n0 c0) (.slice p2 n2 c2) (knV A x) (knV B x) w3 (hs1.call hb13') (hs2'.call hb13'))
      have HKEY := Lib.hid (keyLaw.key hkey)
      have HRG := Lib.hid (ranges_apart hrg2 (Apart.of_below (fun _ => False) hb3) id id)
      have HLT := Lib.hid (And.intro hlt hrg.left_eq)
      have HB13 := Lib.hid hb13
      have HX := Lib.hid (fun (hne : subL (knV A x) (knV B x) ≠ []) => (show decide (opV subL A B = []) = false from decide_eq_false fun e => hne (HNIL.out.1 e x)))
      have HD2 := Lib.hid (fun (he : subL (knV A x) (knV B x) = []) (q : Int) (h1 : Maps.has D (.int .u64 q) = true) (h2 : (left (.int .u64 q) && !(Lit.int .u64 q).sameKey (.int .u64 x)) = false) => (show subL (knV A q) (knV B q) = [] from by
        by_cases e : q = x
        · rw [e]; exact he
        · refine HD.out q h1 ?_
          have : (Lit.int .u64 q).sameKey (.int .u64 x) = false := by
            cases hs : (Lit.int .u64 q).sameKey (.int .u64 x) with
            | false => rfl
            | true => exact absurd (same_u64 hs) e
          simpa [this] using h2))
      clear hs1 hs2' hs2 hap2 hb2 hb3 hb13 hb13' hrg hrg2 hlt hg2 hv hat hlk hkey hwf HD
      generalize knV A x = KA at *
      generalize knV B x = KB at *
      go_wp2_with fail
      refine K.out.mono ?_
      rintro e w4 ⟨s, t, rfl, hos, hot, hb4⟩
      obtain ⟨ps, cs, rfl, _⟩ := hos.at'.shape
      obtain ⟨pt, ct, rfl, _⟩ := hot.at'.shape
      have K2 := Lib.hid (KS.out KA KB _ _ w4 hos hot)
      have HB4 := Lib.hid hb4
      clear hos hot hb4
      go_wp2_with fail
      refine K2.out.mono ?_
      rintro e w5 ⟨rfl, hb5⟩
      have HB5 := Lib.hid (below_call HB4.out hb5)
      clear hb5
      by_cases hK : subL KA KB = []
      · have e1 : decide (subL KA KB = []) = true := decide_eq_true hK
        have HDD := Lib.hid (HD2.out hK)
        rw [e1]
        clear hK e1
        go_wp2_with fail
        go_roundw
        case rel => exact ⟨_, cnt2, ranges_apart HRG.out (Apart.of_below (fun _ => False) HB5.out) id id, HDD.out, HB13.out.trans (HB5.out.mono (by have := HB13.out.size; have := HR.out; omega))⟩
        case measure => rw [(ranges_apart HRG.out (Apart.of_below (fun _ => False) HB5.out) id id).left_eq, HLT.out.2]; exact HLT.out.1
      · have e1 : decide (subL KA KB = []) = false := decide_eq_false hK
        have HT := Lib.hid (HX.out hK)
        rw [e1]
        clear hK e1
        go_wp2_with fail
        go_ret
        exact ⟨ret_bool HT.out.symm, below_call HB1.out (HR.out.symm ▸ HB13.out.trans (HB5.out.mono (by have := HB13.out.size; have := HR.out; omega)))⟩

set_option maxRecDepth 100000 in
set_option maxHeartbeats 8000000 in
theorem lAdd_any (V : List (Int × Int × List Iv)) (v : Value) (r c : Int) (w : World) (hv : VecS w v V) (gV : GoodV V) (sV : smallV 1000 1000 V) (r0 : 0 ≤ r) (r1 : r ≤ 18446744073709551615) (c0 : 0 ≤ c) (c1 : c ≤ 18446744073709551615) :
    Calls Try.prog 21 #[v, .int .u64 r, .int .u64 c] w (IsVN (opV orL V (oneV r c)) w) := by
  obtain ⟨pv, cv, rfl⟩ := hv.m.shape
  obtain ⟨w1, hw1⟩ : ∃ w1, w.alloc (.cells #[.int .u64 c, .int .u64 c] 70) = w1 := ⟨_, rfl⟩
  have hb1 : Below w.heap.size w w1 := hw1 ▸ below_new w _
  have d0 : w1.cell? ⟨w.heap.size, 0, none⟩ = some (.int .u64 c) := by rw [← hw1]; simp
  have d1 : w1.cell? ⟨w.heap.size, 1, none⟩ = some (.int .u64 c) := by rw [← hw1]; simp
  have KO := Lib.hid (eOf_any r [(c, c)] (.slice (some ⟨w.heap.size, 0, none⟩) 1 1) w1 ⟨⟨_, 1, rfl, (show 1 ≤ 1048576 from by decide), fun _ => ⟨w.heap.size, 0, rfl, fun i x hx => by
    cases i with
    | zero => simp at hx; subst hx; exact ⟨d0, d1⟩
    | succ i => simp at hx⟩⟩, single_good c0 c1, sane_lit _ _ _ (Nat.le_refl _), by simp⟩)
  have KU := Lib.hid (fun a b W ha hb => lUnion_any V (oneV r c) a b W ha hb gV (oneV_good (r := r) c0 c1) sV ((small_one r c).mono (by omega) (by omega)))
  have HH := Lib.hid (And.intro (oneV_good (r := r) c0 c1) (show 0 ≤ r ∧ r ≤ 18446744073709551615 from ⟨r0, r1⟩))
  have HV1 := Lib.hid (hv.call hb1)
  have HB1 := Lib.hid hb1
  have HN := Lib.hid (show repE r [(c, c)] = r ∧ (holesL [(c, c)]).length ≤ 6 from ⟨rfl, by have := holes_len (L := [(c, c)]); simp at this; omega⟩)
  clear hv gV sV r0 r1 c0 c1 d0 d1 hb1
  go_enter Try.func21, Try.ntmps21
  go_wp2_with fail
  clear hw1
  refine KO.out.mono ?_
  rintro e w2 ⟨s, rfl, hi, hsa, _, hb2⟩
  obtain ⟨ps, cs, rfl, _⟩ := hi.shape
  rw [HN.out.1]
  have hone : oneV r c = [(r, topL [(c, c)], holesL [(c, c)])] := rfl
  rw [hone] at KU HH
  have HON := Lib.hid hone; clear hone
  have hE := HH.out.1.ent _ (List.mem_singleton.2 rfl)
  have HANY := Lib.hid (show AnyAt w2 (.slice ps (holesL [(c, c)]).length cs) (topL [(c, c)]) (holesL [(c, c)]) from ⟨hi, hE.good.all, hsa, hE.low, hE.top, by have := HN.out.2; omega⟩)
  have HB2 := Lib.hid (below_call HB1.out hb2)
  have HV2 := Lib.hid (HV1.out.call hb2)
  clear hi hsa hb2 hE HN HV1
  generalize topL [(c, c)] = tt at *
  generalize holesL [(c, c)] = hh at *
  obtain ⟨w3, hw3⟩ : ∃ w3, w2.alloc (.cells #[.int .u64 r, .int .u64 tt, .slice ps hh.length cs] 43) = w3 := ⟨_, rfl⟩
  have hb3 : Below w2.heap.size w2 w3 := hw3 ▸ below_new w2 _
  have t0 : w3.cell? ⟨w2.heap.size, 0, none⟩ = some (.int .u64 r) := by rw [← hw3]; simp
  have t1 : w3.cell? ⟨w2.heap.size, 1, none⟩ = some (.int .u64 tt) := by rw [← hw3]; simp
  have t2 : w3.cell? ⟨w2.heap.size, 2, none⟩ = some (.slice ps hh.length cs) := by rw [← hw3]; simp
  obtain ⟨w4, hw4⟩ : ∃ w4, w3.alloc (.cells #[.int .u64 r, .int .u64 tt, .slice ps hh.length cs] 43) = w4 := ⟨_, rfl⟩
  have hb4 : Below w3.heap.size w3 w4 := hw4 ▸ below_new w3 _
  have hb24 := below_call hb3 hb4
  have K := Lib.hid (KU.out _ _ w4 (HV2.out.call hb24) (vec_one9 (b := w3.heap.size) (by rw [← hw4]; simp) (by rw [← hw4]; simp) (by rw [← hw4]; simp) (HANY.out.call hb24) HH.out.2))
  have HB4 := Lib.hid (below_call HB2.out hb24)
  clear hb3 hb4 hb24 HV2 HANY KU
  go_wp2_with fail
  refine K.out.mono ?_
  rintro e w5 ⟨u, rfl, h1, h2, h3⟩
  obtain ⟨pu, cu, rfl⟩ := h1.m.shape
  have HO := Lib.hid (And.intro h1 (And.intro (SoftW.low h2 HB4.out.size) (below_call HB4.out h3))); clear h1 h2 h3
  go_wp2_with fail
  go_ret
  refine ⟨_, rfl, ?_⟩
  rw [HON.out]
  exact HO.out

theorem plus9 (r s : Int) (w : World) (hr0 : 0 ≤ r) (hr1 : r ≤ 18446744073709551616000) (hs0 : 0 ≤ s) (hs1 : s ≤ 18446744073709551616000) :
    Calls Try.prog 16 #[.agg #[.int .u64 (r / 18446744073709551616), .int .u64 (r % 18446744073709551616)], .agg #[.int .u64 (s / 18446744073709551616), .int .u64 (s % 18446744073709551616)]] w (IsCt (r + s) w) :=
  w_plus_any _ _ _ _ _ ((r % 18446744073709551616 + s % 18446744073709551616) / 18446744073709551616) _ w (by omega) (by omega) (by omega) (by omega) (by omega) (by omega) (by omega) (by omega) (by omega)
theorem CtI.mv {w : World} {h b : Nat} {q r : Int} {A B : World} (hs : CtI w h b q r A) (hw : h ≤ w.heap.size) (hb : Below A.heap.size A B) : CtI w h b q r B := hs.apart hw (Apart.of_below (fun _ => False) hb) (fun _ _ h => h) id
theorem cntV_snoc (A : List (Int × Int × List Iv)) (x : Int × Int × List Iv) : cntV (A ++ [x]) = cntV A + cntL (knownL x.2.1 x.2.2) := by
  unfold cntV
  rw [List.map_append, List.sum_append]
  simp
set_option maxRecDepth 100000 in
set_option maxHeartbeats 8000000 in
theorem lCount_any (V : List (Int × Int × List Iv)) (v : Value) (w : World) (hv : VecS w v V) (gV : GoodV V) (sV : smallV 1000 1000 V) : Calls Try.prog 17 #[v] w (IsCt (cntV V) w) := by
  obtain ⟨pv, cv, rfl⟩ := hv.m.shape
  obtain ⟨h, hh⟩ : ∃ h, w.heap.size = h := ⟨_, rfl⟩
  have hlow : h ≤ w.heap.size := Nat.le_of_eq hh.symm
  obtain ⟨w1, hw1⟩ : ∃ w1, (w.alloc (.cells #[.int .u64 0, .int .u64 0] 33)).alloc (.cells #[.int .u64 0, .int .u64 0] 33) = w1 := ⟨_, rfl⟩
  have hct : CtI w h (h + 1) 0 0 w1 := by
    refine ⟨?_, ?_, ?_⟩
    · rw [← hw1, ← hh]; exact (Cnt.new w 0 0).below (below_new _ _)
    · rw [← hw1, ← hh]; exact (World.size_alloc w _ ▸ Cnt.new (w.alloc (.cells #[.int .u64 0, .int .u64 0] 33)) 0 0)
    · rw [← hw1]; exact Below.of_two _ _ _ _ hlow
  have a0 := hct.cur.c0
  have a1 := hct.cur.c1
  have b0 := hct.cur.f0
  have b1 := hct.cur.f1
  have HCT := Lib.hid hct; clear hct
  have HV := Lib.hid (And.intro hv (And.intro gV sV)); clear hv gV sV
  have HH := Lib.hid hh
  have KN := Lib.hid eKnown_any
  have KM := Lib.hid mCount_any
  have KP := Lib.hid plus9
  go_enter Try.func17, Try.ntmps17
  go_wp2_with fail
  clear hw1 a0 a1 b0 b1
  go_loopw [9] (fun vi wr => ∃ k : Nat, vi = .int .i64 k ∧ k ≤ V.length ∧ CtI w h (h + 1) (cntV (V.take k) / 18446744073709551616) (cntV (V.take k) % 18446744073709551616) wr) (fun vi _ => V.length - (intOf vi).toNat)
  case atStart => exact ⟨0, rfl, Nat.zero_le _, HCT.out.set (Nat.lt_succ_self _) 0 0⟩
  case round =>
    clear HCT
    obtain ⟨k, rfl, hk, hct⟩ := hrel
    have HC := Lib.hid hct; clear hct
    by_cases hlt : k < V.length
    · obtain ⟨⟨r, m, H⟩, hx⟩ : ∃ x, V[k]? = some x := ⟨V[k], by simp [hlt]⟩
      obtain ⟨b, o, cp, q, n, c, e, c0, c1, c2, haa⟩ := HV.out.1.m.elem hx
      cases e
      have hmem := List.mem_iff_getElem?.2 ⟨k, hx⟩
      have hge := HV.out.2.1.ent _ hmem
      have hbw : Below w.heap.size w wr := by rw [HH.out]; exact HC.out.below
      have k0 := keep_cell c0 hbw
      have k1 := keep_cell c1 hbw
      have k2 := keep_cell c2 hbw
      obtain ⟨wE, hwE⟩ : ∃ wE, wr.alloc (.cells #[.int .u64 r, .int .u64 m, .slice q n c] 43) = wE := ⟨_, rfl⟩
      have hbE : Below wr.heap.size wr wE := hwE ▸ below_new wr _
      have t0 : wE.cell? ⟨wr.heap.size, 0, none⟩ = some (.int .u64 r) := by rw [← hwE]; simp
      have t1 : wE.cell? ⟨wr.heap.size, 1, none⟩ = some (.int .u64 m) := by rw [← hwE]; simp
      have t2 : wE.cell? ⟨wr.heap.size, 2, none⟩ = some (.slice q n c) := by rw [← hwE]; simp
      have HE := Lib.hid (show EntAt wE (.slice q n c) m H from ⟨(haa.call hbw).call hbE, hge⟩)
      have hI : CtI w h (h + 1) (cntV (V.take k) / 18446744073709551616) (cntV (V.take k) % 18446744073709551616) wE := HC.out.apart hlow (Apart.of_below (fun _ => False) hbE) (fun _ _ h => h) id
      have u0 := hI.cur.c0
      have u1 := hI.cur.c1
      have f0 := hI.cur.f0
      have f1 := hI.cur.f1
      have hTK : V.take (k + 1) = V.take k ++ [(r, m, H)] := by rw [List.take_add_one, hx]; rfl
      have hbd := cntV_bound (V := V.take k) (fun x hx => HV.out.2.1.ent x (List.take_subset _ _ hx))
      have hbd1 := cntV_bound (V := [(r, m, H)]) (fun x hx => by rw [List.mem_singleton.1 hx]; exact hge)
      have hlen : ((V.take k).length : Int) ≤ 1000 := by have := HV.out.2.2.1; rw [List.length_take]; omega
      have hsn : cntV (V.take (k + 1)) = cntV (V.take k) + cntL (knownL m H) := by rw [hTK]; exact cntV_snoc _ _
      have hsn1 : cntV [(r, m, H)] = cntL (knownL m H) := by simp [cntV]
      rw [hsn1] at hbd1
      have kp := fun W => KP.out (cntV (V.take k)) (cntL (knownL m H)) W hbd.1 (by omega) hbd1.1 (by have := hbd1.2; simp at this; omega)
      have hko := fun (W : World) (s : Value) (h : IvsAt W s (knownL m H)) => known_op h hge haa.len
      rw [← hsn] at kp
      have KN2 := Lib.hid (fun W h => KN.out r m H (.slice q n c) W h)
      generalize knownL m H = L at *
      obtain ⟨x1, hx1⟩ : ∃ x1, cntV (V.take k) / 18446744073709551616 = x1 := ⟨_, rfl⟩
      obtain ⟨x2, hx2⟩ : ∃ x2, cntV (V.take k) % 18446744073709551616 = x2 := ⟨_, rfl⟩
      obtain ⟨y1, hy1⟩ : ∃ y1, cntL L / 18446744073709551616 = y1 := ⟨_, rfl⟩
      obtain ⟨y2, hy2⟩ : ∃ y2, cntL L % 18446744073709551616 = y2 := ⟨_, rfl⟩
      obtain ⟨z1, hz1⟩ : ∃ z1, cntV (V.take (k + 1)) / 18446744073709551616 = z1 := ⟨_, rfl⟩
      obtain ⟨z2, hz2⟩ : ∃ z2, cntV (V.take (k + 1)) % 18446744073709551616 = z2 := ⟨_, rfl⟩
      have KP2 := Lib.hid (fun W => (by have k := kp W; unfold IsCt at k; rw [hx1, hx2, hy1, hy2, hz1, hz2] at k; exact k : Calls Try.prog 16 #[.agg #[.int .u64 x1, .int .u64 x2], .agg #[.int .u64 y1, .int .u64 y2]] W (fun e w' => e = .returned (.agg #[.int .u64 z1, .int .u64 z2]) ∧ Below W.heap.size W w')))
      have KM2 := Lib.hid (fun s W h => (by have k := KM.out L s W h; unfold IsC at k; rw [hy1, hy2] at k; exact k : Calls Try.prog 38 #[s] W (fun e w' => e = .returned (.agg #[.int .u64 y1, .int .u64 y2]) ∧ Below W.heap.size W w')))
      rw [hx1, hx2] at hI
      rw [hx1] at u0
      rw [hx2] at u1
      have HZ := Lib.hid (And.intro hz1 hz2)
      have HI := Lib.hid hI
      have HKO := Lib.hid hko
      have HLOW := Lib.hid hlow
      have i3 : V.length ≤ 100000 := HV.out.1.m.len
      have i1 : (0 : Int) ≤ (k : Int) := by omega
      have i2 : (k : Int) < (V.length : Int) := by omega
      clear hI hsn hsn1 hTK hbd hbd1 hlen hge haa hmem hx hbw c0 c1 c2 hbE KN KM KP kp hko hx1 hx2 hy1 hy2 hz1 hz2 hlow HC
      go_wp2_with fail
      go_region_with (first
        | (go_at_call 39; refine (KN2.out _ (HE.out.call ?_)).mono ?_; (first | exact Below.refl _ _ | exact (Below.refl _ _).drew | exact (Below.refl _ _).drew.drew | exact (Below.refl _ _).drew.drew.drew | exact (Below.refl _ _).drew.drew.drew.drew); rintro e w3 ⟨s, rfl, hi, _, _, h3⟩; obtain ⟨ps, cs, rfl, _⟩ := hi.shape; have hb3 : Below wE.heap.size wE w3 := (by first | exact h3 | exact below_call (Below.refl _ _).drew h3 | exact below_call (Below.refl _ _).drew.drew h3 | exact below_call (Below.refl _ _).drew.drew.drew h3); have HO3 := Lib.hid (HKO.out _ _ hi); have hI3 := HI.out.mv HLOW.out hb3; have v0 := hI3.cur.c0; have v1 := hI3.cur.c1; have g0 := hI3.cur.f0; have g1 := hI3.cur.f1; have HI3 := Lib.hid hI3; clear hi h3 hb3 hI3)
        | (go_at_call 38; refine (KM2.out _ _ (HO3.out.call ?_)).mono ?_; (first | exact Below.refl _ _ | exact (Below.refl _ _).drew | exact (Below.refl _ _).drew.drew | exact (Below.refl _ _).drew.drew.drew | exact (Below.refl _ _).drew.drew.drew.drew); rintro e w4 ⟨rfl, h4⟩; have hb4 : Below w3.heap.size w3 w4 := (by first | exact h4 | exact below_call (Below.refl _ _).drew h4 | exact below_call (Below.refl _ _).drew.drew h4 | exact below_call (Below.refl _ _).drew.drew.drew h4); have hI4 := HI3.out.mv HLOW.out hb4; have v0 := hI4.cur.c0; have v1 := hI4.cur.c1; have g0 := hI4.cur.f0; have g1 := hI4.cur.f1; have HI4 := Lib.hid hI4; clear h4 hb4 hI4)
        | (go_at_call 16; refine (KP2.out _).mono ?_; rintro e w5 ⟨rfl, h5⟩; have hb5 : Below w4.heap.size w4 w5 := (by first | exact h5 | exact below_call (Below.refl _ _).drew h5 | exact below_call (Below.refl _ _).drew.drew h5 | exact below_call (Below.refl _ _).drew.drew.drew h5); have hI5 := HI4.out.mv HLOW.out hb5; have v0 := hI5.cur.c0; have v1 := hI5.cur.c1; have g0 := hI5.cur.f0; have g1 := hI5.cur.f1; have HI5 := Lib.hid hI5; clear h5 hb5 hI5))
      all_goals
        go_wp2_with fail
        go_roundw
        case rel =>
          refine ⟨k + 1, by go_num, by omega, ?_⟩
          rw [HZ.out.1, HZ.out.2]
          refine CtI.set (q := x1) (r := x2) ?_ (Nat.lt_succ_self _) _ _
          refine CtI.mv HI5.out HLOW.out ?_
          (first | exact Below.refl _ _ | exact (Below.refl _ _).drew | exact (Below.refl _ _).drew.drew | exact (Below.refl _ _).drew.drew.drew | exact (Below.refl _ _).drew.drew.drew.drew)
        case measure => first | (simp [intOf]; done) | (simp [intOf]; omega)
    · obtain rfl : k = V.length := by omega
      rw [List.take_of_length_le (Nat.le_refl _)] at HC
      have r0 := HC.out.res.c0
      have r1 := HC.out.res.c1
      have g0 := HC.out.res.f0
      have g1 := HC.out.res.f1
      have u0 := HC.out.cur.c0
      have u1 := HC.out.cur.c1
      generalize hq1 : cntV V / 18446744073709551616 = x1 at *
      generalize hq2 : cntV V % 18446744073709551616 = x2 at *
      have HQ := Lib.hid (And.intro hq1 hq2); clear hq1 hq2
      go_wp2_with fail
      refine bodyPost_ret (res_cell1 rfl _ _ _ ⟨h, 0, none⟩ _ rfl (loadC (HC.out.res.set x1 x2))) rfl ?_
      refine ⟨by rw [HQ.out.1, HQ.out.2], ?_⟩
      rw [HH.out]
      exact (HC.out.below.setCell (p := ⟨h, 0, none⟩) (Nat.le_refl _) _).setCell (p := ⟨h, 1, none⟩) (Nat.le_refl _) _
theorem latC : LatC := ⟨lUnion_any, lMeet_any, lMinus_any, lSubset_any, lAdd_any, lCount_any⟩
end Go.Proofs.Ytefiobfljhmkkaa
