/- Package vector: Canonical, Canon. Conditions: as each theorem says. -/
import Derived.Test.YtcajknjhkabhjaaGreatDoorKPMath
import Derived.Test.YtcajknjhkabhjaaGreatDoorKNKeeps
import Derived.Sort.Grow
namespace Go.Proofs.YtcajknjhkabhjaaGreatDoor
open Go.RowKit
theorem soft_low9 {w : World} {B B' : Nat} {v : Value} {n : Nat} (h : SoftE w B v n) (hB : B' ≤ B) : SoftE w B' v n := by
 obtain ⟨p, cap, h1, h2, h3⟩ := h
 refine ⟨p, cap, h1, h2, fun hn => ?_⟩
 obtain ⟨g, o, h4, h5, h6⟩ := h3 hn
 exact ⟨g, o, h4, Nat.le_trans hB h5, h6⟩
theorem holes_le : ∀ (n : Nat) (m : Int) (H : List Iv), H.length = n → GoodE m H → (holesL (knownL m H)).length ≤ H.length
 | n, m, H, hn, hg => by
   rcases List.eq_nil_or_concat H with rfl | ⟨G, y, rfl⟩
   ·rw [(fin_of (m := m) (H := []) hg rfl rfl 0).2.2.1]
    exact Nat.le_refl _
   ·rw [List.concat_eq_append] at *
    by_cases hy : y.2 < m
    ·rw [(fin_of hg (trim_done hg hy) rfl 0).2.2.1]
     exact Nat.le_refl _
    ·by_cases h0 : y.1 = 0
     ·rw [trim_none hg hy h0]
      simp [holesL]
     ·obtain ⟨h1, h2⟩ := trim_step hg hy h0
      rw [← h2]
      have := holes_le G.length _ G rfl h1
      rw [List.length_append]
      omega
termination_by n => n
decreasing_by simp at hn; omega
def OutS (w : World) (B : Nat) (v : Value) (V : List (Int × Int × List Iv)) : Prop :=
 ∃ es : List (Int × Int × Value), es.length = V.length ∧ w.ownsRow B 51 3 v es.length (entC es) ∧ (∀ (i : Nat) (e : Int × Int × Value) (x : Int × Int × List Iv), es[i]? = some e → V[i]? = some x → e.1 = x.1 ∧ e.2.1 = x.2.1 ∧ HolE w B v.ownBlock e.2.2 x.2.2) ∧ ∀ e ∈ es, SaneE e.2.2
theorem OutS.nil (w : World) (B : Nat) : OutS w B (.slice none 0 0) [] := ⟨[], rfl, World.ownsRow_nil w B _ 3, fun i e x h => by simp at h, fun e h => by simp at h⟩
theorem OutS.shape {w : World} {B : Nat} {v : Value} {V : List (Int × Int × List Iv)} (h : OutS w B v V) : ∃ p cap, v = .slice p V.length cap := by
 obtain ⟨es, h1, h2, _⟩ := h
 obtain ⟨p, cap, e, _⟩ := own_shape h2
 exact ⟨p, cap, by rw [e, h1]⟩
theorem OutS.call {w w' : World} {B : Nat} {v : Value} {V : List (Int × Int × List Iv)} (h : OutS w B v V) (hb : Below w.heap.size w w') : OutS w' B v V := by
 obtain ⟨es, h1, h2, h3, h4⟩ := h
 exact ⟨es, h1, own_below h2 hb, fun i e x he hx => ⟨(h3 i e x he hx).1, (h3 i e x he hx).2.1, (h3 i e x he hx).2.2.call hb⟩, h4⟩
theorem OutS.push {w w2 : World} {B : Nat} {v v2 : Value} {es : List (Int × Int × Value)} {V : List (Int × Int × List Iv)} {r m : Int} {s : Value} {H : List Iv} (hel : es.length = V.length)
 (hall : ∀ (i : Nat) (e : Int × Int × Value) (x : Int × Int × List Iv), es[i]? = some e → V[i]? = some x → e.1 = x.1 ∧ e.2.1 = x.2.1 ∧ HolE w B v.ownBlock e.2.2 x.2.2)
 (hrow : w2.ownsRow B 51 3 v2 (es.length + 1) (entC es ++ [.int .u64 r, .int .u64 m, s])) (hg : w.grownBy w2 v.ownBlock) (hat : v2.ownBlock = v.ownBlock ∨ v2.ownBlock = some w.heap.size) (hx : HolE w B v.ownBlock s H) (hs : ∀ e ∈ es, SaneE e.2.2) (hss : SaneE s) : OutS w2 B v2 (V ++ [(r, m, H)]) := by
 refine ⟨es ++ [(r, m, s)], by rw [List.length_append, List.length_append, hel]; rfl, ?_, fun i e x he hx' => ?_, fun e he => ?_⟩
 ·rw [List.length_append, entC_app]; exact hrow
 ·by_cases hi : i < es.length
  ·rw [List.getElem?_append_left hi] at he
   rw [List.getElem?_append_left (by omega)] at hx'
   obtain ⟨h1, h2, h3⟩ := hall i e x he hx'
   exact ⟨h1, h2, h3.grown hg hat⟩
  ·rw [List.getElem?_append_right (by omega)] at he
   rw [List.getElem?_append_right (by omega)] at hx'
   have h0 : i - es.length = 0 := by
    have := (List.getElem?_eq_some_iff.1 he).1
    simpa using this
   have h0' : i - V.length = 0 := by omega
   rw [h0] at he; rw [h0'] at hx'
   obtain rfl : (r, m, s) = e := by simpa using he
   obtain rfl : (r, m, H) = x := by simpa using hx'
   exact ⟨rfl, rfl, hx.grown hg hat⟩
 ·rcases List.mem_append.1 he with h | h
  ·exact hs e h
  ·obtain rfl := List.mem_singleton.1 h
   exact hss
theorem sane_own {W : World} {B n sz : Nat} {t : TypeId} {v : Value} {xs : List Value} (h : W.ownsRow B t sz v n xs) : SaneE v := by
 rcases h.2 with ⟨h1, _⟩ | ⟨g, cap, cur, h1, _, _, hnc, _⟩
 ·refine ⟨fun n c e => ?_, fun a n c e => ?_⟩
  ·rw [e] at h1; cases h1; exact ⟨rfl, rfl⟩
  ·rw [e] at h1; cases h1
 ·refine ⟨fun n c e => ?_, fun a n c e => ?_⟩
  ·rw [e] at h1; cases h1
  ·rw [e] at h1; cases h1; exact hnc
theorem OutS.done {w : World} {B : Nat} {v : Value} {V : List (Int × Int × List Iv)} (h : OutS w B v V) (hl : V.length ≤ 100000) (hg : ∀ x ∈ V, (0 ≤ x.1 ∧ x.1 ≤ 18446744073709551615) ∧ All64 x.2.2 ∧ (0 ≤ x.2.1 ∧ x.2.1 ≤ 18446744073709551615) ∧ x.2.2.length ≤ 5000) :
 VecS w v V ∧ SoftW w B v (nsV V) := by
 obtain ⟨es, h1, h2, h3, h4⟩ := h
 refine ⟨⟨⟨⟨es, OutV.vecAt h2, h1, fun i e x he hx => ?_⟩, hl⟩, sane_own h2, fun x hx => (hg x hx).1⟩, ?_⟩
 ·obtain ⟨k1, k2, k3⟩ := h3 i e x he hx
  obtain ⟨g1, g2, g3, g4⟩ := hg x (List.mem_of_getElem? hx)
  exact ⟨k1, k2, k3.ivs, g2, h4 e (List.mem_of_getElem? he), g3.1, g3.2, g4⟩
 ·have hnl : (nsV V).length = es.length := by unfold nsV; rw [List.length_map, h1]
  have hrow := h2
  rcases h2.2 with ⟨rfl, h0⟩ | ⟨g, cap, cur, rfl, hbg, hgg, hnc, hcm, _⟩
  ·exact ⟨none, 0, by rw [hnl, h0], by rw [hnl, h0]; exact Nat.zero_le _, fun hne => absurd (List.eq_nil_of_length_eq_zero (by rw [hnl, h0])) hne⟩
  ·refine ⟨_, cap, by rw [hnl], by rw [hnl]; exact Nat.le_trans hnc hcm, fun _ => ⟨g, 0, rfl, hbg, fun i n hi => ?_⟩⟩
   have hilt : i < V.length := by have := (List.getElem?_eq_some_iff.1 hi).1; rw [hnl] at this; omega
   have hx : V[i]? = some V[i] := by simp [hilt]
   have he : es[i]? = some es[i] := by simp [show i < es.length by omega]
   obtain ⟨c0, c1, c2⟩ := own_cells3 hrow rfl i _ he
   obtain ⟨k1, k2, k3⟩ := h3 i _ _ he hx
   have hn : n = V[i].2.2.length := by unfold nsV at hi; rw [List.getElem?_map, hx] at hi; exact (Option.some.inj hi).symm
   subst hn
   exact ⟨⟨_, c0⟩, ⟨_, c1⟩, hrow.frozenAt _, hrow.frozenAt _, _, c2, k3.soft⟩
theorem canon_low {V : List (Int × Int × List Iv)} (hg : GoodV V) (h : ∀ x ∈ V, (0 ≤ x.1 ∧ x.1 ≤ 18446744073709551615) ∧ x.2.2.length ≤ 5000) : ∀ y ∈ canonV V, (0 ≤ y.1 ∧ y.1 ≤ 18446744073709551615) ∧ All64 y.2.2 ∧ (0 ≤ y.2.1 ∧ y.2.1 ≤ 18446744073709551615) ∧ y.2.2.length ≤ 5000 := by
 intro y hy
 obtain ⟨x, hx, hc⟩ := List.mem_filterMap.1 hy
 have hgx := hg.ent x hx
 obtain ⟨h1, h2, _⟩ := canE_some hgx hc
 have hlen : y.2.2.length ≤ x.2.2.length := by
  unfold canE at hc
  split at hc
  ·cases hc
  ·obtain rfl := Option.some.inj hc
   exact holes_le _ _ _ rfl hgx
 have := (h x hx).2
 refine ⟨by rw [h1]; exact (h x hx).1, ?_, ?_, by omega⟩
 ·exact h2.good.all
 ·exact ⟨h2.low, h2.top⟩
set_option maxRecDepth 100000 in
set_option maxHeartbeats 4000000 in
theorem vCanon_any (V : List (Int × Int × List Iv)) (v : Value) (w : World) (hv : VecS w v V) (hg : GoodV V) : Calls Tryz.prog 119 #[v] w (IsVN (canonV V) w) := by
 obtain ⟨i0, hi', hz0, hz1, hz2⟩ := info_parts infoE
 obtain ⟨p, cap, rfl⟩ := hv.m.shape
 have hlen := hv.m.len
 have hlow : ∀ x ∈ V, (0 ≤ x.1 ∧ x.1 ≤ 18446744073709551615) ∧ x.2.2.length ≤ 5000 := fun x hx => ⟨hv.rng x hx, by
  obtain ⟨i, hi⟩ := List.mem_iff_getElem?.1 hx
  obtain ⟨_, _, _, _, _, _, _, _, _, _, ha⟩ := hv.m.elem hi
  exact ha.len⟩
 have HFIN : Hid (∀ y ∈ canonV V, (0 ≤ y.1 ∧ y.1 ≤ 18446744073709551615) ∧ All64 y.2.2 ∧ (0 ≤ y.2.1 ∧ y.2.1 ≤ 18446744073709551615) ∧ y.2.2.length ≤ 5000) := Lib.hid (canon_low hg hlow)
 have HV := Lib.hid hv.m; clear hv hlow
 have HG := Lib.hid hg; clear hg
 have KE := Lib.hid eCanon_any
 go_enter Tryz.func119, Tryz.ntmps119
 go_wp2_with fail
 go_loopw [3, 10] (fun vo i wr => ∃ k : Nat, i = .int .i64 k ∧ k ≤ V.length ∧ OutS wr w.heap.size vo (canonV (V.take k)) ∧ Below w.heap.size w wr) (fun _ i _ => V.length - (intOf i).toNat)
 case atStart => exact ⟨0, rfl, Nat.zero_le _, OutS.nil _ _, Below.refl _ _⟩
 case round =>
  obtain ⟨k, rfl, hk, hout, hb⟩ := hrel
  obtain ⟨pv, cv, rfl⟩ := hout.shape
  have HB := Lib.hid hb; clear hb
  have hszw := HB.out.size
  by_cases hlt : k < V.length
  ·obtain ⟨⟨r, m, H⟩, hx⟩ : ∃ x, V[k]? = some x := ⟨V[k], by simp [hlt]⟩
   obtain ⟨b, o, cp, q, n, c, e, c0, c1, c2, ha⟩ := (HV.out.call HB.out).elem hx
   cases e
   obtain ⟨_, _, es, _⟩ := ha.at'.shape
   cases es
   have hge := HG.out.ent _ (List.mem_iff_getElem?.2 ⟨k, hx⟩)
   have hbn := below_new wr (.cells #[.int .u64 r, .int .u64 m, .slice q H.length c] 51)
   have K := Lib.hid (KE.out r m H (.slice q H.length c) _ ⟨ha.call hbn, hge⟩)
   have HBN := Lib.hid hbn; clear hbn
   have hcl := canonV_len (V.take k)
   rw [List.length_take] at hcl
   have HC := Lib.hid (And.intro (canonV_snoc hx) (show (canonV (V.take k)).length ≤ 100000 by omega))
   have i1 : (0 : Int) ≤ (k : Int) := by omega
   have i2 : (k : Int) < (V.length : Int) := by omega
   clear ha hge hx hcl
   generalize knownL m H = KK at *
   generalize canonV (V.take k) = P at *
   go_wp2_with fail
   refine K.out.mono ?_
   rintro e w1 ⟨vc, rfl, hvc, hsa, hso, h⟩
   obtain ⟨pc, cc, rfl, _⟩ := hvc.shape
   have HH := Lib.hid (And.intro hvc (And.intro hsa (soft_low9 hso HBN.out.size))); clear hvc hso hsa
   have H1 := Lib.hid (below_call HBN.out h); clear h c0 c1 c2
   by_cases hK : KK = []
   ·have e1 : someE KK = false := by rw [hK]; rfl
    rw [e1]
    have hb2 := below_new w1 (.cells #[.int .u64 (repE r KK), .int .u64 (topL KK), .slice pc (holesL KK).length cc] 51)
    have HB2 := Lib.hid (below_call H1.out hb2); clear hb2
    have HO := Lib.hid hout; clear hout
    have HC' := Lib.hid (HC.out.1.trans (if_pos hK)); clear HC hK
    generalize repE r KK = rr at *
    generalize topL KK = tt at *
    generalize (holesL KK).length = ll at *
    go_wp2_with fail
    go_roundw
    case rel => exact ⟨k + 1, by go_num, by omega, by rw [HC'.out]; exact HO.out.call HB2.out, below_call HB.out HB2.out⟩
    case measure => simp [intOf]; omega
   ·have e1 : someE KK = true := some9_of hK
    rw [e1]
    have HC' := Lib.hid (And.intro (HC.out.1.trans (if_neg hK)) HC.out.2); clear HC hK
    generalize repE r KK = rr at *
    generalize topL KK = tt at *
    generalize holesL KK = hh at *
    obtain ⟨w2, hw2⟩ : ∃ w2, w1.alloc (.cells #[.int .u64 rr, .int .u64 tt, .slice pc hh.length cc] 51) = w2 := ⟨_, rfl⟩
    have e3 : E3 w2 w1.heap.size rr tt (.slice pc hh.length cc) := hw2 ▸ E3.new w1 rr tt (.slice pc hh.length cc) 51 _ rfl
    have hb2 : Below w1.heap.size w1 w2 := hw2 ▸ below_new w1 _
    obtain ⟨t0, t1, t2⟩ := e3
    have HB2 := Lib.hid (below_call H1.out hb2)
    obtain ⟨es, hel, hrow, hall, hsan⟩ := hout
    have HROW := Lib.hid hrow
    have HALL := Lib.hid (And.intro hall hsan)
    have HAP := Lib.hid (fun h0 => own_apart hrow HH.out.2.2 h0)
    have HH2 := Lib.hid (And.intro (HH.out.1.call hb2) (And.intro (soft_low9 (HH.out.2.2.call hb2) hszw) HH.out.2.1))
    clear hrow hall hsan hb2 HH
    have hel2 : es.length ≤ 100000 := by rw [hel]; exact HC'.out.2
    have HSZ := Lib.hid (Nat.le_trans hszw HB2.out.size)
    go_wp2_with (at_builtin; go_loud (refine wpList_append_own_at _ rfl _ _ 47 rfl w.heap.size 51 i0 (.agg #[.int .u64 0, .int .u64 0, .slice none 0 0]) 3 40 Tryz.underlying47 hi' hz0 hz1 hz2 rfl (by decide) _ es.length (entC es) rfl (own_below HROW.out (below_call HB2.out (below_new _ _))) ⟨w2.heap.size, 0, none⟩ 1 1 [.int .u64 rr, .int .u64 tt, .slice pc hh.length cc] rfl rfl (cell_three9 _ _ _ _ _ _ rfl) (by simp [Value.oneCell']) (by unfold maxLen; omega) (by omega) (Nat.le_trans HSZ.out (below_new _ _).size) ?_; intro v' w4 hown' hgrow _ hat; have HN := Lib.hid (below_new w2 (.cells #[.int .u64 rr, .int .u64 tt, .slice pc hh.length cc] 51)); have HW4 := Lib.hid (own_grown (below_call HB.out (below_call HB2.out HN.out)) (own_below HROW.out (below_call HB2.out HN.out)) hgrow (Nat.le_trans HSZ.out HN.out.size)); have HP := Lib.hid (OutS.push hel (fun i e x he hx => ⟨(HALL.out.1 i e x he hx).1, (HALL.out.1 i e x he hx).2.1, (HALL.out.1 i e x he hx).2.2.call (below_call HB2.out HN.out)⟩) hown' hgrow hat (⟨HH2.out.1.call HN.out, HH2.out.2.1.call HN.out, HAP.out⟩ : HolE _ _ _ _ hh) HALL.out.2 HH2.out.2.2); clear hown' hgrow hat))
    go_roundw
    case rel => exact ⟨k + 1, by go_num, by omega, by rw [HC'.out.1]; exact HP.out, HW4.out⟩
    case measure => simp [intOf]; omega
  ·obtain rfl : k = V.length := by omega
   rw [List.take_of_length_le (Nat.le_refl _)] at hout ⊢
   have HO := Lib.hid hout; clear hout
   have HCL := Lib.hid (canonV_len V)
   have HFL := Lib.hid HFIN.out
   go_wp2_with fail
   go_ret
   obtain ⟨s1, s2⟩ := HO.out.done (by have := HCL.out; omega) HFL.out
   exact ⟨_, rfl, s1, s2, HB.out⟩
end Go.Proofs.YtcajknjhkabhjaaGreatDoor
namespace Go.Proofs.YtcajknjhkabhjaaGreatDoor
open Go.RowKit
theorem vec_slices {w : World} {v : Value} {V : List (Int × Int × List Iv)} (hv : VecM w v V) : ∃ es : List (Int × Int × Value), VecAt w v es ∧ es.length = V.length ∧ (∀ e ∈ es, ∃ p n c, e.2.2 = .slice p n c) ∧
 ∀ (i : Nat) (e : Int × Int × Value) (x : Int × Int × List Iv), es[i]? = some e → V[i]? = some x → e.1 = x.1 ∧ e.2.1 = x.2.1 ∧ AnyAt w e.2.2 x.2.1 x.2.2 := by
 obtain ⟨⟨es, h1, h2, h3⟩, _⟩ := hv
 refine ⟨es, h1, h2, fun e he => ?_, h3⟩
 obtain ⟨i, hi⟩ := List.mem_iff_getElem?.1 he
 have hlt : i < V.length := by have := (List.getElem?_eq_some_iff.1 hi).1; omega
 obtain ⟨p, cap, hs, _⟩ := (h3 i e V[i] hi (by simp [hlt])).2.2.at'.shape
 exact ⟨p, _, cap, hs⟩
theorem entC_one : ∀ es : List (Int × Int × Value), (∀ e ∈ es, ∃ p n c, e.2.2 = .slice p n c) → ∀ u ∈ entC es, u.oneCell' = true := by
 intro es h u hu
 unfold entC at hu
 obtain ⟨e, he, hu⟩ := List.mem_flatMap.1 hu
 obtain ⟨p, n, c, hs⟩ := h e he
 rw [hs] at hu
 simp at hu
 rcases hu with rfl | rfl | rfl <;> simp [Value.oneCell']
theorem ent_cells {w : World} {ad : Addr} {n cap : Nat} {es : List (Int × Int × Value)} (h : VecAt w (.slice (some ad) n cap) es) : ∀ j u, (entC es)[j]? = some u → w.cell? (ad.add j) = some u := by
 intro j u hj
 obtain ⟨p, c, e, _, h3⟩ := h
 cases e
 have hne : es ≠ [] := by rintro rfl; simp [entC] at hj
 obtain ⟨b, o, e2, h6⟩ := h3 hne
 cases e2
 have hlt : j < es.length * 3 := by have := (List.getElem?_eq_some_iff.1 hj).1; rw [entC_len] at this; exact this
 obtain ⟨i, hi3, hilt⟩ : ∃ i, (j = i * 3 ∨ j = i * 3 + 1 ∨ j = i * 3 + 2) ∧ i < es.length := ⟨j / 3, by omega, by omega⟩
 obtain ⟨x, hi⟩ : ∃ x, es[i]? = some x := ⟨es[i], by simp [hilt]⟩
 obtain ⟨c0, c1, c2⟩ := h6 _ _ hi
 obtain ⟨k0, k1, k2⟩ := entC_at es _ _ hi
 have hd : ∀ q, (⟨b, o, none⟩ : Addr).add q = ⟨b, o + q, none⟩ := fun q => by simp [Addr.add]
 rw [hd]
 rcases hi3 with rfl | rfl | rfl
 ·rw [k0] at hj
  obtain rfl := Option.some.inj hj
  exact c0
 ·rw [k1] at hj
  obtain rfl := Option.some.inj hj
  exact c1
 ·rw [k2] at hj
  obtain rfl := Option.some.inj hj
  exact c2
def IsCp9 (es : List (Int × Int × Value)) (w : World) (e : Ending) (w' : World) : Prop := ∃ v, e = .returned v ∧ w'.ownsRow w.heap.size 51 3 v es.length (entC es) ∧ Below w.heap.size w w'
set_option maxRecDepth 100000 in
set_option maxHeartbeats 2000000 in
theorem cloneV_any (es : List (Int × Int × Value)) (p : Option Addr) (n cap : Nat) (w : World) (ha : VecAt w (.slice p n cap) es) (hsv : SaneE (.slice p n cap)) (hl : es.length ≤ 100000) (hs : ∀ e ∈ es, ∃ p n c, e.2.2 = .slice p n c) :
 Calls Tryz.prog 128 #[.slice p n cap] w (IsCp9 es w) := by
 obtain ⟨i0, hi', hz0, hz1, hz2⟩ := info_parts infoE
 have hn : n = es.length := by obtain ⟨p', c', e, _⟩ := ha; cases e; rfl
 subst hn
 have q22 : ∀ (w : World) (a : Option Addr) (n c n' c' : Nat), (binOp .eql 47 (.slice a n c) (.slice none n' c')).run Tryz.prog w = .ok (.bool a.isNone) w := fun w a n c n' c' => Lib.run_eql_slice_nil w _ _ a n c n' c' Tryz.underlying47
 cases p with
 | none =>
   obtain ⟨h1, rfl⟩ := hsv.1 _ _ rfl
   obtain rfl : es = [] := List.eq_nil_of_length_eq_zero h1
   clear ha hsv hl h1 hs
   go_enter Tryz.func128, Tryz.ntmps128
   go_wp2_with fail
   go_ret
   exact ⟨_, rfl, World.ownsRow_nil _ _ _ _, Below.refl _ _⟩
 | some ad =>
   have HA := Lib.hid ha; clear ha
   have HS := Lib.hid (entC_one es hs); clear hs hsv
   have HR := Lib.hid (World.ownsRow_made (base := w.heap.size) (e := 51) (size := 3) w #[] 0 (Nat.le_refl _) (Nat.zero_le _) (by simp))
   go_enter Tryz.func128, Tryz.ntmps128
   go_wp2_with (at_builtin; refine wpList_append_own _ rfl _ _ 47 rfl w.heap.size 51 i0 (.agg #[.int .u64 0, .int .u64 0, .slice none 0 0]) 3 40 Tryz.underlying47 hi' hz0 hz1 hz2 rfl (by decide) _ 0 [] rfl HR.out ad es.length cap (entC es) rfl (entC_len es) (ent_cells (HA.out.call (below_new _ _))) HS.out (by unfold maxLen; omega) (by omega) (below_new _ _).size ?_; intro v' w' ho hgr _; have HB := Lib.hid (own_grown (below_new w (.cells #[] 51)) HR.out hgr (below_new _ _).size); obtain ⟨q', c', rfl, _⟩ := own_shape ho; have HO := Lib.hid ho; clear ho hgr)
   go_ret
   refine ⟨_, rfl, ?_, HB.out⟩
   have h := HO.out
   rw [Nat.zero_add, List.nil_append] at h
   simpa using h
structure ClS (g : Nat) (es es' : List (Int × Int × Value)) (V : List (Int × Int × List Iv)) (k : Nat) (W : World) : Prop where
 len : es'.length = V.length
 el : ∀ (i : Nat) (e : Int × Int × Value) (x : Int × Int × List Iv), es'[i]? = some e → V[i]? = some x →
  (e.1 = x.1 ∧ e.2.1 = x.2.1) ∧ (W.cell? ⟨g, i * 3, none⟩ = some (.int .u64 e.1) ∧ W.cell? ⟨g, i * 3 + 1, none⟩ = some (.int .u64 e.2.1) ∧ W.cell? ⟨g, i * 3 + 2, none⟩ = some e.2.2) ∧
  (W.frozen? ⟨g, i * 3, none⟩ = false ∧ W.frozen? ⟨g, i * 3 + 1, none⟩ = false ∧ W.frozen? ⟨g, i * 3 + 2, none⟩ = false) ∧
  (i < k → (IvsAt W e.2.2 x.2.2 ∧ SoftE W (g + 1) e.2.2 x.2.2.length) ∧ SaneE e.2.2) ∧ (k ≤ i → es[i]? = some e)
theorem ClS.call {g k : Nat} {es es' : List (Int × Int × Value)} {V : List (Int × Int × List Iv)} {A B : World} (h : ClS g es es' V k A) (hb : Below A.heap.size A B) : ClS g es es' V k B := by
 refine ⟨h.len, fun i e x he hx => ?_⟩
 obtain ⟨h1, ⟨c0, c1, c2⟩, ⟨f0, f1, f2⟩, h4, h5⟩ := h.el i e x he hx
 have hlt : g < A.heap.size := World.block_lt_of_cell? A _ c0
 exact ⟨h1, ⟨keep_cell c0 hb, keep_cell c1 hb, keep_cell c2 hb⟩, ⟨keep_free f0 hlt hb, keep_free f1 hlt hb, keep_free f2 hlt hb⟩, fun hi => ⟨⟨(h4 hi).1.1.call hb, (h4 hi).1.2.call hb⟩, (h4 hi).2⟩, h5⟩
theorem ClS.put {g k : Nat} {es es' : List (Int × Int × Value)} {V : List (Int × Int × List Iv)} {A : World} (h : ClS g es es' V k A) {e : Int × Int × Value} {x : Int × Int × List Iv} (he : es'[k]? = some e) (hx : V[k]? = some x) {s : Value}
 (hs : (IvsAt A s x.2.2 ∧ SoftE A (g + 1) s x.2.2.length) ∧ SaneE s) : ClS g es (es'.set k (e.1, e.2.1, s)) V (k + 1) (A.setCell ⟨g, k * 3 + 2, none⟩ s) := by
 obtain ⟨hk1, ⟨d0, d1, d2⟩, ⟨g0, g1, g2⟩, _, _⟩ := h.el k e x he hx
 have hlt : k < es'.length := (List.getElem?_eq_some_iff.1 he).1
 have oth : ∀ (o : Nat) (u : Value), o ≠ k * 3 + 2 → A.cell? ⟨g, o, none⟩ = some u → (A.setCell ⟨g, k * 3 + 2, none⟩ s).cell? ⟨g, o, none⟩ = some u := fun o u ho hc => by
  rw [World.cell?_setCell_other _ _ _ _ (by intro e; injection e with e1 e2; omega)]; exact hc
 refine ⟨by rw [List.length_set]; exact h.len, fun i e' x' he' hx' => ?_⟩
 by_cases hik : i = k
 ·subst hik
  rw [List.getElem?_set_self hlt] at he'
  obtain rfl := Option.some.inj he'
  obtain rfl := Option.some.inj (hx.symm.trans hx')
  refine ⟨hk1, ⟨oth _ _ (by omega) d0, oth _ _ (by omega) d1, World.cell?_setCell_same' _ _ _ (by rw [d2]; rfl)⟩, ⟨(World.frozen?_setCell _ _ _ _).trans g0, (World.frozen?_setCell _ _ _ _).trans g1, (World.frozen?_setCell _ _ _ _).trans g2⟩, fun _ => ⟨soft_set hs.1 (Nat.lt_succ_self g) s, hs.2⟩, fun h0 => absurd h0 (by omega)⟩
 ·rw [List.getElem?_set_ne (fun e0 => hik e0.symm)] at he'
  obtain ⟨h1, ⟨c0, c1, c2⟩, ⟨f0, f1, f2⟩, h4, h5⟩ := h.el i e' x' he' hx'
  exact ⟨h1, ⟨oth _ _ (by omega) c0, oth _ _ (by omega) c1, oth _ _ (by omega) c2⟩, ⟨(World.frozen?_setCell _ _ _ _).trans f0, (World.frozen?_setCell _ _ _ _).trans f1, (World.frozen?_setCell _ _ _ _).trans f2⟩,
   fun hi => ⟨soft_set (h4 (by omega)).1 (Nat.lt_succ_self g) s, (h4 (by omega)).2⟩, fun hi => h5 (by omega)⟩
theorem ClS.done {w wr : World} {g : Nat} {es es' : List (Int × Int × Value)} {V : List (Int × Int × List Iv)} {q : Option Addr} {cq : Nat} (h : ClS g es es' V V.length wr) (hq : V ≠ [] → q = some ⟨g, 0, none⟩ ∧ w.heap.size ≤ g) (hs : SaneE (.slice q V.length cq)) (hl : V.length ≤ 100000)
 (hr : ∀ x ∈ V, 0 ≤ x.1 ∧ x.1 ≤ 18446744073709551615) (hal : ∀ (i : Nat) (e : Int × Int × Value) (x : Int × Int × List Iv), es[i]? = some e → V[i]? = some x → e.1 = x.1 ∧ e.2.1 = x.2.1 ∧ AnyAt w e.2.2 x.2.1 x.2.2) (hel : es.length = V.length) :
 VecS wr (.slice q V.length cq) V ∧ SoftW wr w.heap.size (.slice q V.length cq) (nsV V) := by
 have hm : V.length ≤ maxLen := by unfold maxLen; omega
 have hlt : ∀ {i : Nat} {x : Int × Int × List Iv}, V[i]? = some x → i < V.length := fun hx => (List.getElem?_eq_some_iff.1 hx).1
 refine ⟨⟨⟨⟨es', ⟨q, cq, by rw [h.len], by rw [h.len]; exact hm, fun hne => ?_⟩, h.len, fun i e x he hx => ?_⟩, hl⟩, hs, hr⟩, ?_⟩
 ·have hV : V ≠ [] := by rintro rfl; exact hne (List.eq_nil_of_length_eq_zero (by rw [h.len]; rfl))
  refine ⟨g, 0, (hq hV).1, fun i e he => ?_⟩
  have hi : i < V.length := by have := (List.getElem?_eq_some_iff.1 he).1; rw [h.len] at this; exact this
  obtain ⟨_, ⟨c0, c1, c2⟩, _⟩ := h.el i e V[i] he (by simp [hi])
  rw [Nat.zero_add]
  exact ⟨c0, c1, c2⟩
 ·obtain ⟨h1, _, _, h4, _⟩ := h.el i e x he hx
  have hi := hlt hx
  have hi2 : i < es.length := by omega
  obtain ⟨_, _, ha⟩ := hal i es[i] x (by simp [hi2]) hx
  have h4 := h4 hi
  exact ⟨h1.1, h1.2, h4.1.1, ha.all, h4.2, ha.low, ha.top, ha.len⟩
 ·have hnl : (nsV V).length = V.length := by unfold nsV; rw [List.length_map]
  refine ⟨q, cq, by rw [hnl], by rw [hnl]; exact hm, fun hne => ?_⟩
  have hV : V ≠ [] := by rintro rfl; exact hne rfl
  refine ⟨g, 0, (hq hV).1, (hq hV).2, fun i n hi => ?_⟩
  have hilt : i < V.length := by have := (List.getElem?_eq_some_iff.1 hi).1; rw [hnl] at this; exact this
  have hx : V[i]? = some V[i] := by simp [hilt]
  have hi2 : i < es'.length := by rw [h.len]; exact hilt
  have he : es'[i]? = some es'[i] := by simp [hi2]
  obtain ⟨_, ⟨c0, c1, c2⟩, ⟨f0, f1, _⟩, h4, _⟩ := h.el i _ _ he hx
  have hn : n = V[i].2.2.length := by unfold nsV at hi; rw [List.getElem?_map, hx] at hi; exact (Option.some.inj hi).symm
  subst hn
  rw [Nat.zero_add]
  exact ⟨⟨_, c0⟩, ⟨_, c1⟩, f0, f1, _, c2, soft_low9 (h4 hilt).1.2 (Nat.le_trans (hq hV).2 (Nat.le_succ g))⟩
set_option maxRecDepth 100000 in
set_option maxHeartbeats 4000000 in
theorem vClone_any (V : List (Int × Int × List Iv)) (v : Value) (w : World) (hv : VecS w v V) : Calls Tryz.prog 83 #[v] w (IsVN V w) := by
 obtain ⟨es, hat, hel, hss, hal⟩ := vec_slices hv.m
 obtain ⟨p, cap, rfl⟩ := hv.m.shape
 have hlen := hv.m.len
 have K := Lib.hid (cloneV_any es p V.length cap w hat hv.sane (by omega) hss)
 have HR := Lib.hid hv.rng
 have HAL := Lib.hid (And.intro hal hss)
 have HEL := Lib.hid hel
 clear hv hat hss hal hel
 have KE := Lib.hid cloneE_any
 go_enter Tryz.func83, Tryz.ntmps83
 go_wp2_with fail
 refine K.out.mono ?_
 rintro e w1 ⟨u, rfl, hrow, h⟩
 have H1 := Lib.hid h; clear h
 obtain ⟨q, cq, g, rfl, hq, hgl, hcl, hsn⟩ : ∃ q cq g, u = .slice q V.length cq ∧ (V ≠ [] → q = some ⟨g, 0, none⟩ ∧ w.heap.size ≤ g) ∧ (V ≠ [] → g < w1.heap.size) ∧ ClS g es es V 0 w1 ∧ SaneE u := by
  have hsn := sane_own hrow
  have hrow2 := hrow
  have hel := HEL.out
  rcases hrow.2 with ⟨rfl, h0⟩ | ⟨g, c, cur, rfl, hbg, hgg, hnc, hcm, _⟩
  ·have hV : V.length = 0 := by omega
   have hVn : V = [] := List.eq_nil_of_length_eq_zero hV
   exact ⟨none, 0, 0, by rw [hV], fun hne => absurd hVn hne, fun hne => absurd hVn hne, ⟨hel, fun i e x _ hx => by rw [hVn] at hx; simp at hx⟩, hsn⟩
  ·refine ⟨_, c, g, by rw [hel], fun _ => ⟨rfl, hbg⟩, fun _ => (Array.getElem?_eq_some_iff.1 hgg).1, ⟨hel, fun i e x he hx => ?_⟩, hsn⟩
   obtain ⟨c0, c1, c2⟩ := own_cells3 hrow2 rfl i e he
   rw [Nat.zero_add] at c0 c1 c2
   exact ⟨⟨(HAL.out.1 i e x he hx).1, (HAL.out.1 i e x he hx).2.1⟩, ⟨c0, c1, c2⟩, ⟨hrow2.frozenAt _, hrow2.frozenAt _, hrow2.frozenAt _⟩, fun hi => absurd hi (Nat.not_lt_zero i), fun _ => he⟩
 have HQ := Lib.hid (And.intro hq hgl); clear hq hgl hrow
 have HSN := Lib.hid hsn; clear hsn
 have HCL := Lib.hid hcl; clear hcl
 go_wp2_with fail
 go_loopw [10] (fun i wr => ∃ (k : Nat) (es' : List (Int × Int × Value)), i = .int .i64 k ∧ k ≤ V.length ∧ ClS g es es' V k wr ∧ Below w.heap.size w wr ∧ w1.heap.size ≤ wr.heap.size) (fun i _ => V.length - (intOf i).toNat)
 case atStart => exact ⟨0, es, rfl, Nat.zero_le _, HCL.out, H1.out, Nat.le_refl _⟩
 case round =>
  obtain ⟨k, es', rfl, hk, hcs, hb, hsz⟩ := hrel
  have HB := Lib.hid hb; clear hb
  by_cases hlt : k < V.length
  ·obtain ⟨⟨x, m, H⟩, hx⟩ : ∃ x, V[k]? = some x := ⟨V[k], by simp [hlt]⟩
   have hlt2 : k < es'.length := by rw [hcs.len]; exact hlt
   obtain ⟨⟨r, m2, s0⟩, he⟩ : ∃ e, es'[k]? = some e := ⟨es'[k], by simp [hlt2]⟩
   obtain ⟨⟨e1, e2⟩, ⟨c0, c1, c2⟩, ⟨f0, f1, f2⟩, _, hold⟩ := hcs.el k _ _ he hx
   have he0 := hold (Nat.le_refl _)
   obtain ⟨_, _, ha⟩ := HAL.out.1 k _ _ he0 hx
   dsimp only at e1 e2 c0 c1 c2 ha
   subst e1 e2
   obtain ⟨ps, cs, rfl, _⟩ := ha.at'.shape
   have hVne : V ≠ [] := by rintro rfl; simp at hlt
   obtain ⟨rfl, hgw⟩ := HQ.out.1 hVne
   have hgl : g < wr.heap.size := Nat.lt_of_lt_of_le (HQ.out.2 hVne) hsz
   have hbn := below_new wr (.cells #[.int .u64 r, .int .u64 m2, .slice ps H.length cs] 51)
   have KC := Lib.hid (KE.out H ps H.length cs _ ((ha.at'.call HB.out).call hbn) ha.sane.1 (by have := ha.len; omega))
   have HBN := Lib.hid hbn; clear hbn
   have HHL : Hid (H.length ≤ 5000) := Lib.hid ha.len
   have i1 : (0 : Int) ≤ (k : Int) := by omega
   have i2 : (k : Int) < (V.length : Int) := by omega
   have c0' : wr.cell? ⟨g, 0 + k * 3, none⟩ = some (.int .u64 r) := by rw [Nat.zero_add]; exact c0
   have c1' : wr.cell? ⟨g, 0 + k * 3 + 1, none⟩ = some (.int .u64 m2) := by rw [Nat.zero_add]; exact c1
   have c2' : wr.cell? ⟨g, 0 + k * 3 + 2, none⟩ = some (.slice ps H.length cs) := by rw [Nat.zero_add]; exact c2
   have HC := Lib.hid (And.intro hcs (And.intro he hx)); clear hcs he hx hold he0 ha
   have HF := Lib.hid (And.intro c2 f2); clear f0 f1 f2
   have HG := Lib.hid (And.intro hgw (And.intro hgl hsz)); clear hgw hgl hsz hVne
   go_wp2_with fail
   refine KC.out.mono ?_
   rintro e w2 ⟨vs, rfl, hvs, h⟩
   obtain ⟨pv, cv, rfl, _⟩ := own_shape hvs
   have hb2 := below_call HBN.out h
   have t2 := keep_cell HF.out.1 hb2
   have u2 := keep_free HF.out.2 HG.out.2.1 hb2
   have hsv : (IvsAt w2 (.slice pv H.length cv) H ∧ SoftE w2 (g + 1) (.slice pv H.length cv) H.length) ∧ SaneE (.slice pv H.length cv) :=
    ⟨⟨hvs.ivs (by have := HHL.out; omega), soft_low9 (softE_own hvs) (Nat.le_trans (Nat.succ_le_of_lt HG.out.2.1) HBN.out.size)⟩, sane_row hvs⟩
   have HP := Lib.hid ((HC.out.1.call hb2).put HC.out.2.1 HC.out.2.2 hsv)
   have HB2 := Lib.hid (And.intro (below_call HB.out hb2) (Nat.le_trans HG.out.2.2 hb2.size)); clear hb2 hsv hvs h c0 c1 c2 c0' c1' c2'
   have t2' : w2.cell? ⟨g, 0 + k * 3 + 2, none⟩ = some (.slice ps H.length cs) := by rw [Nat.zero_add]; exact t2
   have u2' : w2.frozen? ⟨g, 0 + k * 3 + 2, none⟩ = false := by rw [Nat.zero_add]; exact u2
   go_wp2_with fail
   go_roundw
   case rel => exact ⟨k + 1, _, by go_num, by omega, HP.out, HB2.out.1.setCell (p := ⟨g, k * 3 + 2, none⟩) HG.out.1 _, by simpa using HB2.out.2⟩
   case measure => simp [intOf]; omega
  ·obtain rfl : k = V.length := by omega
   have HC := Lib.hid hcs; clear hcs
   go_wp2_with fail
   go_ret
   obtain ⟨s1, s2⟩ := HC.out.done HQ.out.1 HSN.out hlen HR.out HAL.out.1 HEL.out
   exact ⟨_, rfl, s1, s2, HB.out⟩
end Go.Proofs.YtcajknjhkabhjaaGreatDoor
namespace Go.Proofs.YtcajknjhkabhjaaGreatDoor
open Go.RowKit
theorem SoftW.call {w w' : World} {B : Nat} {v : Value} {ns : List Nat} (h : SoftW w B v ns) (hb : Below w.heap.size w w') : SoftW w' B v ns := by
 obtain ⟨p, cap, h1, h2, h3⟩ := h
 refine ⟨p, cap, h1, h2, fun hne => ?_⟩
 obtain ⟨b, o, h5, hB, h6⟩ := h3 hne
 refine ⟨b, o, h5, hB, fun i n hi => ?_⟩
 obtain ⟨⟨z, hz⟩, ⟨y, hy⟩, f0, f1, s, hs, hso⟩ := h6 i n hi
 exact ⟨⟨z, keep_cell hz hb⟩, ⟨y, keep_cell hy hb⟩, keep_free f0 (World.block_lt_of_cell? w _ hz) hb, keep_free f1 (World.block_lt_of_cell? w _ hy) hb, s, keep_cell hs hb, hso.call hb⟩
theorem kept_slice {w : World} {a c : Addr} {k : IntKind} {z : Int} {p : Option Addr} {n m : Nat} (ha : w.cell? a = some (.int k z)) (hc : w.cell? c = some (.slice p n m)) (y : Value) : (w.setCell a y).cell? c = some (.slice p n m) := by
 rw [World.cell?_setCell_other _ _ _ _ (fun e => by rw [e, hc] at ha; cases ha)]; exact hc
theorem int_set {w : World} {a c : Addr} {y : Int} (h : ∃ z : Int, w.cell? c = some (.int .u64 z)) : ∃ z : Int, (w.setCell a (.int .u64 y)).cell? c = some (.int .u64 z) := by
 obtain ⟨z, hz⟩ := h
 by_cases he : a = c
 ·subst he; exact ⟨y, World.cell?_setCell_same' _ _ _ (by rw [hz]; rfl)⟩
 ·exact ⟨z, by rw [World.cell?_setCell_other _ _ _ _ he]; exact hz⟩
theorem SoftE.setI {w : World} {B : Nat} {v : Value} {n : Nat} (h : SoftE w B v n) (a : Addr) (y : Int) : SoftE (w.setCell a (.int .u64 y)) B v n := by
 obtain ⟨p, cap, h1, h2, h3⟩ := h
 refine ⟨p, cap, h1, h2, fun hn => ?_⟩
 obtain ⟨g, o, h4, h5, h6⟩ := h3 hn
 refine ⟨g, o, h4, h5, fun i hi => ?_⟩
 obtain ⟨⟨hz, hf⟩, hy, hg⟩ := h6 i hi
 exact ⟨⟨int_set hz, by rw [World.frozen?_setCell]; exact hf⟩, int_set hy, by rw [World.frozen?_setCell]; exact hg⟩
theorem SoftW.setI {w : World} {B : Nat} {v : Value} {ns : List Nat} (h : SoftW w B v ns) {a : Addr} {z : Int} (hz : w.cell? a = some (.int .u64 z)) (y : Int) : SoftW (w.setCell a (.int .u64 y)) B v ns := by
 obtain ⟨p, cap, h1, h2, h3⟩ := h
 refine ⟨p, cap, h1, h2, fun hne => ?_⟩
 obtain ⟨b, o, h5, hB, h6⟩ := h3 hne
 refine ⟨b, o, h5, hB, fun i n hi => ?_⟩
 obtain ⟨k0, k1, f0, f1, s, hs, hso⟩ := h6 i n hi
 refine ⟨int_set k0, int_set k1, by rw [World.frozen?_setCell]; exact f0, by rw [World.frozen?_setCell]; exact f1, s, ?_, hso.setI _ _⟩
 obtain ⟨q, c, e, _⟩ := hso
 rw [e] at hs ⊢
 exact kept_slice hz hs _
theorem SoftW.at {w : World} {B : Nat} {v : Value} {ns : List Nat} (h : SoftW w B v ns) {i n : Nat} (hi : ns[i]? = some n) : ∃ b o m cap z z' p c, v = .slice (some ⟨b, o, none⟩) m cap ∧ B ≤ b ∧ w.cell? ⟨b, o + i * 3, none⟩ = some (.int .u64 z) ∧ w.cell? ⟨b, o + i * 3 + 1, none⟩ = some (.int .u64 z') ∧
 w.frozen? ⟨b, o + i * 3, none⟩ = false ∧ w.frozen? ⟨b, o + i * 3 + 1, none⟩ = false ∧ w.cell? ⟨b, o + i * 3 + 2, none⟩ = some (.slice p n c) ∧ SoftE w B (.slice p n c) n := by
 obtain ⟨p, cap, h1, _, h3⟩ := h
 obtain ⟨b, o, rfl, hB, h6⟩ := h3 (by intro e; rw [e] at hi; simp at hi)
 obtain ⟨⟨z, hz⟩, ⟨y, hy⟩, f0, f1, s, hs, hso⟩ := h6 i n hi
 have hso' := hso
 obtain ⟨q, c, e, _⟩ := hso
 subst e
 exact ⟨b, o, _, cap, z, y, q, c, h1, hB, hz, hy, f0, f1, hs, hso'⟩
theorem SoftE.at {w : World} {B : Nat} {p : Option Addr} {n c : Nat} (h : SoftE w B (.slice p n c) n) {j : Nat} (hj : j < n) : ∃ g o z z', p = some ⟨g, o, none⟩ ∧ B ≤ g ∧ w.cell? ⟨g, o + j * 2, none⟩ = some (.int .u64 z) ∧ w.frozen? ⟨g, o + j * 2, none⟩ = false ∧ w.cell? ⟨g, o + j * 2 + 1, none⟩ = some (.int .u64 z') ∧ w.frozen? ⟨g, o + j * 2 + 1, none⟩ = false := by
 obtain ⟨p', cap, h1, _, h3⟩ := h
 cases h1
 obtain ⟨g, o, rfl, hB, h6⟩ := h3 (by omega)
 obtain ⟨⟨⟨z, hz⟩, hf⟩, ⟨y, hy⟩, hg⟩ := h6 j hj
 exact ⟨g, o, z, y, rfl, hB, hz, hf, hy, hg⟩
end Go.Proofs.YtcajknjhkabhjaaGreatDoor
