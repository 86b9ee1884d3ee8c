/- Package vector: Canonical, Canon. -/
import Derived.Test.YtcajknjhkabhjaaGreatDoorAPMath
import Derived.Test.YtcajknjhkabhjaaGreatDoorANKeeps
import Derived.Sort.Grow
namespace Go.Proofs.YtcajknjhkabhjaaGreatDoor
section
open Go.RowKit
theorem soft_low9 {w : World} {B B' : Nat} {v : Value} {n : Nat} (h : SoftE w B v n) (hB : B' ≤ B) : SoftE w B' v n := by
 obtain ⟨p, cap, h1, h2, h3⟩ := h
 refine ⟨p, cap, h1, h2, fun hn => ?_⟩
 obtain ⟨g, o, h4, h5, h6⟩ := h3 hn
 exact ⟨g, o, h4, Nat.le_trans hB h5, h6⟩
theorem holes_le : ∀ (n : Nat) (m : Int) (H : List Iv), H.length = n → GoodE m H → (holesL (knownL m H)).length ≤ H.length
 | n, m, H, hn, hg => by
   rcases List.eq_nil_or_concat H with rfl | ⟨G, y, rfl⟩
   ·rw [(fin_of (m := m) (H := []) hg rfl rfl 0).2.2.1]
    exact Nat.le_refl _
   ·rw [List.concat_eq_append] at *
    by_cases hy : y.2 < m
    ·rw [(fin_of hg (trim_done hg hy) rfl 0).2.2.1]
     exact Nat.le_refl _
    ·by_cases h0 : y.1 = 0
     ·rw [trim_none hg hy h0]
      simp [holesL]
     ·obtain ⟨h1, h2⟩ := trim_step hg hy h0
      rw [← h2]
      have := holes_le G.length _ G rfl h1
      rw [List.length_append]
      omega
termination_by n => n
decreasing_by simp at hn; omega
def OutS (w : World) (B : Nat) (v : Value) (V : VcT) : Prop :=
 ∃ es : List (Int × Int × Value), es.length = V.length ∧ w.ownsRow B 51 3 v es.length (entC es) ∧ (∀ (i : Nat) (e : Int × Int × Value) (x : Int × Int × List Iv), es[i]? = some e → V[i]? = some x → e.1 = x.1 ∧ e.2.1 = x.2.1 ∧ HolE w B v.ownBlock e.2.2 x.2.2) ∧ ∀ e ∈ es, SaneE e.2.2
theorem OutS.nil (w : World) (B : Nat) : OutS w B (.slice none 0 0) [] := ⟨[], rfl, World.ownsRow_nil w B _ 3, fun i e x h => by simp at h, fun e h => by simp at h⟩
theorem OutS.shape {w : World} {B : Nat} {v : Value} {V : VcT} (h : OutS w B v V) : ∃ p cap, v = .slice p V.length cap := by
 obtain ⟨es, h1, h2, _⟩ := h
 obtain ⟨p, cap, e, _⟩ := own_shape h2
 exact ⟨p, cap, by rw [e, h1]⟩
theorem OutS.call {w w' : World} {B : Nat} {v : Value} {V : VcT} (h : OutS w B v V) (hb : Below w.heap.size w w') : OutS w' B v V := by
 obtain ⟨es, h1, h2, h3, h4⟩ := h
 exact ⟨es, h1, own_below h2 hb, fun i e x he hx => ⟨(h3 i e x he hx).1, (h3 i e x he hx).2.1, (h3 i e x he hx).2.2.call hb⟩, h4⟩
theorem OutS.push {w w2 : World} {B : Nat} {v v2 : Value} {es : List (Int × Int × Value)} {V : VcT} {r m : Int} {s : Value} {H : List Iv} (hel : es.length = V.length)
 (hall : ∀ (i : Nat) (e : Int × Int × Value) (x : Int × Int × List Iv), es[i]? = some e → V[i]? = some x → e.1 = x.1 ∧ e.2.1 = x.2.1 ∧ HolE w B v.ownBlock e.2.2 x.2.2)
 (hrow : w2.ownsRow B 51 3 v2 (es.length + 1) (entC es ++ [.int .u64 r, .int .u64 m, s])) (hg : w.grownBy w2 v.ownBlock) (hat : v2.ownBlock = v.ownBlock ∨ v2.ownBlock = some w.heap.size) (hx : HolE w B v.ownBlock s H) (hs : ∀ e ∈ es, SaneE e.2.2) (hss : SaneE s) : OutS w2 B v2 (V ++ [(r, m, H)]) := by
 refine ⟨es ++ [(r, m, s)], by rw [List.length_append, List.length_append, hel]; rfl, ?_, fun i e x he hx' => ?_, fun e he => ?_⟩
 ·rw [List.length_append, entC_app]; exact hrow
 ·by_cases hi : i < es.length
  ·rw [List.getElem?_append_left hi] at he
   rw [List.getElem?_append_left (by omega)] at hx'
   obtain ⟨h1, h2, h3⟩ := hall i e x he hx'
   exact ⟨h1, h2, h3.grown hg hat⟩
  ·rw [List.getElem?_append_right (by omega)] at he
   rw [List.getElem?_append_right (by omega)] at hx'
   have h0 : i - es.length = 0 := by
    have := (List.getElem?_eq_some_iff.1 he).1
    simpa using this
   have h0' : i - V.length = 0 := by omega
   rw [h0] at he; rw [h0'] at hx'
   obtain rfl : (r, m, s) = e := by simpa using he
   obtain rfl : (r, m, H) = x := by simpa using hx'
   exact ⟨rfl, rfl, hx.grown hg hat⟩
 ·rcases List.mem_append.1 he with h | h
  ·exact hs e h
  ·obtain rfl := List.mem_singleton.1 h
   exact hss
theorem sane_own {W : World} {B n sz : Nat} {t : TypeId} {v : Value} {xs : List Value} (h : W.ownsRow B t sz v n xs) : SaneE v := by
 rcases h.2 with ⟨h1, _⟩ | ⟨g, cap, cur, h1, _, _, hnc, _⟩
 ·refine ⟨fun n c e => ?_, fun a n c e => ?_⟩
  ·rw [e] at h1; cases h1; exact ⟨rfl, rfl⟩
  ·rw [e] at h1; cases h1
 ·refine ⟨fun n c e => ?_, fun a n c e => ?_⟩
  ·rw [e] at h1; cases h1
  ·rw [e] at h1; cases h1; exact hnc
theorem OutS.done {w : World} {B : Nat} {v : Value} {V : VcT} (h : OutS w B v V) (hl : V.length ≤ 100000) (hg : ∀ x ∈ V, (0 ≤ x.1 ∧ x.1 ≤ 18446744073709551615) ∧ All64 x.2.2 ∧ (0 ≤ x.2.1 ∧ x.2.1 ≤ 18446744073709551615) ∧ x.2.2.length ≤ 5000) :
 VecS w v V ∧ SoftW w B v (nsV V) := by
 obtain ⟨es, h1, h2, h3, h4⟩ := h
 refine ⟨⟨⟨⟨es, OutV.vecAt h2, h1, fun i e x he hx => ?_⟩, hl⟩, sane_own h2, fun x hx => (hg x hx).1⟩, ?_⟩
 ·obtain ⟨k1, k2, k3⟩ := h3 i e x he hx
  obtain ⟨g1, g2, g3, g4⟩ := hg x (List.mem_of_getElem? hx)
  exact ⟨k1, k2, k3.ivs, g2, h4 e (List.mem_of_getElem? he), g3.1, g3.2, g4⟩
 ·have hnl : (nsV V).length = es.length := by unfold nsV; rw [List.length_map, h1]
  have hrow := h2
  rcases h2.2 with ⟨rfl, h0⟩ | ⟨g, cap, cur, rfl, hbg, hgg, hnc, hcm, _⟩
  ·exact ⟨none, 0, by rw [hnl, h0], by rw [hnl, h0]; exact Nat.zero_le _, fun hne => absurd (List.eq_nil_of_length_eq_zero (by rw [hnl, h0])) hne⟩
  ·refine ⟨_, cap, by rw [hnl], by rw [hnl]; exact Nat.le_trans hnc hcm, fun _ => ⟨g, 0, rfl, hbg, fun i n hi => ?_⟩⟩
   have hilt : i < V.length := by have := (List.getElem?_eq_some_iff.1 hi).1; rw [hnl] at this; omega
   have hx : V[i]? = some V[i] := by simp [hilt]
   have he : es[i]? = some es[i] := by simp [show i < es.length by omega]
   obtain ⟨c0, c1, c2⟩ := own_cells3 hrow rfl i _ he
   obtain ⟨k1, k2, k3⟩ := h3 i _ _ he hx
   have hn : n = V[i].2.2.length := by unfold nsV at hi; rw [List.getElem?_map, hx] at hi; exact (Option.some.inj hi).symm
   subst hn
   exact ⟨⟨_, c0⟩, ⟨_, c1⟩, hrow.frozenAt _, hrow.frozenAt _, _, c2, k3.soft⟩
theorem canon_low {V : VcT} (hg : GoodV V) (h : ∀ x ∈ V, (0 ≤ x.1 ∧ x.1 ≤ 18446744073709551615) ∧ x.2.2.length ≤ 5000) : ∀ y ∈ canonV V, (0 ≤ y.1 ∧ y.1 ≤ 18446744073709551615) ∧ All64 y.2.2 ∧ (0 ≤ y.2.1 ∧ y.2.1 ≤ 18446744073709551615) ∧ y.2.2.length ≤ 5000 := by
 intro y hy
 obtain ⟨x, hx, hc⟩ := List.mem_filterMap.1 hy
 have hgx := hg.ent x hx
 obtain ⟨h1, h2, _⟩ := canE_some hgx hc
 have hlen : y.2.2.length ≤ x.2.2.length := by
  unfold canE at hc
  split at hc
  ·cases hc
  ·obtain rfl := Option.some.inj hc
   exact holes_le _ _ _ rfl hgx
 have := (h x hx).2
 refine ⟨by rw [h1]; exact (h x hx).1, ?_, ?_, by omega⟩
 ·exact h2.good.all
 ·exact ⟨h2.low, h2.top⟩
set_option maxRecDepth 100000 in
set_option maxHeartbeats 4000000 in
theorem vCanon_any (V : VcT) (v : Value) (w : World) (hv : VecS w v V) (hg : GoodV V) : Calls Tryz.prog 119 #[v] w (IsVN (canonV V) w) := by
 obtain ⟨i0, hi', hz0, hz1, hz2⟩ := info_parts infoE
 obtain ⟨p, cap, rfl⟩ := hv.m.shape
 have hlen := hv.m.len
 have hlow : ∀ x ∈ V, (0 ≤ x.1 ∧ x.1 ≤ 18446744073709551615) ∧ x.2.2.length ≤ 5000 := fun x hx => ⟨hv.rng x hx, by
  obtain ⟨i, hi⟩ := List.mem_iff_getElem?.1 hx
  obtain ⟨_, _, _, _, _, _, _, _, _, _, ha⟩ := hv.m.elem hi
  exact ha.len⟩
 have HFIN : Hid (∀ y ∈ canonV V, (0 ≤ y.1 ∧ y.1 ≤ 18446744073709551615) ∧ All64 y.2.2 ∧ (0 ≤ y.2.1 ∧ y.2.1 ≤ 18446744073709551615) ∧ y.2.2.length ≤ 5000) := Lib.hid (canon_low hg hlow)
 have HV := Lib.hid hv.m; clear hv hlow
 have HG := Lib.hid hg; clear hg
 have KE := Lib.hid eCanon_any
 go_enter Tryz.func119, Tryz.ntmps119
 go_wp2_with fail
 go_loopw [3, 10] (fun vo i wr => ∃ k : Nat, i = .int .i64 k ∧ k ≤ V.length ∧ OutS wr w.heap.size vo (canonV (V.take k)) ∧ Below w.heap.size w wr) (fun _ i _ => V.length - (intOf i).toNat)
 case atStart => exact ⟨0, rfl, Nat.zero_le _, OutS.nil _ _, Below.refl _ _⟩
 case round =>
  obtain ⟨k, rfl, hk, hout, hb⟩ := hrel
  obtain ⟨pv, cv, rfl⟩ := hout.shape
  have HB := Lib.hid hb; clear hb
  have hszw := HB.out.size
  by_cases hlt : k < V.length
  ·obtain ⟨⟨r, m, H⟩, hx⟩ : ∃ x, V[k]? = some x := ⟨V[k], by simp [hlt]⟩
   obtain ⟨b, o, cp, q, n, c, e, c0, c1, c2, ha⟩ := (HV.out.call HB.out).elem hx
   cases e
   obtain ⟨_, _, es, _⟩ := ha.at'.shape
   cases es
   have hge := HG.out.ent _ (List.mem_iff_getElem?.2 ⟨k, hx⟩)
   have hbn := below_new wr (.cells #[.int .u64 r, .int .u64 m, .slice q H.length c] 51)
   have K := Lib.hid (KE.out r m H (.slice q H.length c) _ ⟨ha.call hbn, hge⟩)
   have HBN := Lib.hid hbn; clear hbn
   have hcl := canonV_len (V.take k)
   rw [List.length_take] at hcl
   have HC := Lib.hid (And.intro (canonV_snoc hx) (show (canonV (V.take k)).length ≤ 100000 by omega))
   have i1 : (0 : Int) ≤ (k : Int) := by omega
   have i2 : (k : Int) < (V.length : Int) := by omega
   clear ha hge hx hcl
   generalize knownL m H = KK at *
   generalize canonV (V.take k) = P at *
   go_wp2_with fail
   refine K.out.mono ?_
   rintro e w1 ⟨vc, rfl, hvc, hsa, hso, h⟩
   obtain ⟨pc, cc, rfl, _⟩ := hvc.shape
   have HH := Lib.hid (And.intro hvc (And.intro hsa (soft_low9 hso HBN.out.size))); clear hvc hso hsa
   have H1 := Lib.hid (below_call HBN.out h); clear h c0 c1 c2
   by_cases hK : KK = []
   ·have e1 : someE KK = false := by rw [hK]; rfl
    rw [e1]
    have hb2 := below_new w1 (.cells #[.int .u64 (repE r KK), .int .u64 (topL KK), .slice pc (holesL KK).length cc] 51)
    have HB2 := Lib.hid (below_call H1.out hb2); clear hb2
    have HO := Lib.hid hout; clear hout
    have HC' := Lib.hid (HC.out.1.trans (if_pos hK)); clear HC hK
    generalize repE r KK = rr at *
    generalize topL KK = tt at *
    generalize (holesL KK).length = ll at *
    go_wp2_with fail
    go_roundw
    case rel => exact ⟨k + 1, by go_num, by omega, by rw [HC'.out]; exact HO.out.call HB2.out, below_call HB.out HB2.out⟩
    case measure => simp [intOf]; omega
   ·have e1 : someE KK = true := some9_of hK
    rw [e1]
    have HC' := Lib.hid (And.intro (HC.out.1.trans (if_neg hK)) HC.out.2); clear HC hK
    generalize repE r KK = rr at *
    generalize topL KK = tt at *
    generalize holesL KK = hh at *
    obtain ⟨w2, hw2⟩ : ∃ w2, w1.alloc (.cells #[.int .u64 rr, .int .u64 tt, .slice pc hh.length cc] 51) = w2 := ⟨_, rfl⟩
    have e3 : E3 w2 w1.heap.size rr tt (.slice pc hh.length cc) := hw2 ▸ E3.new w1 rr tt (.slice pc hh.length cc) 51 _ rfl
    have hb2 : Below w1.heap.size w1 w2 := hw2 ▸ below_new w1 _
    obtain ⟨t0, t1, t2⟩ := e3
    have HB2 := Lib.hid (below_call H1.out hb2)
    obtain ⟨es, hel, hrow, hall, hsan⟩ := hout
    have HROW := Lib.hid hrow
    have HALL := Lib.hid (And.intro hall hsan)
    have HAP := Lib.hid (fun h0 => own_apart hrow HH.out.2.2 h0)
    have HH2 := Lib.hid (And.intro (HH.out.1.call hb2) (And.intro (soft_low9 (HH.out.2.2.call hb2) hszw) HH.out.2.1))
    clear hrow hall hsan hb2 HH
    have hel2 : es.length ≤ 100000 := by rw [hel]; exact HC'.out.2
    have HSZ := Lib.hid (Nat.le_trans hszw HB2.out.size)
    go_wp2_with (at_builtin; go_loud (refine wpList_append_own_at _ rfl _ _ 47 rfl w.heap.size 51 i0 (.agg #[.int .u64 0, .int .u64 0, .slice none 0 0]) 3 40 Tryz.underlying47 hi' hz0 hz1 hz2 rfl (by decide) _ es.length (entC es) rfl (own_below HROW.out (below_call HB2.out (below_new _ _))) ⟨w2.heap.size, 0, none⟩ 1 1 [.int .u64 rr, .int .u64 tt, .slice pc hh.length cc] rfl rfl (cell_three9 _ _ _ _ _ _ rfl) (by simp [Value.oneCell']) (by unfold maxLen; omega) (by omega) (Nat.le_trans HSZ.out (below_new _ _).size) ?_; intro v' w4 hown' hgrow _ hat; have HN := Lib.hid (below_new w2 (.cells #[.int .u64 rr, .int .u64 tt, .slice pc hh.length cc] 51)); have HW4 := Lib.hid (own_grown (below_call HB.out (below_call HB2.out HN.out)) (own_below HROW.out (below_call HB2.out HN.out)) hgrow (Nat.le_trans HSZ.out HN.out.size)); have HP := Lib.hid (OutS.push hel (fun i e x he hx => ⟨(HALL.out.1 i e x he hx).1, (HALL.out.1 i e x he hx).2.1, (HALL.out.1 i e x he hx).2.2.call (below_call HB2.out HN.out)⟩) hown' hgrow hat (⟨HH2.out.1.call HN.out, HH2.out.2.1.call HN.out, HAP.out⟩ : HolE _ _ _ _ hh) HALL.out.2 HH2.out.2.2); clear hown' hgrow hat))
    go_roundw
    case rel => exact ⟨k + 1, by go_num, by omega, by rw [HC'.out.1]; exact HP.out, HW4.out⟩
    case measure => simp [intOf]; omega
  ·obtain rfl : k = V.length := by omega
   rw [List.take_of_length_le (Nat.le_refl _)] at hout ⊢
   have HO := Lib.hid hout; clear hout
   have HCL := Lib.hid (canonV_len V)
   have HFL := Lib.hid HFIN.out
   go_wp2_with fail
   go_ret
   obtain ⟨s1, s2⟩ := HO.out.done (by have := HCL.out; omega) HFL.out
   exact ⟨_, rfl, s1, s2, HB.out⟩
end
section
open Go.RowKit
theorem SoftW.call {w w' : World} {B : Nat} {v : Value} {ns : List Nat} (h : SoftW w B v ns) (hb : Below w.heap.size w w') : SoftW w' B v ns := by
 obtain ⟨p, cap, h1, h2, h3⟩ := h
 refine ⟨p, cap, h1, h2, fun hne => ?_⟩
 obtain ⟨b, o, h5, hB, h6⟩ := h3 hne
 refine ⟨b, o, h5, hB, fun i n hi => ?_⟩
 obtain ⟨⟨z, hz⟩, ⟨y, hy⟩, f0, f1, s, hs, hso⟩ := h6 i n hi
 exact ⟨⟨z, keep_cell hz hb⟩, ⟨y, keep_cell hy hb⟩, keep_free f0 (World.block_lt_of_cell? w _ hz) hb, keep_free f1 (World.block_lt_of_cell? w _ hy) hb, s, keep_cell hs hb, hso.call hb⟩
theorem kept_slice {w : World} {a c : Addr} {k : IntKind} {z : Int} {p : Option Addr} {n m : Nat} (ha : w.cell? a = some (.int k z)) (hc : w.cell? c = some (.slice p n m)) (y : Value) : (w.setCell a y).cell? c = some (.slice p n m) := by
 rw [World.cell?_setCell_other _ _ _ _ (fun e => by rw [e, hc] at ha; cases ha)]; exact hc
theorem int_set {w : World} {a c : Addr} {y : Int} (h : ∃ z : Int, w.cell? c = some (.int .u64 z)) : ∃ z : Int, (w.setCell a (.int .u64 y)).cell? c = some (.int .u64 z) := by
 obtain ⟨z, hz⟩ := h
 by_cases he : a = c
 ·subst he; exact ⟨y, World.cell?_setCell_same' _ _ _ (by rw [hz]; rfl)⟩
 ·exact ⟨z, by rw [World.cell?_setCell_other _ _ _ _ he]; exact hz⟩
theorem SoftE.setI {w : World} {B : Nat} {v : Value} {n : Nat} (h : SoftE w B v n) (a : Addr) (y : Int) : SoftE (w.setCell a (.int .u64 y)) B v n := by
 obtain ⟨p, cap, h1, h2, h3⟩ := h
 refine ⟨p, cap, h1, h2, fun hn => ?_⟩
 obtain ⟨g, o, h4, h5, h6⟩ := h3 hn
 refine ⟨g, o, h4, h5, fun i hi => ?_⟩
 obtain ⟨⟨hz, hf⟩, hy, hg⟩ := h6 i hi
 exact ⟨⟨int_set hz, by rw [World.frozen?_setCell]; exact hf⟩, int_set hy, by rw [World.frozen?_setCell]; exact hg⟩
theorem SoftW.setI {w : World} {B : Nat} {v : Value} {ns : List Nat} (h : SoftW w B v ns) {a : Addr} {z : Int} (hz : w.cell? a = some (.int .u64 z)) (y : Int) : SoftW (w.setCell a (.int .u64 y)) B v ns := by
 obtain ⟨p, cap, h1, h2, h3⟩ := h
 refine ⟨p, cap, h1, h2, fun hne => ?_⟩
 obtain ⟨b, o, h5, hB, h6⟩ := h3 hne
 refine ⟨b, o, h5, hB, fun i n hi => ?_⟩
 obtain ⟨k0, k1, f0, f1, s, hs, hso⟩ := h6 i n hi
 refine ⟨int_set k0, int_set k1, by rw [World.frozen?_setCell]; exact f0, by rw [World.frozen?_setCell]; exact f1, s, ?_, hso.setI _ _⟩
 obtain ⟨q, c, e, _⟩ := hso
 rw [e] at hs ⊢
 exact kept_slice hz hs _
theorem SoftW.at {w : World} {B : Nat} {v : Value} {ns : List Nat} (h : SoftW w B v ns) {i n : Nat} (hi : ns[i]? = some n) : ∃ b o m cap z z' p c, v = .slice (some ⟨b, o, none⟩) m cap ∧ B ≤ b ∧ w.cell? ⟨b, o + i * 3, none⟩ = some (.int .u64 z) ∧ w.cell? ⟨b, o + i * 3 + 1, none⟩ = some (.int .u64 z') ∧
 w.frozen? ⟨b, o + i * 3, none⟩ = false ∧ w.frozen? ⟨b, o + i * 3 + 1, none⟩ = false ∧ w.cell? ⟨b, o + i * 3 + 2, none⟩ = some (.slice p n c) ∧ SoftE w B (.slice p n c) n := by
 obtain ⟨p, cap, h1, _, h3⟩ := h
 obtain ⟨b, o, rfl, hB, h6⟩ := h3 (by intro e; rw [e] at hi; simp at hi)
 obtain ⟨⟨z, hz⟩, ⟨y, hy⟩, f0, f1, s, hs, hso⟩ := h6 i n hi
 have hso' := hso
 obtain ⟨q, c, e, _⟩ := hso
 subst e
 exact ⟨b, o, _, cap, z, y, q, c, h1, hB, hz, hy, f0, f1, hs, hso'⟩
theorem SoftE.at {w : World} {B : Nat} {p : Option Addr} {n c : Nat} (h : SoftE w B (.slice p n c) n) {j : Nat} (hj : j < n) : ∃ g o z z', p = some ⟨g, o, none⟩ ∧ B ≤ g ∧ w.cell? ⟨g, o + j * 2, none⟩ = some (.int .u64 z) ∧ w.frozen? ⟨g, o + j * 2, none⟩ = false ∧ w.cell? ⟨g, o + j * 2 + 1, none⟩ = some (.int .u64 z') ∧ w.frozen? ⟨g, o + j * 2 + 1, none⟩ = false := by
 obtain ⟨p', cap, h1, _, h3⟩ := h
 cases h1
 obtain ⟨g, o, rfl, hB, h6⟩ := h3 (by omega)
 obtain ⟨⟨⟨z, hz⟩, hf⟩, ⟨y, hy⟩, hg⟩ := h6 j hj
 exact ⟨g, o, z, y, rfl, hB, hz, hf, hy, hg⟩
end
end Go.Proofs.YtcajknjhkabhjaaGreatDoor
