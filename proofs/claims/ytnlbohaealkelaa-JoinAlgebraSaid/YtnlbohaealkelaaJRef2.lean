/- The reference's calculations with entries of one replica: Subset, Add, Next. Conditions: as each theorem says. -/
import Derived.Test.YtnlbohaealkelaaJRef
namespace Go.Proofs.Ytnlbohaealkelaa
open Go.RowKit
theorem SoftE.call {w w' : World} {B : Nat} {v : Value} {n : Nat} (h : SoftE w B v n) (hb : Below w.heap.size w w') : SoftE w' B v n := by
  obtain ⟨p, cap, h1, h2, h3⟩ := h
  refine ⟨p, cap, h1, h2, fun hn => ?_⟩
  obtain ⟨g, o, e, hB, h7⟩ := h3 hn
  refine ⟨g, o, e, hB, fun i hi => ?_⟩
  obtain ⟨⟨⟨z, hz⟩, hf⟩, ⟨y, hy⟩, hg⟩ := h7 i hi
  exact ⟨⟨⟨z, keep_cell hz hb⟩, keep_free hf (World.block_lt_of_cell? w _ hz) hb⟩, ⟨y, keep_cell hy hb⟩, keep_free hg (World.block_lt_of_cell? w _ hy) hb⟩
/-- The counter behind all that are known. -/
def nextN (K : List Iv) : Int := if K = [] then 0 else if topL K = UM then 0 else topL K + 1
def nextB (K : List Iv) : Bool := decide (K = []) || !decide (topL K = UM)
/-- A call that returns a number and whether there is one. -/
def IsNB8 (n : Int) (b : Bool) (w : World) (e : Ending) (w' : World) : Prop := e = .returned (.tuple #[.int .u64 n, .bool b]) ∧ Below w.heap.size w w'
/-- A call that returns the entry of a list alone. -/
def IsOne (r : Int) (L : List Iv) (w : World) (e : Ending) (w' : World) : Prop :=
  ∃ v, e = .returned (.agg #[.int .u64 (repE r L), .int .u64 (topL L), v]) ∧ IvsAt w' v (holesL L) ∧ SoftE w' w.heap.size v (holesL L).length ∧ Below w.heap.size w w'
set_option maxRecDepth 100000 in
set_option maxHeartbeats 4000000 in
theorem refSub8_any (ra rb ma mb : Int) (A B : List Iv) (sa sb : Value) (w : World) (ha : EntAt w sa ma A) (hb : EntAt w sb mb B) :
    Calls Try.prog 16 #[.agg #[.int .u64 ra, .int .u64 ma, sa], .agg #[.int .u64 rb, .int .u64 mb, sb]] w (IsEnd (decide (subL (knownL ma A) (knownL mb B) = [])) w) := by
  obtain ⟨p, cap, rfl, _⟩ := ha.any.at'.shape
  obtain ⟨p', cap', rfl, _⟩ := hb.any.at'.shape
  obtain ⟨wA, hwA⟩ : ∃ wA, w.alloc (.cells #[.int .u64 ra, .int .u64 ma, .slice p A.length cap] 26) = wA := ⟨_, rfl⟩
  have hbA : Below w.heap.size w wA := hwA ▸ below_new w _
  have eA : E3 wA w.heap.size ra ma (.slice p A.length cap) := hwA ▸ E3.new w ra ma (.slice p A.length cap) 26 _ rfl
  obtain ⟨w1, hw1⟩ : ∃ w1, wA.alloc (.cells #[.int .u64 rb, .int .u64 mb, .slice p' B.length cap'] 26) = w1 := ⟨_, rfl⟩
  have hb1' : Below wA.heap.size wA w1 := hw1 ▸ below_new wA _
  have eB : E3 w1 wA.heap.size rb mb (.slice p' B.length cap') := hw1 ▸ E3.new wA rb mb (.slice p' B.length cap') 26 _ rfl
  have hbW := below_call hbA hb1'
  have eA2 := eA.call hb1'
  have HS0 := Lib.hid (r6_drew ⟨Below.refl w1.heap.size w1, eA2.1, eA2.2.1, eA2.2.2, eB.1, eB.2.1, eB.2.2⟩)
  have HOA := Lib.hid (ha.op.call hbW)
  have HOB := Lib.hid (hb.op.call hbW)
  have KA := Lib.hid (fun W h => refKnown_any ra ma A (.slice p A.length cap) W h ha.good)
  have KB := Lib.hid (fun W h => refKnown_any rb mb B (.slice p' B.length cap') W h hb.good)
  have KD := Lib.hid refSubset_any
  have hla := known_count ha.good
  have hlb := known_count hb.good
  have hfa := ha.any.len
  have hfb := hb.any.len
  have HGA := Lib.hid (And.intro (known_good ha.good) (show (knownL ma A).length ≤ 5001 by omega))
  have HGB := Lib.hid (And.intro (known_good hb.good) (show (knownL mb B).length ≤ 5001 by omega))
  have HW1 := Lib.hid hbW
  clear ha hb hla hlb hfa hfb hbA hb1' eA eB eA2 hbW
  go_enter Try.func16, Try.ntmps16
  go_wp2_with fail
  clear hwA hw1
  generalize knownL ma A = KKA at *
  generalize knownL mb B = KKB at *
  go_region_held3 (fun w' => Below w1.heap.size w1 w' ∧ w'.cell? ⟨w.heap.size, 0, none⟩ = some (.int .u64 ra) ∧ w'.cell? ⟨w.heap.size, 1, none⟩ = some (.int .u64 ma) ∧ w'.cell? ⟨w.heap.size, 2, none⟩ = some (.slice p A.length cap) ∧ w'.cell? ⟨wA.heap.size, 0, none⟩ = some (.int .u64 rb) ∧ w'.cell? ⟨wA.heap.size, 1, none⟩ = some (.int .u64 mb) ∧ w'.cell? ⟨wA.heap.size, 2, none⟩ = some (.slice p' B.length cap'))
    (first
      | exact r6_call (by assumption) (by assumption)
      | exact HS0.out
      | exact r6_drew (by assumption)
      | assumption)
    (first
      | (go_at_call 28; (with_reducible change Calls _ _ #[.agg #[.int .u64 ra, .int .u64 ma, .slice p A.length cap]] _ _); refine (KA.out _ (HOA.out.call (Below.refl _ _).drew)).mono ?_; rintro en w3 ⟨v1, rfl, hv1, h'⟩; have hh : Below w1.heap.size w1 w3 := (Below.refl _ _).drew.trans h'; replace HOB := Lib.hid (HOB.out.call hh); have HV1 := Lib.hid hv1; clear hv1 hh; have h' := Lib.hid h')
      | (go_at_call 28; (with_reducible change Calls _ _ #[.agg #[.int .u64 rb, .int .u64 mb, .slice p' B.length cap']] _ _); refine (KB.out _ HOB.out).mono ?_; rintro en w4 ⟨v2, rfl, hv2, h'⟩; replace HV1 := Lib.hid (HV1.out.below h'); have HV2 := Lib.hid hv2; clear hv2; have h' := Lib.hid h')
      | (go_at_call 32; refine (KD.out KKA KKB _ _ _ ⟨HV1.out.ivs (by have := HGA.out.2; omega), HGA.out.1, by have := HGA.out.2; omega⟩ ⟨HV2.out.ivs (by have := HGB.out.2; omega), HGB.out.1, by have := HGB.out.2; omega⟩).mono ?_; rintro en w5 ⟨rfl, h'⟩; have h' := Lib.hid h'; have hSw := r6_call (by assumption) h'))
  have HSW := Lib.hid (below_call HW1.out hSw.1)
  clear hSw
  generalize decide (subL KKA KKB = []) = bb at *
  go_wp2_with fail
  go_ret
  exact ⟨rfl, HSW.out⟩
set_option maxRecDepth 100000 in
set_option maxHeartbeats 4000000 in
theorem refAdd8_any (r m : Int) (H : List Iv) (s : Value) (c : Int) (w : World) (he : EntAt w s m H) (h0 : 0 ≤ c) (h1 : c ≤ 18446744073709551615) :
    Calls Try.prog 19 #[.agg #[.int .u64 r, .int .u64 m, s], .int .u64 c] w (IsOne r (orL (knownL m H) [(c, c)]) w) := by
  obtain ⟨p, cap, rfl, _⟩ := he.any.at'.shape
  obtain ⟨wA, hwA⟩ : ∃ wA, w.alloc (.cells #[.int .u64 r, .int .u64 m, .slice p H.length cap] 26) = wA := ⟨_, rfl⟩
  have hbA : Below w.heap.size w wA := hwA ▸ below_new w _
  have eA : E3 wA w.heap.size r m (.slice p H.length cap) := hwA ▸ E3.new w r m (.slice p H.length cap) 26 _ rfl
  obtain ⟨w2, hw2⟩ : ∃ w2, wA.alloc (.cells #[.int .u64 0, .int .u64 0, .slice none 0 0] 26) = w2 := ⟨_, rfl⟩
  have hB2 : Below wA.heap.size wA w2 := hw2 ▸ below_new wA _
  have t0 : w2.cell? ⟨wA.heap.size, 0, none⟩ = some (.int .u64 0) := by rw [← hw2]; simp
  have t1 : w2.cell? ⟨wA.heap.size, 1, none⟩ = some (.int .u64 0) := by rw [← hw2]; simp
  have t2 : w2.cell? ⟨wA.heap.size, 2, none⟩ = some (.slice none 0 0) := by rw [← hw2]; simp
  have u0 : w2.frozen? ⟨wA.heap.size, 0, none⟩ = false := by rw [← hw2]; simp
  have u1 : w2.frozen? ⟨wA.heap.size, 1, none⟩ = false := by rw [← hw2]; simp
  have u2 : w2.frozen? ⟨wA.heap.size, 2, none⟩ = false := by rw [← hw2]; simp
  have HLT : Hid (wA.heap.size < w2.heap.size) := Lib.hid (World.block_lt_of_cell? w2 _ t0)
  obtain ⟨x0, x1, x2⟩ := eA.call hB2
  have HB := Lib.hid (below_call hbA hB2)
  have HO := Lib.hid (he.op.call (below_call hbA hB2))
  have KK := Lib.hid (fun W h => refKnown_any r m H (.slice p H.length cap) W h he.good)
  have KU := Lib.hid refUnion_any
  have KO := Lib.hid refOf_any
  have hga := known_good he.good
  have hsg := single_good h0 h1
  have hla := known_count he.good
  have hfa := he.any.len
  have hoc := or_count hga hsg
  simp only [List.length_cons, List.length_nil] at hoc
  have HGA := Lib.hid (And.intro hga (show (knownL m H).length ≤ 5001 by omega))
  have HGF := Lib.hid (And.intro (orL_good hga hsg) (show (orL (knownL m H) [(c, c)]).length ≤ 10002 by omega))
  have HSG := Lib.hid hsg
  have HWA := Lib.hid hbA
  clear he hga hsg hla hfa hoc hbA hB2 eA
  go_enter Try.func19, Try.ntmps19
  go_wp2_with fail
  clear hwA hw2
  generalize knownL m H = KKA at *
  refine (KK.out _ HO.out).mono ?_
  rintro e w3 ⟨v1, rfl, hv1, h⟩
  replace t0 := keep_cell t0 h
  replace t1 := keep_cell t1 h
  replace t2 := keep_cell t2 h
  replace u0 := keep_free u0 HLT.out h
  replace u1 := keep_free u1 HLT.out h
  replace u2 := keep_free u2 HLT.out h
  replace HLT := Lib.hid (Nat.lt_of_lt_of_le HLT.out h.size)
  replace x0 := keep_cell x0 h
  replace x1 := keep_cell x1 h
  replace x2 := keep_cell x2 h
  have HV1 := Lib.hid hv1; clear hv1
  have HB3 := Lib.hid (below_call HB.out h); clear h
  go_wp2_with fail
  obtain ⟨w4, hw4⟩ : ∃ w4, w3.alloc (.cells #[.int .u64 c, .int .u64 c] 36) = w4 := ⟨_, rfl⟩
  have h : Below w3.heap.size w3 w4 := hw4 ▸ below_new w3 _
  have ho1 : OpAt w4 (.slice (some ⟨w3.heap.size, 0, none⟩) 1 1) [(c, c)] := hw4 ▸ one_op w3 c c 36 HSG.out
  replace t0 := keep_cell t0 h
  replace t1 := keep_cell t1 h
  replace t2 := keep_cell t2 h
  replace u0 := keep_free u0 HLT.out h
  replace u1 := keep_free u1 HLT.out h
  replace u2 := keep_free u2 HLT.out h
  replace HLT := Lib.hid (Nat.lt_of_lt_of_le HLT.out h.size)
  replace x0 := keep_cell x0 h
  replace x1 := keep_cell x1 h
  replace x2 := keep_cell x2 h
  replace HV1 := Lib.hid (HV1.out.below h)
  have HB4 := Lib.hid (below_call HB3.out h); clear h
  rw [hw4]
  clear hw4
  refine (KU.out KKA [(c, c)] _ _ _ ⟨HV1.out.ivs (by have := HGA.out.2; omega), HGA.out.1, by have := HGA.out.2; omega⟩ ho1).mono ?_
  rintro e w5 ⟨v2, rfl, hv2, h⟩
  replace t0 := keep_cell t0 h
  replace t1 := keep_cell t1 h
  replace t2 := keep_cell t2 h
  replace u0 := keep_free u0 HLT.out h
  replace u1 := keep_free u1 HLT.out h
  replace u2 := keep_free u2 HLT.out h
  replace HLT := Lib.hid (Nat.lt_of_lt_of_le HLT.out h.size)
  replace x0 := keep_cell x0 h
  replace x1 := keep_cell x1 h
  replace x2 := keep_cell x2 h
  have HV2 := Lib.hid hv2; clear hv2 ho1
  have HB5 := Lib.hid (below_call HB4.out h); clear h
  generalize orL KKA [(c, c)] = KF at *
  go_wp2_with fail
  refine (KO.out r KF _ _ ⟨HV2.out.ivs (by have := HGF.out.2; omega), HGF.out.1, by have := HGF.out.2; omega⟩).mono ?_
  rintro e w6 ⟨vo, rfl, hvo, hso, h⟩
  have HLQ := HLT
  replace t0 := keep_cell t0 h
  replace t1 := keep_cell t1 h
  replace t2 := keep_cell t2 h
  replace u0 := keep_free u0 HLT.out h
  replace u1 := keep_free u1 HLT.out h
  replace u2 := keep_free u2 HLT.out h
  replace HLT := Lib.hid (Nat.lt_of_lt_of_le HLT.out h.size)
  replace x0 := keep_cell x0 h
  replace x1 := keep_cell x1 h
  replace x2 := keep_cell x2 h
  obtain ⟨po, co, rfl, _⟩ := hvo.shape
  have HVO := Lib.hid (And.intro hvo hso); clear hvo hso
  have HB6 := Lib.hid (below_call HB5.out h); clear h
  have hn := below_new w6 (.cells #[.int .u64 (repE r KF), .int .u64 (topL KF), .slice po (holesL KF).length co] 26)
  have y0 := keep_cell t0 hn
  have y1 := keep_cell t1 hn
  have y2 := keep_cell t2 hn
  have v0 := keep_free u0 HLT.out hn
  have v1 := keep_free u1 HLT.out hn
  have v2 := keep_free u2 HLT.out hn
  have HN := Lib.hid hn; clear hn t0 t1 t2 u0 u1 u2
  go_wp2_with fail
  have hs3 := three_stored y0 y1 y2 (.int .u64 (repE r KF)) (.int .u64 (topL KF)) (.slice po (holesL KF).length co)
  refine bodyPost_ret (v := .agg #[.int .u64 (repE r KF), .int .u64 (topL KF), .slice po (holesL KF).length co]) (by simp [results, Try.results19, go_sem, hs3.1, hs3.2.1, hs3.2.2]) rfl ?_
  have hv0 := And.intro (HVO.out.1.call HN.out) (HVO.out.2.call HN.out)
  have hv := soft_set (o := 2) (soft_set (o := 1) (soft_set (o := 0) hv0 HLQ.out (.int .u64 (repE r KF))) HLQ.out (.int .u64 (topL KF))) HLQ.out (.slice po (holesL KF).length co)
  exact ⟨_, rfl, hv.1, hv.2.base (Nat.le_trans HWA.out.size (Nat.le_of_lt HLQ.out)), (((below_call HB6.out HN.out).setCell (p := ⟨wA.heap.size, 0, none⟩) HWA.out.size _).setCell (p := ⟨wA.heap.size, 1, none⟩) HWA.out.size _).setCell (p := ⟨wA.heap.size, 2, none⟩) HWA.out.size _⟩
set_option maxRecDepth 100000 in
set_option maxHeartbeats 2000000 in
theorem refNext8_any (r m : Int) (H : List Iv) (s : Value) (w : World) (he : EntAt w s m H) :
    Calls Try.prog 22 #[.agg #[.int .u64 r, .int .u64 m, s]] w (IsNB8 (nextN (knownL m H)) (nextB (knownL m H)) w) := by
  obtain ⟨p, cap, rfl, _⟩ := he.any.at'.shape
  have hb := below_new w (.cells #[.int .u64 r, .int .u64 m, .slice p H.length cap] 26)
  have K := Lib.hid (refKnown_any r m H _ _ (he.op.call hb) he.good)
  have hla := known_count he.good
  have hfa := he.any.len
  have HGA := Lib.hid (And.intro (known_good he.good) (show (knownL m H).length ≤ 5001 by omega))
  have HB := Lib.hid hb; clear hb he hla hfa
  have KM := Lib.hid max_any
  generalize knownL m H = KK at *
  go_enter Try.func22, Try.ntmps22
  go_wp2_with fail
  refine K.out.mono ?_
  rintro e w1 ⟨v, rfl, hv, h⟩
  have hi := hv.ivs (by have := HGA.out.2; omega)
  have H1 := Lib.hid (below_call HB.out h); clear h hv
  by_cases hL : KK = []
  · subst hL
    obtain ⟨q, cq, rfl, _⟩ := hi.shape
    clear hi
    go_wp2_with fail
    go_ret2
    exact ⟨rfl, H1.out⟩
  · obtain ⟨k, hk⟩ : ∃ k, KK.length = k + 1 := ⟨KK.length - 1, by have := List.length_pos_iff.2 hL; omega⟩
    obtain ⟨z, hz, ht⟩ := top_at hk
    have htr := top_range HGA.out.1 hL
    obtain ⟨b, o, cp, rfl, _, c1⟩ := hi.elem hz
    rw [← ht] at c1
    have hn : nextN KK = if topL KK = UM then 0 else topL KK + 1 := by unfold nextN; rw [if_neg hL]
    have hnb : nextB KK = !decide (topL KK = UM) := by unfold nextB; simp [hL]
    have HN := Lib.hid (And.intro hn hnb)
    have hkl : k ≤ 5000 := by have := HGA.out.2; omega
    rw [hk]
    have i0 : ¬ (k : Int) + 1 = 0 := by omega
    have i1 : (0 : Int) ≤ (k : Int) := by omega
    unfold UM at *
    generalize topL KK = t at *
    by_cases hm : t = 18446744073709551615
    · rw [if_pos hm, show (!decide (t = 18446744073709551615)) = false from by simp [hm]] at HN
      subst hm
      clear hL hk hz ht htr hi hn hnb
      go_wp2_with fail
      refine (KM.out _).mono ?_
      rintro e w2 ⟨rfl, rfl⟩
      go_wp2_with fail
      go_ret2
      exact ⟨by rw [HN.out.1, HN.out.2]; rfl, H1.out⟩
    · rw [if_neg hm, show (!decide (t = 18446744073709551615)) = true from by simp [hm]] at HN
      have e1 : (t == 18446744073709551615) = false := by simpa using hm
      have hw : IntKind.u64.wrap (t + 1) = t + 1 := IntWalk.u64_in _ (by omega)
      clear hL hk hz ht htr hi hn hnb hm
      go_wp2_with fail
      refine (KM.out _).mono ?_
      rintro e w2 ⟨rfl, rfl⟩
      go_wp2_with fail
      go_ret2
      exact ⟨by rw [HN.out.1, HN.out.2]; rfl, H1.out⟩
end Go.Proofs.Ytnlbohaealkelaa
