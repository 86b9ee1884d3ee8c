/- The laws of layer 9 in every state, out of what package vector says. Conditions: the contracts of package vector, and the fixed value of errors.errorType. -/
import Derived.Test.YtgeggdaokjimjaaDoorPAlive
namespace Go.Proofs.YtgeggdaokjimjaaDoor
open Go.RowKit
theorem HolesAt.call {lim : Nat} {w w' : World} {s : Value} (h : HolesAt lim w s) (hb : Below w.heap.size w w') : HolesAt lim w' s := by
  rcases h with h | ⟨l, h1, h2, h3⟩
  · exact .inl h
  · exact .inr ⟨l, h1, h2, h3.call hb⟩
theorem EntIn.call {lim : Nat} {w w' : World} {e : Int × Int × Value} (h : EntIn lim w e) (hb : Below w.heap.size w w') : EntIn lim w' e := ⟨h.1, h.2.1, h.2.2.1, h.2.2.2.call hb⟩
/-- A vector that came in. -/
def vecArg (w : World) (v : Value) : Prop := SaneE v ∧ ∃ es, VecAt w v es ∧ ∀ e ∈ es, EntIn 30 w e
/-- What Few says of a vector that came in, and what it is then. -/
theorem vecArg.few {w : World} {v : Value} (h : vecArg w v) : (∃ p n c, v = .slice p n c) ∧ ∃ b, (∀ W, Below w.heap.size w W → Calls Tryd.prog 8 #[v] W (IsEnd b W)) ∧ (b = true → ∃ V, VecS w v V ∧ V.length ≤ 20 ∧ ∀ x ∈ V, x.2.2.length ≤ 30) := by
  obtain ⟨hs, es, hv, hi⟩ := h
  refine ⟨?_, fewB es, fun W hb => few_any v es W (hv.call hb) (fun e he => (hi e he).call hb), fun hf => ?_⟩
  · obtain ⟨p, cap, e, _⟩ := hv; exact ⟨p, _, cap, e⟩
  · obtain ⟨V, h1, h2, h3⟩ := few_vec hv hi hf
    exact ⟨V, ⟨h1, hs, fun x hx => (h3 x hx).2⟩, h2, fun x hx => (h3 x hx).1⟩
theorem VecM.all64 {w : World} {v : Value} {V : List (Int × Int × List Iv)} (h : VecM w v V) : ∀ x ∈ V, All64 x.2.2 ∧ 0 ≤ x.2.1 ∧ x.2.1 ≤ UM := by
  intro x hx
  obtain ⟨i, hi⟩ := List.mem_iff_getElem?.1 hx
  obtain ⟨_, _, _, _, _, _, _, _, _, _, ha⟩ := h.elem (r := x.1) (m := x.2.1) (H := x.2.2) hi
  exact ⟨ha.all, ha.low, by unfold UM; exact ha.top⟩
theorem cmpL_range : ∀ A B : List Int, -1 ≤ cmpL A B ∧ cmpL A B ≤ 1
  | [], [] => by decide
  | [], _ :: _ => ⟨Int.le_refl _, by show (-1 : Int) ≤ 1; decide⟩
  | _ :: _, [] => ⟨by show (-1 : Int) ≤ 1; decide, Int.le_refl _⟩
  | x :: a, y :: b => by
    unfold cmpL
    by_cases h1 : x < y
    · rw [if_pos h1]; decide
    · rw [if_neg h1]
      by_cases h2 : y < x
      · rw [if_pos h2]; decide
      · rw [if_neg h2]; exact cmpL_range a b
set_option maxRecDepth 100000 in
set_option maxHeartbeats 4000000 in
theorem lawChecks9_any (C : VecC) (va : Value) (w : World) (hg : ErrT w) (ha : vecArg w va) :
    Calls Tryd.prog 3 #[va] w (IsEnd true w) := by
  have KL := Lib.hid (fun W h => alive9_any C W h)
  have HG_0 := Lib.hid hg; clear hg
  have HC := Lib.hid C; clear C
  obtain ⟨⟨pa, na, ca, rfl⟩, ba, hfa, hva⟩ := ha.few
  have KFa := Lib.hid hfa; have HVa := Lib.hid hva; clear hfa hva ha
  go_enter Tryd.func3, Tryd.ntmps3
  go_wp2_with fail
  refine (KFa.out _ (Below.refl _ _)).mono ?_
  rintro e w1 ⟨rfl, h⟩
  have HG_1 := Lib.hid (HG_0.out.here h)
  clear HG_0
  have HB_1 := Lib.hid h
  clear h
  cases ba with
  | false =>
    go_wp2_with fail
    refine (KL.out _ HG_1.out).mono ?_
    rintro e w2 ⟨rfl, h⟩
    have HG_2 := Lib.hid (HG_1.out.here h)
    clear HG_1
    have HB_2 := Lib.hid (below_call HB_1.out h)
    clear h
    go_wp2_with fail
    go_ret
    exact ⟨rfl, HB_2.out⟩
  | true =>
    obtain ⟨A, ha, hla, hha⟩ := HVa.out (by trivial)
    have h64a := ha.m.all64
    have HVa_1 := Lib.hid (ha.call HB_1.out)
    clear ha
    have K1 := Lib.hid (fun W h h2 => HC.out.chk A (.slice pa na ca) W h h2)
    have K2 := Lib.hid (fun W h => (chkE9_code A ▸ Code_any (chkE9 A) W h : Calls Tryd.prog 12 #[errV (chkE9 A)] W (IntEnd (vCode A) W)))
    have K3 := Lib.hid (fun W h => (chkE9_at A ▸ At_any (chkE9 A) W h : Calls Tryd.prog 13 #[errV (chkE9 A)] W (IntEnd (vAt A) W)))
    have K4 := Lib.hid (fun W h => refCheck9_any A (.slice pa na ca) W h)
    have K5 := Lib.hid (fun W h h2 => HC.out.can A (.slice pa na ca) W h h2)
    have K6 := Lib.hid (fun W h => refCanonical9_any A (.slice pa na ca) W h)
    unfold IsErr at K1
    generalize errV (chkE9 A) = ev at *
    generalize vCode A = vc at *
    generalize vAt A = va at *
    generalize (canV A && rightV A) = cb at *
    clear h64a hla hha
    go_wp2_with fail
    refine (K1.out _ HG_1.out HVa_1.out).mono ?_
    rintro e w2 ⟨rfl, h⟩
    have HG_2 := Lib.hid (HG_1.out.here h)
    clear HG_1
    have HVa_2 := Lib.hid (HVa_1.out.call h)
    clear HVa_1
    have HB_2 := Lib.hid (below_call HB_1.out h)
    clear h
    go_wp2_with fail
    refine (K4.out _ HVa_2.out.m).mono ?_
    rintro e w3 ⟨rfl, h⟩
    have HG_3 := Lib.hid (HG_2.out.here h)
    clear HG_2
    have HVa_3 := Lib.hid (HVa_2.out.call h)
    clear HVa_2
    have HB_3 := Lib.hid (below_call HB_2.out h)
    clear h
    go_wp2_with fail
    refine (KL.out _ HG_3.out).mono ?_
    rintro e w4 ⟨rfl, h⟩
    have HG_4 := Lib.hid (HG_3.out.here h)
    clear HG_3
    have HVa_4 := Lib.hid (HVa_3.out.call h)
    clear HVa_3
    have HB_4 := Lib.hid (below_call HB_3.out h)
    clear h
    go_wp2_with fail
    refine (K2.out _ HG_4.out).mono ?_
    rintro e w5 ⟨rfl, h⟩
    have HG_5 := Lib.hid (HG_4.out.here h)
    clear HG_4
    have HVa_5 := Lib.hid (HVa_4.out.call h)
    clear HVa_4
    have HB_5 := Lib.hid (below_call HB_4.out h)
    clear h
    go_wp2_with fail
    refine (K3.out _ HG_5.out).mono ?_
    rintro e w6 ⟨rfl, h⟩
    have HG_6 := Lib.hid (HG_5.out.here h)
    clear HG_5
    have HVa_6 := Lib.hid (HVa_5.out.call h)
    clear HVa_5
    have HB_6 := Lib.hid (below_call HB_5.out h)
    clear h
    go_wp2_with fail
    refine (K5.out _ HG_6.out HVa_6.out).mono ?_
    rintro e w7 ⟨rfl, h⟩
    have HG_7 := Lib.hid (HG_6.out.here h)
    clear HG_6
    have HVa_7 := Lib.hid (HVa_6.out.call h)
    clear HVa_6
    have HB_7 := Lib.hid (below_call HB_6.out h)
    clear h
    go_wp2_with fail
    refine (K6.out _ HVa_7.out.m).mono ?_
    rintro e w8 ⟨rfl, h⟩
    have HG_8 := Lib.hid (HG_7.out.here h)
    clear HG_7
    have HVa_8 := Lib.hid (HVa_7.out.call h)
    clear HVa_7
    have HB_8 := Lib.hid (below_call HB_7.out h)
    clear h
    go_wp2_with fail
    go_ret
    exact ⟨rfl, HB_8.out⟩
set_option maxRecDepth 100000 in
set_option maxHeartbeats 4000000 in
theorem lawKnows9_any (C : VecC) (va : Value) (r c : Int) (w : World) (hg : ErrT w) (ha : vecArg w va) (nr : 0 ≤ r ∧ r ≤ 18446744073709551615) (nc : 0 ≤ c ∧ c ≤ 18446744073709551615) :
    Calls Tryd.prog 4 #[va, .int .u64 r, .int .u64 c] w (IsEnd true w) := by
  have KL := Lib.hid (fun W h => alive9_any C W h)
  have HG_0 := Lib.hid hg; clear hg
  have HC := Lib.hid C; clear C
  obtain ⟨⟨pa, na, ca, rfl⟩, ba, hfa, hva⟩ := ha.few
  have KFa := Lib.hid hfa; have HVa := Lib.hid hva; clear hfa hva ha
  go_enter Tryd.func4, Tryd.ntmps4
  go_wp2_with fail
  refine (KFa.out _ (Below.refl _ _)).mono ?_
  rintro e w1 ⟨rfl, h⟩
  have HG_1 := Lib.hid (HG_0.out.here h)
  clear HG_0
  have HB_1 := Lib.hid h
  clear h
  cases ba with
  | false =>
    go_wp2_with fail
    refine (KL.out _ HG_1.out).mono ?_
    rintro e w2 ⟨rfl, h⟩
    have HG_2 := Lib.hid (HG_1.out.here h)
    clear HG_1
    have HB_2 := Lib.hid (below_call HB_1.out h)
    clear h
    go_wp2_with fail
    go_ret
    exact ⟨rfl, HB_2.out⟩
  | true =>
    obtain ⟨A, ha, hla, hha⟩ := HVa.out (by trivial)
    have h64a := ha.m.all64
    have HVa_1 := Lib.hid (ha.call HB_1.out)
    clear ha
    obtain ⟨rb, hrb⟩ : ∃ b, rightV A = b := ⟨_, rfl⟩
    have KR := Lib.hid (hrb ▸ refRight9_any A (.slice pa na ca) _ HVa_1.out.m : Calls Tryd.prog 16 #[.slice pa na ca] w1 (IsEnd rb w1))
    have HRB := Lib.hid (fun e => good_of_right h64a (hrb.trans e))
    clear hrb h64a
    go_wp2_with fail
    refine (KR.out).mono ?_
    rintro e w2 ⟨rfl, h⟩
    have HG_2 := Lib.hid (HG_1.out.here h)
    clear HG_1
    have HVa_2 := Lib.hid (HVa_1.out.call h)
    clear HVa_1
    have HB_2 := Lib.hid (below_call HB_1.out h)
    clear h
    clear KR
    cases rb with
    | false =>
      go_wp2_with fail
      refine (KL.out _ HG_2.out).mono ?_
      rintro e w3 ⟨rfl, h⟩
      have HG_3 := Lib.hid (HG_2.out.here h)
      clear HG_2
      have HVa_3 := Lib.hid (HVa_2.out.call h)
      clear HVa_2
      have HB_3 := Lib.hid (below_call HB_2.out h)
      clear h
      go_wp2_with fail
      go_ret
      exact ⟨rfl, HB_3.out⟩
    | true =>
      have hgood := HRB.out rfl
      have K1 := Lib.hid (fun W h => HC.out.find A (.slice pa na ca) r W h hgood nr.1 nr.2)
      have K2 := Lib.hid (fun W h => refFind9_any A (.slice pa na ca) r W h)
      have K3 := Lib.hid (fun W h => HC.out.has A (.slice pa na ca) r c W h hgood nr.1 nr.2 nc.1 nc.2)
      have K4 := Lib.hid (fun W h => refHas9_any A (.slice pa na ca) r c W h)
      generalize findV A r = fi at *
      generalize hasV A r c = hb at *
      clear hgood hla hha nr nc
      go_wp2_with fail
      refine (KL.out _ HG_2.out).mono ?_
      rintro e w3 ⟨rfl, h⟩
      have HG_3 := Lib.hid (HG_2.out.here h)
      clear HG_2
      have HVa_3 := Lib.hid (HVa_2.out.call h)
      clear HVa_2
      have HB_3 := Lib.hid (below_call HB_2.out h)
      clear h
      go_wp2_with fail
      refine (K1.out _ HVa_3.out).mono ?_
      rintro e w4 ⟨rfl, h⟩
      have HG_4 := Lib.hid (HG_3.out.here h)
      clear HG_3
      have HVa_4 := Lib.hid (HVa_3.out.call h)
      clear HVa_3
      have HB_4 := Lib.hid (below_call HB_3.out h)
      clear h
      go_wp2_with fail
      refine (K2.out _ HVa_4.out.m.i).mono ?_
      rintro e w5 ⟨rfl, h⟩
      have HG_5 := Lib.hid (HG_4.out.here h)
      clear HG_4
      have HVa_5 := Lib.hid (HVa_4.out.call h)
      clear HVa_4
      have HB_5 := Lib.hid (below_call HB_4.out h)
      clear h
      go_wp2_with fail
      refine (K3.out _ HVa_5.out).mono ?_
      rintro e w6 ⟨rfl, h⟩
      have HG_6 := Lib.hid (HG_5.out.here h)
      clear HG_5
      have HVa_6 := Lib.hid (HVa_5.out.call h)
      clear HVa_5
      have HB_6 := Lib.hid (below_call HB_5.out h)
      clear h
      go_wp2_with fail
      refine (K4.out _ HVa_6.out.m).mono ?_
      rintro e w7 ⟨rfl, h⟩
      have HG_7 := Lib.hid (HG_6.out.here h)
      clear HG_6
      have HVa_7 := Lib.hid (HVa_6.out.call h)
      clear HVa_6
      have HB_7 := Lib.hid (below_call HB_6.out h)
      clear h
      go_wp2_with fail
      go_ret
      exact ⟨rfl, HB_7.out⟩
set_option maxRecDepth 100000 in
set_option maxHeartbeats 4000000 in
theorem lawNumbers9_any (C : VecC) (va vb : Value) (w : World) (hg : ErrT w) (ha : vecArg w va) (hb : vecArg w vb) :
    Calls Tryd.prog 5 #[va, vb] w (IsEnd true w) := by
  have KL := Lib.hid (fun W h => alive9_any C W h)
  have HG_0 := Lib.hid hg; clear hg
  have HC := Lib.hid C; clear C
  obtain ⟨⟨pa, na, ca, rfl⟩, ba, hfa, hva⟩ := ha.few
  have KFa := Lib.hid hfa; have HVa := Lib.hid hva; clear hfa hva ha
  obtain ⟨⟨pb, nb, cb, rfl⟩, bb, hfb, hvb⟩ := hb.few
  have KFb := Lib.hid hfb; have HVb := Lib.hid hvb; clear hfb hvb hb
  go_enter Tryd.func5, Tryd.ntmps5
  go_wp2_with fail
  refine (KFa.out _ (Below.refl _ _)).mono ?_
  rintro e w1 ⟨rfl, h⟩
  have HG_1 := Lib.hid (HG_0.out.here h)
  clear HG_0
  have HB_1 := Lib.hid h
  clear h
  cases ba with
  | false =>
    go_wp2_with fail
    refine (KL.out _ HG_1.out).mono ?_
    rintro e w2 ⟨rfl, h⟩
    have HG_2 := Lib.hid (HG_1.out.here h)
    clear HG_1
    have HB_2 := Lib.hid (below_call HB_1.out h)
    clear h
    go_wp2_with fail
    go_ret
    exact ⟨rfl, HB_2.out⟩
  | true =>
    go_wp2_with fail
    refine (KFb.out _ HB_1.out).mono ?_
    rintro e w2 ⟨rfl, h⟩
    have HG_2 := Lib.hid (HG_1.out.here h)
    clear HG_1
    have HB_2 := Lib.hid (below_call HB_1.out h)
    clear h
    cases bb with
    | false =>
      go_wp2_with fail
      refine (KL.out _ HG_2.out).mono ?_
      rintro e w3 ⟨rfl, h⟩
      have HG_3 := Lib.hid (HG_2.out.here h)
      clear HG_2
      have HB_3 := Lib.hid (below_call HB_2.out h)
      clear h
      go_wp2_with fail
      go_ret
      exact ⟨rfl, HB_3.out⟩
    | true =>
      obtain ⟨A, ha, hla, hha⟩ := HVa.out (by trivial)
      have h64a := ha.m.all64
      have HVa_2 := Lib.hid (ha.call HB_2.out)
      clear ha
      obtain ⟨B, hb, hlb, hhb⟩ := HVb.out (by trivial)
      have h64b := hb.m.all64
      have HVb_2 := Lib.hid (hb.call HB_2.out)
      clear hb
      obtain ⟨n, hn⟩ : ∃ n, cmpL (numsV A) (numsV B) = n := ⟨_, rfl⟩
      have hnr := cmpL_range (numsV A) (numsV B); rw [hn] at hnr
      have hng : cmpL (numsV B) (numsV A) = -n := by rw [cmpL_neg, hn]
      have hns : decide (A = B) = (n == 0) := by rw [← cmp_same, hn]; rfl
      have hw : IntKind.i64.wrap (-n) = -n := IntWalk.i64_in _ (by omega)
      have K1 := Lib.hid (fun W h h2 => (hn ▸ HC.out.cmp A B (.slice pa na ca) (.slice pb nb cb) W h h2 : Calls Tryd.prog 21 #[.slice pa na ca, .slice pb nb cb] W (IsInt n W)))
      have K2 := Lib.hid (fun W h => HC.out.nums A (.slice pa na ca) W h)
      have K3 := Lib.hid (fun W h => refNumbers9_any A (.slice pa na ca) W h)
      have K4 := Lib.hid (fun s t W h h2 => (by have k := equalU_any (numsV A) (numsV A) s t W h h2; rw [show decide (numsV A = numsV A) = true from by simp] at k; exact k : Calls Tryd.prog 22 #[s, t] W (IsEnd true W)))
      have K5 := Lib.hid (fun W h h2 => (hn ▸ refCompare9_any A B (.slice pa na ca) (.slice pb nb cb) W h h2 : Calls Tryd.prog 25 #[.slice pa na ca, .slice pb nb cb] W (IsInt n W)))
      have K6 := Lib.hid (fun W h h2 => (hng ▸ HC.out.cmp B A (.slice pb nb cb) (.slice pa na ca) W h h2 : Calls Tryd.prog 21 #[.slice pb nb cb, .slice pa na ca] W (IsInt (-n) W)))
      have K7 := Lib.hid (fun W h h2 => (hns ▸ refSame9_any A B (.slice pa na ca) (.slice pb nb cb) W h h2 : Calls Tryd.prog 26 #[.slice pa na ca, .slice pb nb cb] W (IsEnd (n == 0) W)))
      clear hn hng hns hnr h64a h64b hla hlb hha hhb
      go_wp2_with fail
      refine (K1.out _ HVa_2.out HVb_2.out).mono ?_
      rintro e w3 ⟨rfl, h⟩
      have HG_3 := Lib.hid (HG_2.out.here h)
      clear HG_2
      have HVa_3 := Lib.hid (HVa_2.out.call h)
      clear HVa_2
      have HVb_3 := Lib.hid (HVb_2.out.call h)
      clear HVb_2
      have HB_3 := Lib.hid (below_call HB_2.out h)
      clear h
      go_wp2_with fail
      refine (KL.out _ HG_3.out).mono ?_
      rintro e w4 ⟨rfl, h⟩
      have HG_4 := Lib.hid (HG_3.out.here h)
      clear HG_3
      have HVa_4 := Lib.hid (HVa_3.out.call h)
      clear HVa_3
      have HVb_4 := Lib.hid (HVb_3.out.call h)
      clear HVb_3
      have HB_4 := Lib.hid (below_call HB_3.out h)
      clear h
      go_wp2_with fail
      refine (K2.out _ HVa_4.out).mono ?_
      rintro e w5 ⟨u, rfl, hu, h⟩
      have HG_5 := Lib.hid (HG_4.out.here h)
      clear HG_4
      have HVa_5 := Lib.hid (HVa_4.out.call h)
      clear HVa_4
      have HVb_5 := Lib.hid (HVb_4.out.call h)
      clear HVb_4
      have HB_5 := Lib.hid (below_call HB_4.out h)
      clear h
      have HU_5 := Lib.hid (hu)
      clear hu
      go_wp2_with fail
      refine (K3.out _ HVa_5.out.m).mono ?_
      rintro e w6 ⟨u2, rfl, hu2, h⟩
      have HG_6 := Lib.hid (HG_5.out.here h)
      clear HG_5
      have HVa_6 := Lib.hid (HVa_5.out.call h)
      clear HVa_5
      have HVb_6 := Lib.hid (HVb_5.out.call h)
      clear HVb_5
      have HU_6 := Lib.hid (HU_5.out.call h)
      clear HU_5
      have HB_6 := Lib.hid (below_call HB_5.out h)
      clear h
      have HT_6 := Lib.hid (own_numR hu2)
      clear hu2
      go_wp2_with fail
      refine (K4.out _ _ _ HU_6.out HT_6.out).mono ?_
      rintro e w7 ⟨rfl, h⟩
      have HG_7 := Lib.hid (HG_6.out.here h)
      clear HG_6
      have HVa_7 := Lib.hid (HVa_6.out.call h)
      clear HVa_6
      have HVb_7 := Lib.hid (HVb_6.out.call h)
      clear HVb_6
      have HU_7 := Lib.hid (HU_6.out.call h)
      clear HU_6
      have HT_7 := Lib.hid (HT_6.out.call h)
      clear HT_6
      have HB_7 := Lib.hid (below_call HB_6.out h)
      clear h
      go_wp2_with fail
      refine (K5.out _ HVa_7.out.m HVb_7.out.m).mono ?_
      rintro e w8 ⟨rfl, h⟩
      have HG_8 := Lib.hid (HG_7.out.here h)
      clear HG_7
      have HVa_8 := Lib.hid (HVa_7.out.call h)
      clear HVa_7
      have HVb_8 := Lib.hid (HVb_7.out.call h)
      clear HVb_7
      have HB_8 := Lib.hid (below_call HB_7.out h)
      clear h
      go_wp2_with fail
      refine (K6.out _ HVb_8.out HVa_8.out).mono ?_
      rintro e w9 ⟨rfl, h⟩
      have HG_9 := Lib.hid (HG_8.out.here h)
      clear HG_8
      have HVa_9 := Lib.hid (HVa_8.out.call h)
      clear HVa_8
      have HVb_9 := Lib.hid (HVb_8.out.call h)
      clear HVb_8
      have HB_9 := Lib.hid (below_call HB_8.out h)
      clear h
      go_wp2_with fail
      refine (K7.out _ HVa_9.out.m.i HVb_9.out.m.i).mono ?_
      rintro e w10 ⟨rfl, h⟩
      have HG_10 := Lib.hid (HG_9.out.here h)
      clear HG_9
      have HVa_10 := Lib.hid (HVa_9.out.call h)
      clear HVa_9
      have HVb_10 := Lib.hid (HVb_9.out.call h)
      clear HVb_9
      have HB_10 := Lib.hid (below_call HB_9.out h)
      clear h
      go_wp2_with fail
      go_ret
      exact ⟨rfl, HB_10.out⟩
set_option maxRecDepth 100000 in
set_option maxHeartbeats 4000000 in
theorem lawOrder9_any (C : VecC) (va vb vc : Value) (w : World) (hg : ErrT w) (ha : vecArg w va) (hb : vecArg w vb) (hc : vecArg w vc) :
    Calls Tryd.prog 6 #[va, vb, vc] w (IsEnd true w) := by
  have KL := Lib.hid (fun W h => alive9_any C W h)
  have HG_0 := Lib.hid hg; clear hg
  have HC := Lib.hid C; clear C
  obtain ⟨⟨pa, na, ca, rfl⟩, ba, hfa, hva⟩ := ha.few
  have KFa := Lib.hid hfa; have HVa := Lib.hid hva; clear hfa hva ha
  obtain ⟨⟨pb, nb, cb, rfl⟩, bb, hfb, hvb⟩ := hb.few
  have KFb := Lib.hid hfb; have HVb := Lib.hid hvb; clear hfb hvb hb
  obtain ⟨⟨pc, nc, cc, rfl⟩, bc, hfc, hvc⟩ := hc.few
  have KFc := Lib.hid hfc; have HVc := Lib.hid hvc; clear hfc hvc hc
  go_enter Tryd.func6, Tryd.ntmps6
  go_wp2_with fail
  refine (KFa.out _ (Below.refl _ _)).mono ?_
  rintro e w1 ⟨rfl, h⟩
  have HG_1 := Lib.hid (HG_0.out.here h)
  clear HG_0
  have HB_1 := Lib.hid h
  clear h
  cases ba with
  | false =>
    go_wp2_with fail
    refine (KL.out _ HG_1.out).mono ?_
    rintro e w2 ⟨rfl, h⟩
    have HG_2 := Lib.hid (HG_1.out.here h)
    clear HG_1
    have HB_2 := Lib.hid (below_call HB_1.out h)
    clear h
    go_wp2_with fail
    go_ret
    exact ⟨rfl, HB_2.out⟩
  | true =>
    go_wp2_with fail
    refine (KFb.out _ HB_1.out).mono ?_
    rintro e w2 ⟨rfl, h⟩
    have HG_2 := Lib.hid (HG_1.out.here h)
    clear HG_1
    have HB_2 := Lib.hid (below_call HB_1.out h)
    clear h
    cases bb with
    | false =>
      go_wp2_with fail
      refine (KL.out _ HG_2.out).mono ?_
      rintro e w3 ⟨rfl, h⟩
      have HG_3 := Lib.hid (HG_2.out.here h)
      clear HG_2
      have HB_3 := Lib.hid (below_call HB_2.out h)
      clear h
      go_wp2_with fail
      go_ret
      exact ⟨rfl, HB_3.out⟩
    | true =>
      go_wp2_with fail
      refine (KFc.out _ HB_2.out).mono ?_
      rintro e w3 ⟨rfl, h⟩
      have HG_3 := Lib.hid (HG_2.out.here h)
      clear HG_2
      have HB_3 := Lib.hid (below_call HB_2.out h)
      clear h
      cases bc with
      | false =>
        go_wp2_with fail
        refine (KL.out _ HG_3.out).mono ?_
        rintro e w4 ⟨rfl, h⟩
        have HG_4 := Lib.hid (HG_3.out.here h)
        clear HG_3
        have HB_4 := Lib.hid (below_call HB_3.out h)
        clear h
        go_wp2_with fail
        go_ret
        exact ⟨rfl, HB_4.out⟩
      | true =>
        obtain ⟨A, ha, hla, hha⟩ := HVa.out (by trivial)
        have h64a := ha.m.all64
        have HVa_3 := Lib.hid (ha.call HB_3.out)
        clear ha
        obtain ⟨B, hb, hlb, hhb⟩ := HVb.out (by trivial)
        have h64b := hb.m.all64
        have HVb_3 := Lib.hid (hb.call HB_3.out)
        clear hb
        obtain ⟨D, hc, hlc, hhc⟩ := HVc.out (by trivial)
        have h64c := hc.m.all64
        have HVc_3 := Lib.hid (hc.call HB_3.out)
        clear hc
        have htr := fun h h2 => cmpL_trans (A := numsV A) (B := numsV B) (C := numsV D) h h2
        have K1 := Lib.hid (fun W h h2 => HC.out.cmp A B (.slice pa na ca) (.slice pb nb cb) W h h2)
        have K2 := Lib.hid (fun W h h2 => HC.out.cmp B D (.slice pb nb cb) (.slice pc nc cc) W h h2)
        have K3 := Lib.hid (fun W h h2 => HC.out.cmp A D (.slice pa na ca) (.slice pc nc cc) W h h2)
        have K4 := Lib.hid (fun W h h2 => (cmpL_self (numsV A) ▸ HC.out.cmp A A (.slice pa na ca) (.slice pa na ca) W h h2 : Calls Tryd.prog 21 #[.slice pa na ca, .slice pa na ca] W (IsInt 0 W)))
        generalize cmpL (numsV A) (numsV B) = p at *
        generalize cmpL (numsV B) (numsV D) = q at *
        generalize cmpL (numsV A) (numsV D) = s at *
        clear h64a h64b h64c hla hlb hlc hha hhb hhc
        have HTR := Lib.hid htr; clear htr
        go_wp2_with fail
        refine (K1.out _ HVa_3.out HVb_3.out).mono ?_
        rintro e w4 ⟨rfl, h⟩
        have HG_4 := Lib.hid (HG_3.out.here h)
        clear HG_3
        have HVa_4 := Lib.hid (HVa_3.out.call h)
        clear HVa_3
        have HVb_4 := Lib.hid (HVb_3.out.call h)
        clear HVb_3
        have HVc_4 := Lib.hid (HVc_3.out.call h)
        clear HVc_3
        have HB_4 := Lib.hid (below_call HB_3.out h)
        clear h
        go_wp2_with fail
        refine (K2.out _ HVb_4.out HVc_4.out).mono ?_
        rintro e w5 ⟨rfl, h⟩
        have HG_5 := Lib.hid (HG_4.out.here h)
        clear HG_4
        have HVa_5 := Lib.hid (HVa_4.out.call h)
        clear HVa_4
        have HVb_5 := Lib.hid (HVb_4.out.call h)
        clear HVb_4
        have HVc_5 := Lib.hid (HVc_4.out.call h)
        clear HVc_4
        have HB_5 := Lib.hid (below_call HB_4.out h)
        clear h
        go_wp2_with fail
        refine (KL.out _ HG_5.out).mono ?_
        rintro e w6 ⟨rfl, h⟩
        have HG_6 := Lib.hid (HG_5.out.here h)
        clear HG_5
        have HVa_6 := Lib.hid (HVa_5.out.call h)
        clear HVa_5
        have HVb_6 := Lib.hid (HVb_5.out.call h)
        clear HVb_5
        have HVc_6 := Lib.hid (HVc_5.out.call h)
        clear HVc_5
        have HB_6 := Lib.hid (below_call HB_5.out h)
        clear h
        by_cases hp : 0 < p
        · have e1 : decide (p > 0) = true := decide_eq_true hp
          go_wp2_with fail
          refine (K4.out _ HVa_6.out HVa_6.out).mono ?_
          rintro e w7 ⟨rfl, h⟩
          have HG_7 := Lib.hid (HG_6.out.here h)
          clear HG_6
          have HVa_7 := Lib.hid (HVa_6.out.call h)
          clear HVa_6
          have HVb_7 := Lib.hid (HVb_6.out.call h)
          clear HVb_6
          have HVc_7 := Lib.hid (HVc_6.out.call h)
          clear HVc_6
          have HB_7 := Lib.hid (below_call HB_6.out h)
          clear h
          go_wp2_with fail
          go_ret
          exact ⟨rfl, HB_7.out⟩
        · by_cases hq : 0 < q
          · have e1 : decide (p > 0) = false := decide_eq_false hp
            have e2 : decide (q > 0) = true := decide_eq_true hq
            go_wp2_with fail
            refine (K4.out _ HVa_6.out HVa_6.out).mono ?_
            rintro e w7 ⟨rfl, h⟩
            have HG_7 := Lib.hid (HG_6.out.here h)
            clear HG_6
            have HVa_7 := Lib.hid (HVa_6.out.call h)
            clear HVa_6
            have HVb_7 := Lib.hid (HVb_6.out.call h)
            clear HVb_6
            have HVc_7 := Lib.hid (HVc_6.out.call h)
            clear HVc_6
            have HB_7 := Lib.hid (below_call HB_6.out h)
            clear h
            go_wp2_with fail
            go_ret
            exact ⟨rfl, HB_7.out⟩
          · have hs : s ≤ 0 := HTR.out (by omega) (by omega)
            have e1 : decide (p > 0) = false := decide_eq_false hp
            have e2 : decide (q > 0) = false := decide_eq_false hq
            have e3 : decide (s ≤ 0) = true := decide_eq_true hs
            go_wp2_with fail
            refine (K3.out _ HVa_6.out HVc_6.out).mono ?_
            rintro e w7 ⟨rfl, h⟩
            have HG_7 := Lib.hid (HG_6.out.here h)
            clear HG_6
            have HVa_7 := Lib.hid (HVa_6.out.call h)
            clear HVa_6
            have HVb_7 := Lib.hid (HVb_6.out.call h)
            clear HVb_6
            have HVc_7 := Lib.hid (HVc_6.out.call h)
            clear HVc_6
            have HB_7 := Lib.hid (below_call HB_6.out h)
            clear h
            go_wp2_with fail
            refine (K4.out _ HVa_7.out HVa_7.out).mono ?_
            rintro e w8 ⟨rfl, h⟩
            have HG_8 := Lib.hid (HG_7.out.here h)
            clear HG_7
            have HVa_8 := Lib.hid (HVa_7.out.call h)
            clear HVa_7
            have HVb_8 := Lib.hid (HVb_7.out.call h)
            clear HVb_7
            have HVc_8 := Lib.hid (HVc_7.out.call h)
            clear HVc_7
            have HB_8 := Lib.hid (below_call HB_7.out h)
            clear h
            go_wp2_with fail
            go_ret
            exact ⟨rfl, HB_8.out⟩
end Go.Proofs.YtgeggdaokjimjaaDoor
