/- The laws of layer 9 in every state, out of what package vector says. Conditions: the contracts of package vector, and the fixed value of errors.errorType. -/
import Derived.Test.YtgeggdaokjimjaaGreatDoorPAlive
namespace Go.Proofs.YtgeggdaokjimjaaGreatDoor
open Go.RowKit
theorem HolesAt.call {lim : Nat} {w w' : World} {s : Value} (h : HolesAt lim w s) (hb : Below w.heap.size w w') : HolesAt lim w' s := by
  rcases h with h | ⟨l, h1, h2, h3⟩
  · exact .inl h
  · exact .inr ⟨l, h1, h2, h3.call hb⟩
theorem EntIn.call {lim : Nat} {w w' : World} {e : Int × Int × Value} (h : EntIn lim w e) (hb : Below w.heap.size w w') : EntIn lim w' e := ⟨h.1, h.2.1, h.2.2.1, h.2.2.2.call hb⟩
/-- A vector that came in. -/
def vecArg (w : World) (v : Value) : Prop := SaneE v ∧ ∃ es, VecAt w v es ∧ ∀ e ∈ es, EntIn 30 w e
/-- What Few says of a vector that came in, and what it is then. -/
theorem vecArg.few {w : World} {v : Value} (h : vecArg w v) : (∃ p n c, v = .slice p n c) ∧ ∃ b, (∀ W, Below w.heap.size w W → Calls Tryz.prog 4 #[v] W (IsEnd b W)) ∧ (b = true → ∃ V, VecS w v V ∧ V.length ≤ 20 ∧ ∀ x ∈ V, x.2.2.length ≤ 30) := by
  obtain ⟨hs, es, hv, hi⟩ := h
  refine ⟨?_, fewB es, fun W hb => few_any v es W (hv.call hb) (fun e he => (hi e he).call hb), fun hf => ?_⟩
  · obtain ⟨p, cap, e, _⟩ := hv; exact ⟨p, _, cap, e⟩
  · obtain ⟨V, h1, h2, h3⟩ := few_vec hv hi hf
    exact ⟨V, ⟨h1, hs, fun x hx => (h3 x hx).2⟩, h2, fun x hx => (h3 x hx).1⟩
theorem VecM.all64 {w : World} {v : Value} {V : List (Int × Int × List Iv)} (h : VecM w v V) : ∀ x ∈ V, All64 x.2.2 ∧ 0 ≤ x.2.1 ∧ x.2.1 ≤ UM := by
  intro x hx
  obtain ⟨i, hi⟩ := List.mem_iff_getElem?.1 hx
  obtain ⟨_, _, _, _, _, _, _, _, _, _, ha⟩ := h.elem (r := x.1) (m := x.2.1) (H := x.2.2) hi
  exact ⟨ha.all, ha.low, by unfold UM; exact ha.top⟩
theorem same9_self (V : List (Int × Int × List Iv)) (v v' : Value) (w : World) (h : VecI w v V) (h' : VecI w v' V) : Calls Tryz.prog 8 #[v, v'] w (IsEnd true w) := by
  have k := refSame9_any V V v v' w h h'
  rwa [show decide (V = V) = true from by simp] at k
set_option maxRecDepth 100000 in
set_option maxHeartbeats 4000000 in
theorem lawCanon9_any (C : VecC) (va : Value) (r c : Int) (w : World) (hg : ErrT w) (ha : vecArg w va) (nr : 0 ≤ r ∧ r ≤ 18446744073709551615) (nc : 0 ≤ c ∧ c ≤ 18446744073709551615) :
    Calls Tryz.prog 3 #[va, .int .u64 r, .int .u64 c] w (IsEnd true w) := by
  have KL := Lib.hid (fun W h => alive9_any C W h)
  have HG_0 := Lib.hid hg; clear hg
  have HC := Lib.hid C; clear C
  obtain ⟨⟨pa, na, ca, rfl⟩, ba, hfa, hva⟩ := ha.few
  have KFa := Lib.hid hfa; have HVa := Lib.hid hva; clear hfa hva ha
  go_enter Tryz.func3, Tryz.ntmps3
  go_wp2_with fail
  refine (KFa.out _ (Below.refl _ _)).mono ?_
  rintro e w1 ⟨rfl, h⟩
  have HG_1 := Lib.hid (HG_0.out.here h)
  clear HG_0
  have HB_1 := Lib.hid h
  clear h
  cases ba with
  | false =>
    go_wp2_with fail
    refine (KL.out _ HG_1.out).mono ?_
    rintro e w2 ⟨rfl, h⟩
    have HG_2 := Lib.hid (HG_1.out.here h)
    clear HG_1
    have HB_2 := Lib.hid (below_call HB_1.out h)
    clear h
    go_wp2_with fail
    go_ret
    exact ⟨rfl, HB_2.out⟩
  | true =>
    obtain ⟨A, ha, hla, hha⟩ := HVa.out (by trivial)
    have h64a := ha.m.all64
    have HVa_1 := Lib.hid (ha.call HB_1.out)
    clear ha
    obtain ⟨rb, hrb⟩ : ∃ b, rightV A = b := ⟨_, rfl⟩
    have KR := Lib.hid (hrb ▸ refRight9_any A (.slice pa na ca) _ HVa_1.out.m : Calls Tryz.prog 5 #[.slice pa na ca] w1 (IsEnd rb w1))
    have HRB := Lib.hid (fun e => good_of_right h64a (hrb.trans e))
    clear hrb h64a
    go_wp2_with fail
    refine (KR.out).mono ?_
    rintro e w2 ⟨rfl, h⟩
    have HG_2 := Lib.hid (HG_1.out.here h)
    clear HG_1
    have HVa_2 := Lib.hid (HVa_1.out.call h)
    clear HVa_1
    have HB_2 := Lib.hid (below_call HB_1.out h)
    clear h
    clear KR
    cases rb with
    | false =>
      go_wp2_with fail
      refine (KL.out _ HG_2.out).mono ?_
      rintro e w3 ⟨rfl, h⟩
      have HG_3 := Lib.hid (HG_2.out.here h)
      clear HG_2
      have HVa_3 := Lib.hid (HVa_2.out.call h)
      clear HVa_2
      have HB_3 := Lib.hid (below_call HB_2.out h)
      clear h
      go_wp2_with fail
      go_ret
      exact ⟨rfl, HB_3.out⟩
    | true =>
      have hgood := HRB.out rfl
      have hcg := (canonV_good hgood).1
      have K1 := Lib.hid (fun W h => HC.out.canon A (.slice pa na ca) W h hgood)
      have K2 := Lib.hid (fun W h => refCanon9_any A (.slice pa na ca) W h hgood (fun x hx => by have := hha x hx; omega))
      have K3 := Lib.hid (fun v v' W h h2 => same9_self (canonV A) v v' W h h2)
      have K4 := Lib.hid (fun v W h h2 => (canonV_canonical hgood ▸ HC.out.can (canonV A) v W h h2 : Calls Tryz.prog 10 #[v] W (IsEnd true W)))
      have K5 := Lib.hid (fun v W h => (canonV_has hgood r nc.1 ▸ HC.out.has (canonV A) v r c W h hcg nr.1 nr.2 nc.1 nc.2 : Calls Tryz.prog 11 #[v, .int .u64 r, .int .u64 c] W (IsEnd (hasV A r c) W)))
      have K6 := Lib.hid (fun W h => refHas9_any A (.slice pa na ca) r c W h)
      have K7 := Lib.hid (fun v W h => (by have k := HC.out.canon (canonV A) v W h hcg; rw [canonV_idem hgood] at k; exact k : Calls Tryz.prog 7 #[v] W (IsVN (canonV A) W)))
      have K8 := Lib.hid (fun v W h h2 => (canonV_self hgood ▸ refSame9_any (canonV A) A v (.slice pa na ca) W h h2 : Calls Tryz.prog 8 #[v, .slice pa na ca] W (IsEnd (canV A && rightV A) W)))
      have K9 := Lib.hid (fun W h h2 => HC.out.can A (.slice pa na ca) W h h2)
      have HL : Hid ((canonV A).length ≤ 100000) := Lib.hid (by have := canonV_len A; omega)
      generalize canonV A = D at *
      generalize hasV A r c = hb at *
      generalize (canV A && rightV A) = cb at *
      clear hgood hcg hla hha nr nc
      go_wp2_with fail
      refine (K1.out _ HVa_2.out).mono ?_
      rintro e w3 ⟨u, rfl, hu, _, h⟩
      obtain ⟨pu, cu, rfl⟩ := hu.m.shape
      have HG_3 := Lib.hid (HG_2.out.here h)
      clear HG_2
      have HVa_3 := Lib.hid (HVa_2.out.call h)
      clear HVa_2
      have HB_3 := Lib.hid (below_call HB_2.out h)
      clear h
      have HU_3 := Lib.hid (hu)
      clear hu
      go_wp2_with fail
      refine (K2.out _ HVa_3.out.m).mono ?_
      rintro e w4 ⟨u2, rfl, hu2, h⟩
      obtain ⟨p2, c2, rfl⟩ := hu2.shape
      have HG_4 := Lib.hid (HG_3.out.here h)
      clear HG_3
      have HVa_4 := Lib.hid (HVa_3.out.call h)
      clear HVa_3
      have HU_4 := Lib.hid (HU_3.out.call h)
      clear HU_3
      have HB_4 := Lib.hid (below_call HB_3.out h)
      clear h
      have HI_4 := Lib.hid (hu2.vec HL.out)
      clear hu2
      go_wp2_with fail
      refine (K3.out _ _ _ HU_4.out.m.i HI_4.out).mono ?_
      rintro e w5 ⟨rfl, h⟩
      have HG_5 := Lib.hid (HG_4.out.here h)
      clear HG_4
      have HVa_5 := Lib.hid (HVa_4.out.call h)
      clear HVa_4
      have HU_5 := Lib.hid (HU_4.out.call h)
      clear HU_4
      have HI_5 := Lib.hid (HI_4.out.call h)
      clear HI_4
      have HB_5 := Lib.hid (below_call HB_4.out h)
      clear h
      go_wp2_with fail
      refine (K4.out _ _ HG_5.out HU_5.out).mono ?_
      rintro e w6 ⟨rfl, h⟩
      have HG_6 := Lib.hid (HG_5.out.here h)
      clear HG_5
      have HVa_6 := Lib.hid (HVa_5.out.call h)
      clear HVa_5
      have HU_6 := Lib.hid (HU_5.out.call h)
      clear HU_5
      have HB_6 := Lib.hid (below_call HB_5.out h)
      clear h
      go_wp2_with fail
      refine (K5.out _ _ HU_6.out).mono ?_
      rintro e w7 ⟨rfl, h⟩
      have HG_7 := Lib.hid (HG_6.out.here h)
      clear HG_6
      have HVa_7 := Lib.hid (HVa_6.out.call h)
      clear HVa_6
      have HU_7 := Lib.hid (HU_6.out.call h)
      clear HU_6
      have HB_7 := Lib.hid (below_call HB_6.out h)
      clear h
      go_wp2_with fail
      refine (K6.out _ HVa_7.out.m).mono ?_
      rintro e w8 ⟨rfl, h⟩
      have HG_8 := Lib.hid (HG_7.out.here h)
      clear HG_7
      have HVa_8 := Lib.hid (HVa_7.out.call h)
      clear HVa_7
      have HU_8 := Lib.hid (HU_7.out.call h)
      clear HU_7
      have HB_8 := Lib.hid (below_call HB_7.out h)
      clear h
      go_wp2_with fail
      refine (KL.out _ HG_8.out).mono ?_
      rintro e w9 ⟨rfl, h⟩
      have HG_9 := Lib.hid (HG_8.out.here h)
      clear HG_8
      have HVa_9 := Lib.hid (HVa_8.out.call h)
      clear HVa_8
      have HU_9 := Lib.hid (HU_8.out.call h)
      clear HU_8
      have HB_9 := Lib.hid (below_call HB_8.out h)
      clear h
      go_wp2_with fail
      refine (K7.out _ _ HU_9.out).mono ?_
      rintro e w10 ⟨u3, rfl, hu3, _, h⟩
      obtain ⟨p3, c3, rfl⟩ := hu3.m.shape
      have HG_10 := Lib.hid (HG_9.out.here h)
      clear HG_9
      have HVa_10 := Lib.hid (HVa_9.out.call h)
      clear HVa_9
      have HU_10 := Lib.hid (HU_9.out.call h)
      clear HU_9
      have HB_10 := Lib.hid (below_call HB_9.out h)
      clear h
      have HT_10 := Lib.hid (hu3)
      clear hu3
      go_wp2_with fail
      refine (K3.out _ _ _ HT_10.out.m.i HU_10.out.m.i).mono ?_
      rintro e w11 ⟨rfl, h⟩
      have HG_11 := Lib.hid (HG_10.out.here h)
      clear HG_10
      have HVa_11 := Lib.hid (HVa_10.out.call h)
      clear HVa_10
      have HU_11 := Lib.hid (HU_10.out.call h)
      clear HU_10
      have HT_11 := Lib.hid (HT_10.out.call h)
      clear HT_10
      have HB_11 := Lib.hid (below_call HB_10.out h)
      clear h
      go_wp2_with fail
      refine (K8.out _ _ HU_11.out.m.i HVa_11.out.m.i).mono ?_
      rintro e w12 ⟨rfl, h⟩
      have HG_12 := Lib.hid (HG_11.out.here h)
      clear HG_11
      have HVa_12 := Lib.hid (HVa_11.out.call h)
      clear HVa_11
      have HU_12 := Lib.hid (HU_11.out.call h)
      clear HU_11
      have HB_12 := Lib.hid (below_call HB_11.out h)
      clear h
      go_wp2_with fail
      refine (K9.out _ HG_12.out HVa_12.out).mono ?_
      rintro e w13 ⟨rfl, h⟩
      have HG_13 := Lib.hid (HG_12.out.here h)
      clear HG_12
      have HVa_13 := Lib.hid (HVa_12.out.call h)
      clear HVa_12
      have HU_13 := Lib.hid (HU_12.out.call h)
      clear HU_12
      have HB_13 := Lib.hid (below_call HB_12.out h)
      clear h
      go_wp2_with fail
      go_ret
      exact ⟨rfl, HB_13.out⟩
end Go.Proofs.YtgeggdaokjimjaaGreatDoor
