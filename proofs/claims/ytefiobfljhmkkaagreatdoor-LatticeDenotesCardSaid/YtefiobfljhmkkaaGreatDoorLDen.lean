/- The law LatticeDenotes in every state, out of what packages lattice and vector say; G: what Canonical asks of the world (ErrT). Conditions: their contracts. -/
import Derived.Test.YtefiobfljhmkkaaGreatDoorLLaws
namespace Go.Proofs.YtefiobfljhmkkaaGreatDoor
open Go.RowKit
structure Gw (G : World → Prop) (w : World) : Prop where
  here : G w
  on : ∀ w w', G w → Below w.heap.size w w' → G w'
theorem Gw.call {G : World → Prop} {w w' : World} (h : Gw G w) (hb : Below w.heap.size w w') : Gw G w' := ⟨h.on _ _ h.here hb, h.on⟩
theorem op_canonical {f : List Iv → List Iv → List Iv} (hf : ∀ K L, GoodL K → GoodL L → GoodL (f K L)) {A B : List (Int × Int × List Iv)} (gA : GoodV A) (gB : GoodV B) : (canV (opV f A B) && rightV (opV f A B)) = true := by
  obtain ⟨h1, h2⟩ := opV_good hf gA gB
  rw [canV_of h1 h2, right_of_good h1]; rfl
set_option maxRecDepth 100000 in
set_option maxHeartbeats 4000000 in
theorem lawDenotes10_any (C : LatC) (VH : VHasC) (G : World → Prop) (hG : ∀ w w', G w → Below w.heap.size w w' → G w') (VC : ∀ (V : List (Int × Int × List Iv)) (v : Value) (w : World), G w → VecS w v V → Calls Tryz.prog 9 #[v] w (IsEnd (canV V && rightV V) w)) (va vb : Value) (r c : Int) (w : World) (g0 : G w) (ha : vecArg w va) (hb : vecArg w vb) (nr : 0 ≤ r ∧ r ≤ 18446744073709551615) (nc : 0 ≤ c ∧ c ≤ 18446744073709551615) :
    Calls Tryz.prog 3 #[va, vb, .agg #[.int .u64 r, .int .u64 c]] w (IsEnd true w) := by
  have KL := Lib.hid (fun W => alive10_any C W)
  obtain ⟨⟨pa, na, ca, rfl⟩, _⟩ := ha.few
  obtain ⟨⟨pb, nb, cb, rfl⟩, _⟩ := hb.few
  obtain ⟨w0, hw0⟩ : ∃ w', w.alloc (.cells #[.int .u64 r, .int .u64 c] 25) = w' := ⟨_, rfl⟩
  have hb0 : Below w.heap.size w w0 := hw0 ▸ below_new w _
  obtain ⟨w1, hw1⟩ : ∃ w', w0.alloc (.cells #[.slice pa na ca, .slice pb nb cb] 23) = w' := ⟨_, rfl⟩
  have hb1 : Below w.heap.size w w1 := below_call hb0 (hw1 ▸ below_new w0 _)
  have HN_1 := Lib.hid ((C2.new hw0).call (hw1 ▸ below_new w0 _) : C2 w1 w.heap.size r c)
  have HG_1 := Lib.hid ((Gw.mk g0 hG).call hb1)
  obtain ⟨rr, hok, hKR⟩ := rights10_any 2 w0.heap.size 2 (pickV2 (.slice pa na ca) (.slice pb nb cb)) w1 w (by omega) hb1 (fun i hi => by
    obtain rfl | rfl : i = 0 ∨ i = 1 := by omega
    · rw [← hw1]; simp [pickV2]
    · rw [← hw1]; simp [pickV2]
    ) (fun i hi => by
    obtain rfl | rfl : i = 0 ∨ i = 1 := by omega
    · exact ha
    · exact hb
    )
  have KR := Lib.hid hKR; have HOK := Lib.hid hok; have HB_1 := Lib.hid hb1; have HC := Lib.hid C
  clear hKR hok hb1 C ha hb hb0 g0 hG
  go_enter Tryz.func3, Tryz.ntmps3
  go_wp2_with fail
  clear hw0 hw1
  refine (KR.out).mono ?_
  rintro e w2 ⟨rfl, h⟩
  have HB_2 := Lib.hid (below_call HB_1.out h)
  have HN_2 := Lib.hid (HN_1.out.call h); have HG_2 := Lib.hid (HG_1.out.call h)
  clear h
  cases rr with
  | false =>
    go_wp2_with fail
    refine (KL.out _).mono ?_
    rintro e w3 ⟨rfl, h⟩
    have HB_3 := Lib.hid (below_call HB_2.out h)
    clear h
    go_wp2_with fail
    go_ret
    exact ⟨rfl, HB_3.out⟩
  | true =>
    obtain ⟨A, ha, ga, sa⟩ := HOK.out (by trivial) 0 (by omega)
    have hxa : VecS w (.slice pa na ca) A := ha; clear ha
    have HVa_2 := Lib.hid (hxa.call HB_2.out)
    clear hxa
    have ta := sa.mono (show 20 ≤ 1000 by omega) (show 30 ≤ 1000 by omega)
    obtain ⟨B, hb, gb, sb⟩ := HOK.out (by trivial) 1 (by omega)
    have hxb : VecS w (.slice pb nb cb) B := hb; clear hb
    have HVb_2 := Lib.hid (hxb.call HB_2.out)
    clear hxb
    have tb := sb.mono (show 20 ≤ 1000 by omega) (show 30 ≤ 1000 by omega)
    have gu := or_good ga gb; have gm := and_good ga gb; have gd := sub_good ga gb
    have K1 := Lib.hid (fun a b W ha hb => HC.out.uni A B a b W ha hb ga gb ta tb)
    have K2 := Lib.hid (fun a b W ha hb => HC.out.meet A B a b W ha hb ga gb ta tb)
    have K3 := Lib.hid (fun a b W ha hb => HC.out.minus A B a b W ha hb ga gb ta tb)
    have C1 := Lib.hid (fun v W h h2 => (by have k := VC (opV orL A B) v W h h2; rw [op_canonical (fun _ _ h h2 => orL_good h h2) ga gb] at k; exact k : Calls Tryz.prog 9 #[v] W (IsEnd true W)))
    have C2' := Lib.hid (fun v W h h2 => (by have k := VC (opV andL A B) v W h h2; rw [op_canonical (fun _ _ h h2 => andL_good h h2) ga gb] at k; exact k : Calls Tryz.prog 9 #[v] W (IsEnd true W)))
    have C3 := Lib.hid (fun v W h h2 => (by have k := VC (opV subL A B) v W h h2; rw [op_canonical (fun _ _ h h2 => subL_good h h2) ga gb] at k; exact k : Calls Tryz.prog 9 #[v] W (IsEnd true W)))
    have X1 := Lib.hid (fun v W h => refHas9_any A v r c W h)
    have X2 := Lib.hid (fun v W h => refHas9_any B v r c W h)
    have V1 := Lib.hid (fun v W h => (by have k := VH (opV orL A B) v r c W h gu nr.1 nr.2 nc.1 nc.2; rw [hasV_kn gu r nc.1, or_kn ga gb, or_has (knV_good ga r) (knV_good gb r), ← hasV_kn ga r nc.1, ← hasV_kn gb r nc.1] at k; exact k : Calls Tryz.prog 11 #[v, .int .u64 r, .int .u64 c] W (IsEnd (hasV A r c || hasV B r c) W)))
    have V2 := Lib.hid (fun v W h => (by have k := VH (opV andL A B) v r c W h gm nr.1 nr.2 nc.1 nc.2; rw [hasV_kn gm r nc.1, and_kn ga gb, and_has (knV_good ga r) (knV_good gb r), ← hasV_kn ga r nc.1, ← hasV_kn gb r nc.1] at k; exact k : Calls Tryz.prog 11 #[v, .int .u64 r, .int .u64 c] W (IsEnd (hasV A r c && hasV B r c) W)))
    have V3 := Lib.hid (fun v W h => (by have k := VH (opV subL A B) v r c W h gd nr.1 nr.2 nc.1 nc.2; rw [hasV_kn gd r nc.1, sub_kn ga gb, sub_has (knV_good ga r) (knV_good gb r), ← hasV_kn ga r nc.1, ← hasV_kn gb r nc.1] at k; exact k : Calls Tryz.prog 11 #[v, .int .u64 r, .int .u64 c] W (IsEnd (hasV A r c && !hasV B r c) W)))
    generalize opV orL A B = D1 at *
    generalize opV andL A B = D2 at *
    generalize opV subL A B = D3 at *
    generalize hasV A r c = x9 at *
    generalize hasV B r c = y9 at *
    clear ga gb gu gm gd ta tb sa sb nr nc VH VC
    go_wp2_with fail
    refine (K1.out _ _ _ HVa_2.out HVb_2.out).mono ?_
    rintro e w3 ⟨uU, rfl, huU, _, h⟩
    obtain ⟨puU, cuU, euU⟩ := huU.m.shape
    subst euU
    have HVa_3 := Lib.hid (HVa_2.out.call h)
    clear HVa_2
    have HVb_3 := Lib.hid (HVb_2.out.call h)
    clear HVb_2
    have HN_3 := Lib.hid (HN_2.out.call h)
    clear HN_2
    have HG_3 := Lib.hid (HG_2.out.call h)
    clear HG_2
    have HB_3 := Lib.hid (below_call HB_2.out h)
    clear h
    have HU_3 := Lib.hid (huU)
    clear huU
    go_wp2_with fail
    refine (K2.out _ _ _ HVa_3.out HVb_3.out).mono ?_
    rintro e w4 ⟨uM, rfl, huM, _, h⟩
    obtain ⟨puM, cuM, euM⟩ := huM.m.shape
    subst euM
    have HVa_4 := Lib.hid (HVa_3.out.call h)
    clear HVa_3
    have HVb_4 := Lib.hid (HVb_3.out.call h)
    clear HVb_3
    have HN_4 := Lib.hid (HN_3.out.call h)
    clear HN_3
    have HG_4 := Lib.hid (HG_3.out.call h)
    clear HG_3
    have HU_4 := Lib.hid (HU_3.out.call h)
    clear HU_3
    have HB_4 := Lib.hid (below_call HB_3.out h)
    clear h
    have HM_4 := Lib.hid (huM)
    clear huM
    go_wp2_with fail
    refine (K3.out _ _ _ HVa_4.out HVb_4.out).mono ?_
    rintro e w5 ⟨uD, rfl, huD, _, h⟩
    obtain ⟨puD, cuD, euD⟩ := huD.m.shape
    subst euD
    have HVa_5 := Lib.hid (HVa_4.out.call h)
    clear HVa_4
    have HVb_5 := Lib.hid (HVb_4.out.call h)
    clear HVb_4
    have HN_5 := Lib.hid (HN_4.out.call h)
    clear HN_4
    have HG_5 := Lib.hid (HG_4.out.call h)
    clear HG_4
    have HU_5 := Lib.hid (HU_4.out.call h)
    clear HU_4
    have HM_5 := Lib.hid (HM_4.out.call h)
    clear HM_4
    have HB_5 := Lib.hid (below_call HB_4.out h)
    clear h
    have HD_5 := Lib.hid (huD)
    clear huD
    go_wp2_with fail
    refine (C1.out _ _ HG_5.out.here HU_5.out).mono ?_
    rintro e w6 ⟨rfl, h⟩
    have HVa_6 := Lib.hid (HVa_5.out.call h)
    clear HVa_5
    have HVb_6 := Lib.hid (HVb_5.out.call h)
    clear HVb_5
    have HN_6 := Lib.hid (HN_5.out.call h)
    clear HN_5
    have HG_6 := Lib.hid (HG_5.out.call h)
    clear HG_5
    have HU_6 := Lib.hid (HU_5.out.call h)
    clear HU_5
    have HM_6 := Lib.hid (HM_5.out.call h)
    clear HM_5
    have HD_6 := Lib.hid (HD_5.out.call h)
    clear HD_5
    have HB_6 := Lib.hid (below_call HB_5.out h)
    clear h
    go_wp2_with fail
    refine (C2'.out _ _ HG_6.out.here HM_6.out).mono ?_
    rintro e w7 ⟨rfl, h⟩
    have HVa_7 := Lib.hid (HVa_6.out.call h)
    clear HVa_6
    have HVb_7 := Lib.hid (HVb_6.out.call h)
    clear HVb_6
    have HN_7 := Lib.hid (HN_6.out.call h)
    clear HN_6
    have HG_7 := Lib.hid (HG_6.out.call h)
    clear HG_6
    have HU_7 := Lib.hid (HU_6.out.call h)
    clear HU_6
    have HM_7 := Lib.hid (HM_6.out.call h)
    clear HM_6
    have HD_7 := Lib.hid (HD_6.out.call h)
    clear HD_6
    have HB_7 := Lib.hid (below_call HB_6.out h)
    clear h
    go_wp2_with fail
    refine (C3.out _ _ HG_7.out.here HD_7.out).mono ?_
    rintro e w8 ⟨rfl, h⟩
    have HVa_8 := Lib.hid (HVa_7.out.call h)
    clear HVa_7
    have HVb_8 := Lib.hid (HVb_7.out.call h)
    clear HVb_7
    have HN_8 := Lib.hid (HN_7.out.call h)
    clear HN_7
    have HG_8 := Lib.hid (HG_7.out.call h)
    clear HG_7
    have HU_8 := Lib.hid (HU_7.out.call h)
    clear HU_7
    have HM_8 := Lib.hid (HM_7.out.call h)
    clear HM_7
    have HD_8 := Lib.hid (HD_7.out.call h)
    clear HD_7
    have HB_8 := Lib.hid (below_call HB_7.out h)
    clear h
    obtain ⟨nn0, nn1⟩ := HN_8.out
    go_wp2_with fail
    go_quiet (fail)
    obtain ⟨w9, hwq⟩ : ∃ x, w8.drewN nq = x := ⟨_, rfl⟩
    have h : Below w8.heap.size w8 w9 := hwq ▸ below_drewN (Below.refl _ _) _
    rw [hwq]
    clear hwq nn0 nn1
    have HVa_9 := Lib.hid (HVa_8.out.call h)
    clear HVa_8
    have HVb_9 := Lib.hid (HVb_8.out.call h)
    clear HVb_8
    have HN_9 := Lib.hid (HN_8.out.call h)
    clear HN_8
    have HG_9 := Lib.hid (HG_8.out.call h)
    clear HG_8
    have HU_9 := Lib.hid (HU_8.out.call h)
    clear HU_8
    have HM_9 := Lib.hid (HM_8.out.call h)
    clear HM_8
    have HD_9 := Lib.hid (HD_8.out.call h)
    clear HD_8
    have HB_9 := Lib.hid (below_call HB_8.out h)
    clear h
    go_wp2_with fail
    refine (X1.out _ _ HVa_9.out.m).mono ?_
    rintro e w10 ⟨rfl, h⟩
    have HVa_10 := Lib.hid (HVa_9.out.call h)
    clear HVa_9
    have HVb_10 := Lib.hid (HVb_9.out.call h)
    clear HVb_9
    have HN_10 := Lib.hid (HN_9.out.call h)
    clear HN_9
    have HG_10 := Lib.hid (HG_9.out.call h)
    clear HG_9
    have HU_10 := Lib.hid (HU_9.out.call h)
    clear HU_9
    have HM_10 := Lib.hid (HM_9.out.call h)
    clear HM_9
    have HD_10 := Lib.hid (HD_9.out.call h)
    clear HD_9
    have HB_10 := Lib.hid (below_call HB_9.out h)
    clear h
    go_wp2_with fail
    refine (X2.out _ _ HVb_10.out.m).mono ?_
    rintro e w11 ⟨rfl, h⟩
    have HVa_11 := Lib.hid (HVa_10.out.call h)
    clear HVa_10
    have HVb_11 := Lib.hid (HVb_10.out.call h)
    clear HVb_10
    have HN_11 := Lib.hid (HN_10.out.call h)
    clear HN_10
    have HG_11 := Lib.hid (HG_10.out.call h)
    clear HG_10
    have HU_11 := Lib.hid (HU_10.out.call h)
    clear HU_10
    have HM_11 := Lib.hid (HM_10.out.call h)
    clear HM_10
    have HD_11 := Lib.hid (HD_10.out.call h)
    clear HD_10
    have HB_11 := Lib.hid (below_call HB_10.out h)
    clear h
    go_wp2_with fail
    cases x9 <;> cases y9
    all_goals
      skip
      go_wp2_with fail
      refine (KL.out _).mono ?_
      rintro e w12 ⟨rfl, h⟩
      have HVa_12 := Lib.hid (HVa_11.out.call h)
      clear HVa_11
      have HVb_12 := Lib.hid (HVb_11.out.call h)
      clear HVb_11
      have HN_12 := Lib.hid (HN_11.out.call h)
      clear HN_11
      have HG_12 := Lib.hid (HG_11.out.call h)
      clear HG_11
      have HU_12 := Lib.hid (HU_11.out.call h)
      clear HU_11
      have HM_12 := Lib.hid (HM_11.out.call h)
      clear HM_11
      have HD_12 := Lib.hid (HD_11.out.call h)
      clear HD_11
      have HB_12 := Lib.hid (below_call HB_11.out h)
      clear h
      go_wp2_with fail
      refine (V1.out _ _ HU_12.out).mono ?_
      rintro e w13 ⟨rfl, h⟩
      have HVa_13 := Lib.hid (HVa_12.out.call h)
      clear HVa_12
      have HVb_13 := Lib.hid (HVb_12.out.call h)
      clear HVb_12
      have HN_13 := Lib.hid (HN_12.out.call h)
      clear HN_12
      have HG_13 := Lib.hid (HG_12.out.call h)
      clear HG_12
      have HU_13 := Lib.hid (HU_12.out.call h)
      clear HU_12
      have HM_13 := Lib.hid (HM_12.out.call h)
      clear HM_12
      have HD_13 := Lib.hid (HD_12.out.call h)
      clear HD_12
      have HB_13 := Lib.hid (below_call HB_12.out h)
      clear h
      go_wp2_with fail
      refine (V2.out _ _ HM_13.out).mono ?_
      rintro e w14 ⟨rfl, h⟩
      have HVa_14 := Lib.hid (HVa_13.out.call h)
      clear HVa_13
      have HVb_14 := Lib.hid (HVb_13.out.call h)
      clear HVb_13
      have HN_14 := Lib.hid (HN_13.out.call h)
      clear HN_13
      have HG_14 := Lib.hid (HG_13.out.call h)
      clear HG_13
      have HU_14 := Lib.hid (HU_13.out.call h)
      clear HU_13
      have HM_14 := Lib.hid (HM_13.out.call h)
      clear HM_13
      have HD_14 := Lib.hid (HD_13.out.call h)
      clear HD_13
      have HB_14 := Lib.hid (below_call HB_13.out h)
      clear h
      go_wp2_with fail
      refine (V3.out _ _ HD_14.out).mono ?_
      rintro e w15 ⟨rfl, h⟩
      have HVa_15 := Lib.hid (HVa_14.out.call h)
      clear HVa_14
      have HVb_15 := Lib.hid (HVb_14.out.call h)
      clear HVb_14
      have HN_15 := Lib.hid (HN_14.out.call h)
      clear HN_14
      have HG_15 := Lib.hid (HG_14.out.call h)
      clear HG_14
      have HU_15 := Lib.hid (HU_14.out.call h)
      clear HU_14
      have HM_15 := Lib.hid (HM_14.out.call h)
      clear HM_14
      have HD_15 := Lib.hid (HD_14.out.call h)
      clear HD_14
      have HB_15 := Lib.hid (below_call HB_14.out h)
      clear h
      go_wp2_with fail
      go_ret
      exact ⟨rfl, HB_15.out⟩
end Go.Proofs.YtefiobfljhmkkaaGreatDoor
