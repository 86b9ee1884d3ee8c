/- The laws of layer 10 in every state, out of what packages lattice and vector say. Conditions: their contracts, and that of the reference's operations. -/
import Derived.Test.YtefiobfljhmkkaaGreatLPut
import Derived.Test.YtefiobfljhmkkaaGreatMCount
namespace Go.Proofs.YtefiobfljhmkkaaGreat
open Go.RowKit
set_option maxRecDepth 100000 in
set_option maxHeartbeats 4000000 in
theorem lawAdds10_any (C : LatC) (R : RefDo10) (VH : VHasC) (va : Value) (r c : Int) (w : World) (ha : vecArg w va) (nr : 0 ≤ r ∧ r ≤ 18446744073709551615) (nc : 0 ≤ c ∧ c ≤ 18446744073709551615) :
    Calls Tryz.prog 3 #[va, .int .u64 r, .int .u64 c] w (IsEnd true w) := by
  have KL := Lib.hid (fun W => alive10_any C W)
  obtain ⟨⟨pa, na, ca, rfl⟩, _⟩ := ha.few
  obtain ⟨w1, hw1⟩ : ∃ w', w.alloc (.cells #[.slice pa na ca] 23) = w' := ⟨_, rfl⟩
  have hb1 : Below w.heap.size w w1 := hw1 ▸ below_new w _
  obtain ⟨rr, hok, hKR⟩ := rights10_any 1 w.heap.size 1 (fun _ => (.slice pa na ca)) w1 w (by omega) hb1 (fun i hi => by
    obtain rfl : i = 0 := by omega
    · rw [← hw1]; simp
    ) (fun i hi => by
    obtain rfl : i = 0 := by omega
    · exact ha
    )
  have KR := Lib.hid hKR; have HOK := Lib.hid hok; have HB_1 := Lib.hid hb1; have HC := Lib.hid C
  clear hKR hok hb1 C ha
  go_enter Tryz.func3, Tryz.ntmps3
  go_wp2_with fail
  clear hw1
  refine (KR.out).mono ?_
  rintro e w2 ⟨rfl, h⟩
  have HB_2 := Lib.hid (below_call HB_1.out h)
  clear h
  cases rr with
  | false =>
    go_wp2_with fail
    refine (KL.out _).mono ?_
    rintro e w3 ⟨rfl, h⟩
    have HB_3 := Lib.hid (below_call HB_2.out h)
    clear h
    go_wp2_with fail
    go_ret
    exact ⟨rfl, HB_3.out⟩
  | true =>
    obtain ⟨A, ha, ga, sa⟩ := HOK.out (by trivial) 0 (by omega)
    have hxa : VecS w (.slice pa na ca) A := ha; clear ha
    have HVa_2 := Lib.hid (hxa.call HB_2.out)
    clear hxa
    have ta := sa.mono (show 20 ≤ 1000 by omega) (show 30 ≤ 1000 by omega)
    have g1 := oneV_good (r := r) nc.1 nc.2; have t1 := (small_one r c).mono (show 1 ≤ 1000 by omega) (show 6 ≤ 1000 by omega)
    have gd := or_good ga g1; have td := (small_or ga g1 sa (small_one r c)).mono (show 20 + 1 ≤ 1000 by omega) (show 30 + 6 + 3 ≤ 1000 by omega)
    have K1 := Lib.hid (fun W => refOne10_any r c W nc.1 nc.2)
    have K2 := Lib.hid (fun a W ha => HC.out.add A a r c W ha ga ta nr.1 nr.2 nc.1 nc.2)
    have K3 := Lib.hid (fun a b W ha hb => R 0 orL doOr (fun _ _ h h2 => ⟨orL_good h h2, or_count h h2⟩) A (oneV r c) a b W ha hb ga g1 ta t1)
    have K4 := Lib.hid (fun a W ha => (by have k := VH (opV orL A (oneV r c)) a r c W ha gd nr.1 nr.2 nc.1 nc.2; rw [add_has10 ga nc.1 nc.2] at k; exact k : Calls Tryz.prog 10 #[a, .int .u64 r, .int .u64 c] W (IsEnd true W)))
    have K5 := Lib.hid (fun a W ha => (by have k := HC.out.add (opV orL A (oneV r c)) a r c W ha gd td nr.1 nr.2 nc.1 nc.2; rw [add_add10 ga nc.1 nc.2] at k; exact k : Calls Tryz.prog 7 #[a, .int .u64 r, .int .u64 c] W (IsVN (opV orL A (oneV r c)) W)))
    have KS := Lib.hid (fun V v v' W h h2 => same9_self V v v' W h h2)
    generalize opV orL A (oneV r c) = D at *
    generalize oneV r c = E at *
    clear ga g1 gd ta t1 td sa nr nc R VH
    go_wp2_with fail
    refine (K1.out _).mono ?_
    rintro e w3 ⟨rE, rfl, hrE, h⟩
    obtain ⟨prE, crE, erE⟩ := hrE.shape
    subst erE
    have HVa_3 := Lib.hid (HVa_2.out.call h)
    clear HVa_2
    have HB_3 := Lib.hid (below_call HB_2.out h)
    clear h
    have HE_3 := Lib.hid (hrE)
    clear hrE
    go_wp2_with fail
    refine (K2.out _ _ HVa_3.out).mono ?_
    rintro e w4 ⟨uD, rfl, huD, _, h⟩
    obtain ⟨puD, cuD, euD⟩ := huD.m.shape
    subst euD
    have HVa_4 := Lib.hid (HVa_3.out.call h)
    clear HVa_3
    have HE_4 := Lib.hid (HE_3.out.call h)
    clear HE_3
    have HB_4 := Lib.hid (below_call HB_3.out h)
    clear h
    have HD_4 := Lib.hid (huD)
    clear huD
    go_wp2_with fail
    refine (KL.out _).mono ?_
    rintro e w5 ⟨rfl, h⟩
    have HVa_5 := Lib.hid (HVa_4.out.call h)
    clear HVa_4
    have HE_5 := Lib.hid (HE_4.out.call h)
    clear HE_4
    have HD_5 := Lib.hid (HD_4.out.call h)
    clear HD_4
    have HB_5 := Lib.hid (below_call HB_4.out h)
    clear h
    go_wp2_with fail
    refine (K3.out _ _ _ HVa_5.out.m.i HE_5.out).mono ?_
    rintro e w6 ⟨rZ, rfl, hrZ, h⟩
    obtain ⟨prZ, crZ, erZ⟩ := hrZ.shape
    subst erZ
    have HVa_6 := Lib.hid (HVa_5.out.call h)
    clear HVa_5
    have HE_6 := Lib.hid (HE_5.out.call h)
    clear HE_5
    have HD_6 := Lib.hid (HD_5.out.call h)
    clear HD_5
    have HB_6 := Lib.hid (below_call HB_5.out h)
    clear h
    have HZ_6 := Lib.hid (hrZ)
    clear hrZ
    go_wp2_with fail
    refine (KS.out D _ _ _ HD_6.out.m.i HZ_6.out).mono ?_
    rintro e w7 ⟨rfl, h⟩
    have HVa_7 := Lib.hid (HVa_6.out.call h)
    clear HVa_6
    have HE_7 := Lib.hid (HE_6.out.call h)
    clear HE_6
    have HD_7 := Lib.hid (HD_6.out.call h)
    clear HD_6
    have HZ_7 := Lib.hid (HZ_6.out.call h)
    clear HZ_6
    have HB_7 := Lib.hid (below_call HB_6.out h)
    clear h
    go_wp2_with fail
    refine (K4.out _ _ HD_7.out).mono ?_
    rintro e w8 ⟨rfl, h⟩
    have HVa_8 := Lib.hid (HVa_7.out.call h)
    clear HVa_7
    have HE_8 := Lib.hid (HE_7.out.call h)
    clear HE_7
    have HD_8 := Lib.hid (HD_7.out.call h)
    clear HD_7
    have HB_8 := Lib.hid (below_call HB_7.out h)
    clear h
    go_wp2_with fail
    refine (K5.out _ _ HD_8.out).mono ?_
    rintro e w9 ⟨uY, rfl, huY, _, h⟩
    obtain ⟨puY, cuY, euY⟩ := huY.m.shape
    subst euY
    have HVa_9 := Lib.hid (HVa_8.out.call h)
    clear HVa_8
    have HE_9 := Lib.hid (HE_8.out.call h)
    clear HE_8
    have HD_9 := Lib.hid (HD_8.out.call h)
    clear HD_8
    have HB_9 := Lib.hid (below_call HB_8.out h)
    clear h
    have HY_9 := Lib.hid (huY)
    clear huY
    go_wp2_with fail
    refine (KS.out D _ _ _ HY_9.out.m.i HD_9.out.m.i).mono ?_
    rintro e w10 ⟨rfl, h⟩
    have HVa_10 := Lib.hid (HVa_9.out.call h)
    clear HVa_9
    have HE_10 := Lib.hid (HE_9.out.call h)
    clear HE_9
    have HD_10 := Lib.hid (HD_9.out.call h)
    clear HD_9
    have HY_10 := Lib.hid (HY_9.out.call h)
    clear HY_9
    have HB_10 := Lib.hid (below_call HB_9.out h)
    clear h
    go_wp2_with fail
    go_ret
    exact ⟨rfl, HB_10.out⟩
end Go.Proofs.YtefiobfljhmkkaaGreat
