/- The laws of layer 10 in every state, out of what packages lattice and vector say. Conditions: their contracts, and that of the reference's operations. -/
import Derived.Test.YtefiobfljhmkkaaLPut
import Derived.Test.YtefiobfljhmkkaaMCount
namespace Go.Proofs.Ytefiobfljhmkkaa
open Go.RowKit
def pickV2 (a b : Value) : Nat → Value | 0 => a | _ => b
def pickV3 (a b c : Value) : Nat → Value | 0 => a | 1 => b | _ => c
theorem plus10 (r s : Int) (w : World) (hr0 : 0 ≤ r) (hr1 : r ≤ 18446744073709551616000) (hs0 : 0 ≤ s) (hs1 : s ≤ 18446744073709551616000) :
    Calls Try.prog 16 #[.agg #[.int .u64 (r / 18446744073709551616), .int .u64 (r % 18446744073709551616)], .agg #[.int .u64 (s / 18446744073709551616), .int .u64 (s % 18446744073709551616)]] w (IsCt (r + s) w) :=
  w_plus_any _ _ _ _ _ ((r % 18446744073709551616 + s % 18446744073709551616) / 18446744073709551616) _ w (by omega) (by omega) (by omega) (by omega) (by omega) (by omega) (by omega) (by omega) (by omega)
/-- A count in memory. -/
structure C2 (w : World) (b : Nat) (x y : Int) : Prop where
  c0 : w.cell? ⟨b, 0, none⟩ = some (.int .u64 x)
  c1 : w.cell? ⟨b, 1, none⟩ = some (.int .u64 y)
theorem C2.call {w w' : World} {b : Nat} {x y : Int} (h : C2 w b x y) (hb : Below w.heap.size w w') : C2 w' b x y := ⟨keep_cell h.c0 hb, keep_cell h.c1 hb⟩
theorem C2.new {w w' : World} {x y : Int} {t : TypeId} (hw : w.alloc (.cells #[.int .u64 x, .int .u64 y] t) = w') : C2 w' w.heap.size x y := by
  subst hw; exact ⟨by simp, by simp⟩
set_option maxRecDepth 100000 in
set_option maxHeartbeats 4000000 in
theorem lawMatches10_any (C : LatC) (R : RefDo10) (va vb : Value) (w : World) (ha : vecArg w va) (hb : vecArg w vb) :
    Calls Try.prog 3 #[va, vb] w (IsEnd true w) := by
  have KL := Lib.hid (fun W => alive10_any C W)
  obtain ⟨⟨pa, na, ca, rfl⟩, _⟩ := ha.few
  obtain ⟨⟨pb, nb, cb, rfl⟩, _⟩ := hb.few
  obtain ⟨w1, hw1⟩ : ∃ w', w.alloc (.cells #[.slice pa na ca, .slice pb nb cb] 23) = w' := ⟨_, rfl⟩
  have hb1 : Below w.heap.size w w1 := hw1 ▸ below_new w _
  obtain ⟨rr, hok, hKR⟩ := rights10_any 2 w.heap.size 2 (pickV2 (.slice pa na ca) (.slice pb nb cb)) w1 w (by omega) hb1 (fun i hi => by
    obtain rfl | rfl : i = 0 ∨ i = 1 := by omega
    · rw [← hw1]; simp [pickV2]
    · rw [← hw1]; simp [pickV2]
    ) (fun i hi => by
    obtain rfl | rfl : i = 0 ∨ i = 1 := by omega
    · exact ha
    · exact hb
    )
  have KR := Lib.hid hKR; have HOK := Lib.hid hok; have HB_1 := Lib.hid hb1; have HC := Lib.hid C
  clear hKR hok hb1 C ha hb
  go_enter Try.func3, Try.ntmps3
  go_wp2_with fail
  clear hw1
  refine (KR.out).mono ?_
  rintro e w2 ⟨rfl, h⟩
  have HB_2 := Lib.hid (below_call HB_1.out h)
  clear h
  cases rr with
  | false =>
    go_wp2_with fail
    refine (KL.out _).mono ?_
    rintro e w3 ⟨rfl, h⟩
    have HB_3 := Lib.hid (below_call HB_2.out h)
    clear h
    go_wp2_with fail
    go_ret
    exact ⟨rfl, HB_3.out⟩
  | true =>
    obtain ⟨A, ha, ga, sa⟩ := HOK.out (by trivial) 0 (by omega)
    have hxa : VecS w (.slice pa na ca) A := ha; clear ha
    have HVa_2 := Lib.hid (hxa.call HB_2.out)
    clear hxa
    have ta := sa.mono (show 20 ≤ 1000 by omega) (show 30 ≤ 1000 by omega)
    obtain ⟨B, hb, gb, sb⟩ := HOK.out (by trivial) 1 (by omega)
    have hxb : VecS w (.slice pb nb cb) B := hb; clear hb
    have HVb_2 := Lib.hid (hxb.call HB_2.out)
    clear hxb
    have tb := sb.mono (show 20 ≤ 1000 by omega) (show 30 ≤ 1000 by omega)
    have K1 := Lib.hid (fun a b W ha hb => HC.out.uni A B a b W ha hb ga gb ta tb)
    have K1r := Lib.hid (fun a b W ha hb => R 0 orL doOr (fun _ _ h h2 => ⟨orL_good h h2, or_count h h2⟩) A B a b W ha hb ga gb ta tb)
    have K2 := Lib.hid (fun a b W ha hb => HC.out.meet A B a b W ha hb ga gb ta tb)
    have K2r := Lib.hid (fun a b W ha hb => R 1 andL doAnd (fun _ _ h h2 => ⟨andL_good h h2, and_count h h2⟩) A B a b W ha hb ga gb ta tb)
    have K3 := Lib.hid (fun a b W ha hb => HC.out.minus A B a b W ha hb ga gb ta tb)
    have K3r := Lib.hid (fun a b W ha hb => R 2 subL doSub (fun _ _ h h2 => ⟨subL_good h h2, sub_count h h2⟩) A B a b W ha hb ga gb ta tb)
    have KS := Lib.hid (fun V v v' W h h2 => same9_self V v v' W h h2)
    generalize hD1 : opV orL A B = D1 at *
    clear hD1
    generalize hD2 : opV andL A B = D2 at *
    clear hD2
    generalize hD3 : opV subL A B = D3 at *
    clear hD3
    clear ga gb sa sb ta tb R
    go_wp2_with fail
    refine (KL.out _).mono ?_
    rintro e w3 ⟨rfl, h⟩
    have HVa_3 := Lib.hid (HVa_2.out.call h)
    clear HVa_2
    have HVb_3 := Lib.hid (HVb_2.out.call h)
    clear HVb_2
    have HB_3 := Lib.hid (below_call HB_2.out h)
    clear h
    go_wp2_with fail
    refine (K1.out _ _ _ HVa_3.out HVb_3.out).mono ?_
    rintro e w4 ⟨uU, rfl, huU, _, h⟩
    obtain ⟨puU, cuU, euU⟩ := huU.m.shape
    subst euU
    have HVa_4 := Lib.hid (HVa_3.out.call h)
    clear HVa_3
    have HVb_4 := Lib.hid (HVb_3.out.call h)
    clear HVb_3
    have HB_4 := Lib.hid (below_call HB_3.out h)
    clear h
    have HU_4 := Lib.hid (huU)
    clear huU
    go_wp2_with fail
    refine (K1r.out _ _ _ HVa_4.out.m.i HVb_4.out.m.i).mono ?_
    rintro e w5 ⟨rR, rfl, hrR, h⟩
    obtain ⟨prR, crR, erR⟩ := hrR.shape
    subst erR
    have HVa_5 := Lib.hid (HVa_4.out.call h)
    clear HVa_4
    have HVb_5 := Lib.hid (HVb_4.out.call h)
    clear HVb_4
    have HU_5 := Lib.hid (HU_4.out.call h)
    clear HU_4
    have HB_5 := Lib.hid (below_call HB_4.out h)
    clear h
    have HR_5 := Lib.hid (hrR)
    clear hrR
    go_wp2_with fail
    refine (KS.out D1 _ _ _ HU_5.out.m.i HR_5.out).mono ?_
    rintro e w6 ⟨rfl, h⟩
    have HVa_6 := Lib.hid (HVa_5.out.call h)
    clear HVa_5
    have HVb_6 := Lib.hid (HVb_5.out.call h)
    clear HVb_5
    have HU_6 := Lib.hid (HU_5.out.call h)
    clear HU_5
    have HR_6 := Lib.hid (HR_5.out.call h)
    clear HR_5
    have HB_6 := Lib.hid (below_call HB_5.out h)
    clear h
    go_wp2_with fail
    clear HU_6 HR_6
    refine (K2.out _ _ _ HVa_6.out HVb_6.out).mono ?_
    rintro e w7 ⟨uU, rfl, huU, _, h⟩
    obtain ⟨puU, cuU, euU⟩ := huU.m.shape
    subst euU
    have HVa_7 := Lib.hid (HVa_6.out.call h)
    clear HVa_6
    have HVb_7 := Lib.hid (HVb_6.out.call h)
    clear HVb_6
    have HB_7 := Lib.hid (below_call HB_6.out h)
    clear h
    have HU_7 := Lib.hid (huU)
    clear huU
    go_wp2_with fail
    refine (K2r.out _ _ _ HVa_7.out.m.i HVb_7.out.m.i).mono ?_
    rintro e w8 ⟨rR, rfl, hrR, h⟩
    obtain ⟨prR, crR, erR⟩ := hrR.shape
    subst erR
    have HVa_8 := Lib.hid (HVa_7.out.call h)
    clear HVa_7
    have HVb_8 := Lib.hid (HVb_7.out.call h)
    clear HVb_7
    have HU_8 := Lib.hid (HU_7.out.call h)
    clear HU_7
    have HB_8 := Lib.hid (below_call HB_7.out h)
    clear h
    have HR_8 := Lib.hid (hrR)
    clear hrR
    go_wp2_with fail
    refine (KS.out D2 _ _ _ HU_8.out.m.i HR_8.out).mono ?_
    rintro e w9 ⟨rfl, h⟩
    have HVa_9 := Lib.hid (HVa_8.out.call h)
    clear HVa_8
    have HVb_9 := Lib.hid (HVb_8.out.call h)
    clear HVb_8
    have HU_9 := Lib.hid (HU_8.out.call h)
    clear HU_8
    have HR_9 := Lib.hid (HR_8.out.call h)
    clear HR_8
    have HB_9 := Lib.hid (below_call HB_8.out h)
    clear h
    go_wp2_with fail
    clear HU_9 HR_9
    refine (K3.out _ _ _ HVa_9.out HVb_9.out).mono ?_
    rintro e w10 ⟨uU, rfl, huU, _, h⟩
    obtain ⟨puU, cuU, euU⟩ := huU.m.shape
    subst euU
    have HVa_10 := Lib.hid (HVa_9.out.call h)
    clear HVa_9
    have HVb_10 := Lib.hid (HVb_9.out.call h)
    clear HVb_9
    have HB_10 := Lib.hid (below_call HB_9.out h)
    clear h
    have HU_10 := Lib.hid (huU)
    clear huU
    go_wp2_with fail
    refine (K3r.out _ _ _ HVa_10.out.m.i HVb_10.out.m.i).mono ?_
    rintro e w11 ⟨rR, rfl, hrR, h⟩
    obtain ⟨prR, crR, erR⟩ := hrR.shape
    subst erR
    have HVa_11 := Lib.hid (HVa_10.out.call h)
    clear HVa_10
    have HVb_11 := Lib.hid (HVb_10.out.call h)
    clear HVb_10
    have HU_11 := Lib.hid (HU_10.out.call h)
    clear HU_10
    have HB_11 := Lib.hid (below_call HB_10.out h)
    clear h
    have HR_11 := Lib.hid (hrR)
    clear hrR
    go_wp2_with fail
    refine (KS.out D3 _ _ _ HU_11.out.m.i HR_11.out).mono ?_
    rintro e w12 ⟨rfl, h⟩
    have HVa_12 := Lib.hid (HVa_11.out.call h)
    clear HVa_11
    have HVb_12 := Lib.hid (HVb_11.out.call h)
    clear HVb_11
    have HU_12 := Lib.hid (HU_11.out.call h)
    clear HU_11
    have HR_12 := Lib.hid (HR_11.out.call h)
    clear HR_11
    have HB_12 := Lib.hid (below_call HB_11.out h)
    clear h
    go_wp2_with fail
    go_ret
    exact ⟨rfl, HB_12.out⟩
set_option maxRecDepth 100000 in
set_option maxHeartbeats 4000000 in
theorem lawSubset10_any (C : LatC) (R : RefDo10) (va vb : Value) (w : World) (ha : vecArg w va) (hb : vecArg w vb) :
    Calls Try.prog 4 #[va, vb] w (IsEnd true w) := by
  have KL := Lib.hid (fun W => alive10_any C W)
  obtain ⟨⟨pa, na, ca, rfl⟩, _⟩ := ha.few
  obtain ⟨⟨pb, nb, cb, rfl⟩, _⟩ := hb.few
  obtain ⟨w1, hw1⟩ : ∃ w', w.alloc (.cells #[.slice pa na ca, .slice pb nb cb] 23) = w' := ⟨_, rfl⟩
  have hb1 : Below w.heap.size w w1 := hw1 ▸ below_new w _
  obtain ⟨rr, hok, hKR⟩ := rights10_any 2 w.heap.size 2 (pickV2 (.slice pa na ca) (.slice pb nb cb)) w1 w (by omega) hb1 (fun i hi => by
    obtain rfl | rfl : i = 0 ∨ i = 1 := by omega
    · rw [← hw1]; simp [pickV2]
    · rw [← hw1]; simp [pickV2]
    ) (fun i hi => by
    obtain rfl | rfl : i = 0 ∨ i = 1 := by omega
    · exact ha
    · exact hb
    )
  have KR := Lib.hid hKR; have HOK := Lib.hid hok; have HB_1 := Lib.hid hb1; have HC := Lib.hid C
  clear hKR hok hb1 C ha hb
  go_enter Try.func4, Try.ntmps4
  go_wp2_with fail
  clear hw1
  refine (KR.out).mono ?_
  rintro e w2 ⟨rfl, h⟩
  have HB_2 := Lib.hid (below_call HB_1.out h)
  clear h
  cases rr with
  | false =>
    go_wp2_with fail
    refine (KL.out _).mono ?_
    rintro e w3 ⟨rfl, h⟩
    have HB_3 := Lib.hid (below_call HB_2.out h)
    clear h
    go_wp2_with fail
    go_ret
    exact ⟨rfl, HB_3.out⟩
  | true =>
    obtain ⟨A, ha, ga, sa⟩ := HOK.out (by trivial) 0 (by omega)
    have hxa : VecS w (.slice pa na ca) A := ha; clear ha
    have HVa_2 := Lib.hid (hxa.call HB_2.out)
    clear hxa
    have ta := sa.mono (show 20 ≤ 1000 by omega) (show 30 ≤ 1000 by omega)
    obtain ⟨B, hb, gb, sb⟩ := HOK.out (by trivial) 1 (by omega)
    have hxb : VecS w (.slice pb nb cb) B := hb; clear hb
    have HVb_2 := Lib.hid (hxb.call HB_2.out)
    clear hxb
    have tb := sb.mono (show 20 ≤ 1000 by omega) (show 30 ≤ 1000 by omega)
    have gu := or_good ga gb; have gm := and_good ga gb
    have tu := (small_or ga gb sa sb).mono (show 20 + 20 ≤ 1000 by omega) (show 30 + 30 + 3 ≤ 1000 by omega)
    have tm := (small_and ga gb sa sb).mono (show 20 + 20 ≤ 1000 by omega) (show 30 + 30 + 3 ≤ 1000 by omega)
    have K1 := Lib.hid (fun a b W ha hb => HC.out.uni A B a b W ha hb ga gb ta tb)
    have K2 := Lib.hid (fun a b W ha hb => HC.out.meet A B a b W ha hb ga gb ta tb)
    have K3 := Lib.hid (fun a b W ha hb => HC.out.minus A B a b W ha hb ga gb ta tb)
    have K3r := Lib.hid (fun a b W ha hb => R 2 subL doSub (fun _ _ h h2 => ⟨subL_good h h2, sub_count h h2⟩) A B a b W ha hb ga gb ta tb)
    have K4 := Lib.hid (fun a b W ha hb => HC.out.sub A B a b W ha hb ga gb ta tb)
    have K5 := Lib.hid (fun a b W ha hb => (by have k := HC.out.sub A (opV orL A B) a b W ha hb ga gu ta tu; rw [sub_or10 ga gb, decide_eq_true rfl] at k; exact k : Calls Try.prog 14 #[a, b] W (IsEnd true W)))
    have K6 := Lib.hid (fun a b W ha hb => (by have k := HC.out.sub (opV andL A B) A a b W ha hb gm ga tm ta; rw [and_sub10 ga gb, decide_eq_true rfl] at k; exact k : Calls Try.prog 14 #[a, b] W (IsEnd true W)))
    generalize opV orL A B = U at *
    generalize opV andL A B = M at *
    generalize opV subL A B = D at *
    obtain ⟨sb9, hsb⟩ : ∃ s, decide (D = []) = s := ⟨_, rfl⟩
    have hn9 : ((D.length : Int) == 0) = sb9 := by rw [← hsb]; cases D <;> simp <;> omega
    rw [hsb] at K4
    obtain ⟨n9, hnD⟩ : ∃ n, D.length = n := ⟨_, rfl⟩
    rw [hnD] at hn9
    have HND := Lib.hid hnD; clear hnD hsb ga gb gu gm ta tb tu tm sa sb R
    go_wp2_with fail
    refine (K4.out _ _ _ HVa_2.out HVb_2.out).mono ?_
    rintro e w3 ⟨rfl, h⟩
    have HVa_3 := Lib.hid (HVa_2.out.call h)
    clear HVa_2
    have HVb_3 := Lib.hid (HVb_2.out.call h)
    clear HVb_2
    have HB_3 := Lib.hid (below_call HB_2.out h)
    clear h
    go_wp2_with fail
    refine (KL.out _).mono ?_
    rintro e w4 ⟨rfl, h⟩
    have HVa_4 := Lib.hid (HVa_3.out.call h)
    clear HVa_3
    have HVb_4 := Lib.hid (HVb_3.out.call h)
    clear HVb_3
    have HB_4 := Lib.hid (below_call HB_3.out h)
    clear h
    go_wp2_with fail
    refine (K3r.out _ _ _ HVa_4.out.m.i HVb_4.out.m.i).mono ?_
    rintro e w5 ⟨ur, rfl, hur, h⟩
    obtain ⟨pr, cr, er⟩ := hur.shape
    rw [HND.out] at er
    subst er
    clear hur
    have HVa_5 := Lib.hid (HVa_4.out.call h)
    clear HVa_4
    have HVb_5 := Lib.hid (HVb_4.out.call h)
    clear HVb_4
    have HB_5 := Lib.hid (below_call HB_4.out h)
    clear h
    go_wp2_with fail
    refine (K3.out _ _ _ HVa_5.out HVb_5.out).mono ?_
    rintro e w6 ⟨ud, rfl, hud, _, h⟩
    obtain ⟨pd, cd, ed⟩ := hud.m.shape
    rw [HND.out] at ed
    subst ed
    clear hud
    have HVa_6 := Lib.hid (HVa_5.out.call h)
    clear HVa_5
    have HVb_6 := Lib.hid (HVb_5.out.call h)
    clear HVb_5
    have HB_6 := Lib.hid (below_call HB_5.out h)
    clear h
    go_wp2_with fail
    refine (K1.out _ _ _ HVa_6.out HVb_6.out).mono ?_
    rintro e w7 ⟨uU, rfl, huU, _, h⟩
    obtain ⟨puU, cuU, euU⟩ := huU.m.shape
    subst euU
    have HVa_7 := Lib.hid (HVa_6.out.call h)
    clear HVa_6
    have HVb_7 := Lib.hid (HVb_6.out.call h)
    clear HVb_6
    have HB_7 := Lib.hid (below_call HB_6.out h)
    clear h
    have HU_7 := Lib.hid (huU)
    clear huU
    go_wp2_with fail
    refine (K5.out _ _ _ HVa_7.out HU_7.out).mono ?_
    rintro e w8 ⟨rfl, h⟩
    have HVa_8 := Lib.hid (HVa_7.out.call h)
    clear HVa_7
    have HVb_8 := Lib.hid (HVb_7.out.call h)
    clear HVb_7
    have HU_8 := Lib.hid (HU_7.out.call h)
    clear HU_7
    have HB_8 := Lib.hid (below_call HB_7.out h)
    clear h
    go_wp2_with fail
    refine (K2.out _ _ _ HVa_8.out HVb_8.out).mono ?_
    rintro e w9 ⟨uM, rfl, huM, _, h⟩
    obtain ⟨puM, cuM, euM⟩ := huM.m.shape
    subst euM
    have HVa_9 := Lib.hid (HVa_8.out.call h)
    clear HVa_8
    have HVb_9 := Lib.hid (HVb_8.out.call h)
    clear HVb_8
    have HU_9 := Lib.hid (HU_8.out.call h)
    clear HU_8
    have HB_9 := Lib.hid (below_call HB_8.out h)
    clear h
    have HM_9 := Lib.hid (huM)
    clear huM
    go_wp2_with fail
    refine (K6.out _ _ _ HM_9.out HVa_9.out).mono ?_
    rintro e w10 ⟨rfl, h⟩
    have HVa_10 := Lib.hid (HVa_9.out.call h)
    clear HVa_9
    have HVb_10 := Lib.hid (HVb_9.out.call h)
    clear HVb_9
    have HU_10 := Lib.hid (HU_9.out.call h)
    clear HU_9
    have HM_10 := Lib.hid (HM_9.out.call h)
    clear HM_9
    have HB_10 := Lib.hid (below_call HB_9.out h)
    clear h
    go_wp2_with fail
    go_ret
    exact ⟨rfl, HB_10.out⟩
set_option maxRecDepth 100000 in
set_option maxHeartbeats 4000000 in
theorem lawCounts10_any (C : LatC) (va vb : Value) (w : World) (ha : vecArg w va) (hb : vecArg w vb) :
    Calls Try.prog 5 #[va, vb] w (IsEnd true w) := by
  have KL := Lib.hid (fun W => alive10_any C W)
  obtain ⟨⟨pa, na, ca, rfl⟩, _⟩ := ha.few
  obtain ⟨⟨pb, nb, cb, rfl⟩, _⟩ := hb.few
  obtain ⟨w1, hw1⟩ : ∃ w', w.alloc (.cells #[.slice pa na ca, .slice pb nb cb] 23) = w' := ⟨_, rfl⟩
  have hb1 : Below w.heap.size w w1 := hw1 ▸ below_new w _
  obtain ⟨rr, hok, hKR⟩ := rights10_any 2 w.heap.size 2 (pickV2 (.slice pa na ca) (.slice pb nb cb)) w1 w (by omega) hb1 (fun i hi => by
    obtain rfl | rfl : i = 0 ∨ i = 1 := by omega
    · rw [← hw1]; simp [pickV2]
    · rw [← hw1]; simp [pickV2]
    ) (fun i hi => by
    obtain rfl | rfl : i = 0 ∨ i = 1 := by omega
    · exact ha
    · exact hb
    )
  have KR := Lib.hid hKR; have HOK := Lib.hid hok; have HB_1 := Lib.hid hb1; have HC := Lib.hid C
  clear hKR hok hb1 C ha hb
  go_enter Try.func5, Try.ntmps5
  go_wp2_with fail
  clear hw1
  refine (KR.out).mono ?_
  rintro e w2 ⟨rfl, h⟩
  have HB_2 := Lib.hid (below_call HB_1.out h)
  clear h
  cases rr with
  | false =>
    go_wp2_with fail
    refine (KL.out _).mono ?_
    rintro e w3 ⟨rfl, h⟩
    have HB_3 := Lib.hid (below_call HB_2.out h)
    clear h
    go_wp2_with fail
    go_ret
    exact ⟨rfl, HB_3.out⟩
  | true =>
    obtain ⟨A, ha, ga, sa⟩ := HOK.out (by trivial) 0 (by omega)
    have hxa : VecS w (.slice pa na ca) A := ha; clear ha
    have HVa_2 := Lib.hid (hxa.call HB_2.out)
    clear hxa
    have ta := sa.mono (show 20 ≤ 1000 by omega) (show 30 ≤ 1000 by omega)
    obtain ⟨B, hb, gb, sb⟩ := HOK.out (by trivial) 1 (by omega)
    have hxb : VecS w (.slice pb nb cb) B := hb; clear hb
    have HVb_2 := Lib.hid (hxb.call HB_2.out)
    clear hxb
    have tb := sb.mono (show 20 ≤ 1000 by omega) (show 30 ≤ 1000 by omega)
    have gu := or_good ga gb; have gm := and_good ga gb
    have su := small_or ga gb sa sb; have sm := small_and ga gb sa sb
    have tu := su.mono (show 20 + 20 ≤ 1000 by omega) (show 30 + 30 + 3 ≤ 1000 by omega); have tm := sm.mono (show 20 + 20 ≤ 1000 by omega) (show 30 + 30 + 3 ≤ 1000 by omega)
    have ba := cntV_bound ga.ent; have bb := cntV_bound gb.ent; have bu := cntV_bound gu.ent; have bm := cntV_bound gm.ent; have hlw := cntV_laws ga gb
    have na := sa.1; have nb := sb.1; have nu := su.1; have nm := sm.1
    have K1 := Lib.hid (fun a W ha => refCount10_any A a W ha ga (fun x hx => by have := sa.2 x hx; omega))
    have K2 := Lib.hid (fun a W ha => HC.out.cnt A a W ha ga ta)
    have K3 := Lib.hid (fun a W ha => HC.out.cnt B a W ha gb tb)
    have K4 := Lib.hid (fun a W ha => HC.out.cnt (opV orL A B) a W ha gu tu)
    have K5 := Lib.hid (fun a W ha => HC.out.cnt (opV andL A B) a W ha gm tm)
    have K6 := Lib.hid (fun a b W ha hb => HC.out.uni A B a b W ha hb ga gb ta tb)
    have K7 := Lib.hid (fun a b W ha hb => HC.out.meet A B a b W ha hb ga gb ta tb)
    unfold IsCP at K1
    unfold IsCt at K2 K3 K4 K5
    have K8 := Lib.hid (fun W => plus10 (cntV A) (cntV B) W (by omega) (by omega) (by omega) (by omega))
    have K9 := Lib.hid (fun W => (by have k := plus10 (cntV (opV orL A B)) (cntV (opV andL A B)) W (by omega) (by omega) (by omega) (by omega); rw [hlw] at k; exact k : Calls Try.prog 16 #[.agg #[.int .u64 (cntV (opV orL A B) / 18446744073709551616), .int .u64 (cntV (opV orL A B) % 18446744073709551616)], .agg #[.int .u64 (cntV (opV andL A B) / 18446744073709551616), .int .u64 (cntV (opV andL A B) % 18446744073709551616)]] W (IsCt (cntV A + cntV B) W)))
    unfold IsCt at K8 K9
    clear ba bb bu bm hlw na nb nu nm ga gb gu gm ta tb tu tm sa sb su sm
    generalize cntV (opV orL A B) / 18446744073709551616 = u1 at *
    generalize cntV (opV orL A B) % 18446744073709551616 = u2 at *
    generalize cntV (opV andL A B) / 18446744073709551616 = m1 at *
    generalize cntV (opV andL A B) % 18446744073709551616 = m2 at *
    generalize (cntV A + cntV B) / 18446744073709551616 = p1 at *
    generalize (cntV A + cntV B) % 18446744073709551616 = p2 at *
    generalize cntV A / 18446744073709551616 = a1 at *
    generalize cntV A % 18446744073709551616 = a2 at *
    generalize cntV B / 18446744073709551616 = b1 at *
    generalize cntV B % 18446744073709551616 = b2 at *
    generalize opV orL A B = U at *
    generalize opV andL A B = M at *
    go_wp2_with fail
    refine (K1.out _ _ HVa_2.out.m.i).mono ?_
    rintro e w3 ⟨rfl, h⟩
    have HVa_3 := Lib.hid (HVa_2.out.call h)
    clear HVa_2
    have HVb_3 := Lib.hid (HVb_2.out.call h)
    clear HVb_2
    have HB_3 := Lib.hid (below_call HB_2.out h)
    clear h
    go_wp2_with fail
    refine (K2.out _ _ HVa_3.out).mono ?_
    rintro e w4 ⟨rfl, h⟩
    have HVa_4 := Lib.hid (HVa_3.out.call h)
    clear HVa_3
    have HVb_4 := Lib.hid (HVb_3.out.call h)
    clear HVb_3
    have HB_4 := Lib.hid (below_call HB_3.out h)
    clear h
    go_wp2_with fail
    refine (K3.out _ _ HVb_4.out).mono ?_
    rintro e w5 ⟨rfl, h⟩
    have HVa_5 := Lib.hid (HVa_4.out.call h)
    clear HVa_4
    have HVb_5 := Lib.hid (HVb_4.out.call h)
    clear HVb_4
    have HB_5 := Lib.hid (below_call HB_4.out h)
    clear h
    go_wp2_with fail
    refine (K8.out _).mono ?_
    rintro e w6 ⟨rfl, h⟩
    have HVa_6 := Lib.hid (HVa_5.out.call h)
    clear HVa_5
    have HVb_6 := Lib.hid (HVb_5.out.call h)
    clear HVb_5
    have HB_6 := Lib.hid (below_call HB_5.out h)
    clear h
    obtain ⟨w7, hw7⟩ : ∃ w', w6.alloc (.cells #[.int .u64 p1, .int .u64 p2] 33) = w' := ⟨_, rfl⟩
    have h : Below w6.heap.size w6 w7 := hw7 ▸ below_new w6 _
    have HVa_7 := Lib.hid (HVa_6.out.call h)
    clear HVa_6
    have HVb_7 := Lib.hid (HVb_6.out.call h)
    clear HVb_6
    have HB_7 := Lib.hid (below_call HB_6.out h)
    clear h
    have HP_7 := Lib.hid (C2.new hw7)
    go_wp2_with fail
    clear hw7
    refine (K6.out _ _ _ HVa_7.out HVb_7.out).mono ?_
    rintro e w8 ⟨uU, rfl, huU, _, h⟩
    obtain ⟨puU, cuU, euU⟩ := huU.m.shape
    subst euU
    have HVa_8 := Lib.hid (HVa_7.out.call h)
    clear HVa_7
    have HVb_8 := Lib.hid (HVb_7.out.call h)
    clear HVb_7
    have HP_8 := Lib.hid (HP_7.out.call h)
    clear HP_7
    have HB_8 := Lib.hid (below_call HB_7.out h)
    clear h
    have HU_8 := Lib.hid (huU)
    clear huU
    go_wp2_with fail
    refine (K4.out _ _ HU_8.out).mono ?_
    rintro e w9 ⟨rfl, h⟩
    have HVa_9 := Lib.hid (HVa_8.out.call h)
    clear HVa_8
    have HVb_9 := Lib.hid (HVb_8.out.call h)
    clear HVb_8
    have HP_9 := Lib.hid (HP_8.out.call h)
    clear HP_8
    have HU_9 := Lib.hid (HU_8.out.call h)
    clear HU_8
    have HB_9 := Lib.hid (below_call HB_8.out h)
    clear h
    go_wp2_with fail
    refine (K7.out _ _ _ HVa_9.out HVb_9.out).mono ?_
    rintro e w10 ⟨uM, rfl, huM, _, h⟩
    obtain ⟨puM, cuM, euM⟩ := huM.m.shape
    subst euM
    have HVa_10 := Lib.hid (HVa_9.out.call h)
    clear HVa_9
    have HVb_10 := Lib.hid (HVb_9.out.call h)
    clear HVb_9
    have HP_10 := Lib.hid (HP_9.out.call h)
    clear HP_9
    have HU_10 := Lib.hid (HU_9.out.call h)
    clear HU_9
    have HB_10 := Lib.hid (below_call HB_9.out h)
    clear h
    have HM_10 := Lib.hid (huM)
    clear huM
    go_wp2_with fail
    refine (K5.out _ _ HM_10.out).mono ?_
    rintro e w11 ⟨rfl, h⟩
    have HVa_11 := Lib.hid (HVa_10.out.call h)
    clear HVa_10
    have HVb_11 := Lib.hid (HVb_10.out.call h)
    clear HVb_10
    have HP_11 := Lib.hid (HP_10.out.call h)
    clear HP_10
    have HU_11 := Lib.hid (HU_10.out.call h)
    clear HU_10
    have HM_11 := Lib.hid (HM_10.out.call h)
    clear HM_10
    have HB_11 := Lib.hid (below_call HB_10.out h)
    clear h
    go_wp2_with fail
    refine (K9.out _).mono ?_
    rintro e w12 ⟨rfl, h⟩
    have HVa_12 := Lib.hid (HVa_11.out.call h)
    clear HVa_11
    have HVb_12 := Lib.hid (HVb_11.out.call h)
    clear HVb_11
    have HP_12 := Lib.hid (HP_11.out.call h)
    clear HP_11
    have HU_12 := Lib.hid (HU_11.out.call h)
    clear HU_11
    have HM_12 := Lib.hid (HM_11.out.call h)
    clear HM_11
    have HB_12 := Lib.hid (below_call HB_11.out h)
    clear h
    obtain ⟨w13, hw13⟩ : ∃ w', w12.alloc (.cells #[.int .u64 p1, .int .u64 p2] 33) = w' := ⟨_, rfl⟩
    have h : Below w12.heap.size w12 w13 := hw13 ▸ below_new w12 _
    have HVa_13 := Lib.hid (HVa_12.out.call h)
    clear HVa_12
    have HVb_13 := Lib.hid (HVb_12.out.call h)
    clear HVb_12
    have HP_13 := Lib.hid (HP_12.out.call h)
    clear HP_12
    have HU_13 := Lib.hid (HU_12.out.call h)
    clear HU_12
    have HM_13 := Lib.hid (HM_12.out.call h)
    clear HM_12
    have HB_13 := Lib.hid (below_call HB_12.out h)
    clear h
    have HQ_13 := Lib.hid (C2.new hw13)
    go_wp2_with fail
    clear hw13
    refine (KL.out _).mono ?_
    rintro e w14 ⟨rfl, h⟩
    have HVa_14 := Lib.hid (HVa_13.out.call h)
    clear HVa_13
    have HVb_14 := Lib.hid (HVb_13.out.call h)
    clear HVb_13
    have HP_14 := Lib.hid (HP_13.out.call h)
    clear HP_13
    have HU_14 := Lib.hid (HU_13.out.call h)
    clear HU_13
    have HM_14 := Lib.hid (HM_13.out.call h)
    clear HM_13
    have HQ_14 := Lib.hid (HQ_13.out.call h)
    clear HQ_13
    have HB_14 := Lib.hid (below_call HB_13.out h)
    clear h
    go_wp2_with fail
    refine (K2.out _ _ HVa_14.out).mono ?_
    rintro e w15 ⟨rfl, h⟩
    have HVa_15 := Lib.hid (HVa_14.out.call h)
    clear HVa_14
    have HVb_15 := Lib.hid (HVb_14.out.call h)
    clear HVb_14
    have HP_15 := Lib.hid (HP_14.out.call h)
    clear HP_14
    have HU_15 := Lib.hid (HU_14.out.call h)
    clear HU_14
    have HM_15 := Lib.hid (HM_14.out.call h)
    clear HM_14
    have HQ_15 := Lib.hid (HQ_14.out.call h)
    clear HQ_14
    have HB_15 := Lib.hid (below_call HB_14.out h)
    clear h
    obtain ⟨pp0, pp1⟩ := HP_15.out
    obtain ⟨qq0, qq1⟩ := HQ_15.out
    go_wp2_with fail
    go_ret
    exact ⟨rfl, HB_15.out⟩
set_option maxRecDepth 100000 in
set_option maxHeartbeats 4000000 in
theorem lawAlgebra10_any (CL : LatC) (VC : VCanonC) (va vb vc : Value) (w : World) (ha : vecArg w va) (hb : vecArg w vb) (hc : vecArg w vc) :
    Calls Try.prog 6 #[va, vb, vc] w (IsEnd true w) := by
  have KL := Lib.hid (fun W => alive10_any CL W)
  obtain ⟨⟨pa, na, ca, rfl⟩, _⟩ := ha.few
  obtain ⟨⟨pb, nb, cb, rfl⟩, _⟩ := hb.few
  obtain ⟨⟨pc, nc, cc, rfl⟩, _⟩ := hc.few
  obtain ⟨w1, hw1⟩ : ∃ w', w.alloc (.cells #[.slice pa na ca, .slice pb nb cb, .slice pc nc cc] 23) = w' := ⟨_, rfl⟩
  have hb1 : Below w.heap.size w w1 := hw1 ▸ below_new w _
  obtain ⟨rr, hok, hKR⟩ := rights10_any 3 w.heap.size 3 (pickV3 (.slice pa na ca) (.slice pb nb cb) (.slice pc nc cc)) w1 w (by omega) hb1 (fun i hi => by
    obtain rfl | rfl | rfl : i = 0 ∨ i = 1 ∨ i = 2 := by omega
    · rw [← hw1]; simp [pickV3]
    · rw [← hw1]; simp [pickV3]
    · rw [← hw1]; simp [pickV3]
    ) (fun i hi => by
    obtain rfl | rfl | rfl : i = 0 ∨ i = 1 ∨ i = 2 := by omega
    · exact ha
    · exact hb
    · exact hc
    )
  have KR := Lib.hid hKR; have HOK := Lib.hid hok; have HB_1 := Lib.hid hb1; have HC := Lib.hid CL
  clear hKR hok hb1 CL ha hb hc
  go_enter Try.func6, Try.ntmps6
  go_wp2_with fail
  clear hw1
  refine (KR.out).mono ?_
  rintro e w2 ⟨rfl, h⟩
  have HB_2 := Lib.hid (below_call HB_1.out h)
  clear h
  cases rr with
  | false =>
    go_wp2_with fail
    refine (KL.out _).mono ?_
    rintro e w3 ⟨rfl, h⟩
    have HB_3 := Lib.hid (below_call HB_2.out h)
    clear h
    go_wp2_with fail
    go_ret
    exact ⟨rfl, HB_3.out⟩
  | true =>
    obtain ⟨A, ha, ga, sa⟩ := HOK.out (by trivial) 0 (by omega)
    have hxa : VecS w (.slice pa na ca) A := ha; clear ha
    have HVa_2 := Lib.hid (hxa.call HB_2.out)
    clear hxa
    have ta := sa.mono (show 20 ≤ 1000 by omega) (show 30 ≤ 1000 by omega)
    obtain ⟨B, hb, gb, sb⟩ := HOK.out (by trivial) 1 (by omega)
    have hxb : VecS w (.slice pb nb cb) B := hb; clear hb
    have HVb_2 := Lib.hid (hxb.call HB_2.out)
    clear hxb
    have tb := sb.mono (show 20 ≤ 1000 by omega) (show 30 ≤ 1000 by omega)
    obtain ⟨C, hc, gc, sc⟩ := HOK.out (by trivial) 2 (by omega)
    have hxc : VecS w (.slice pc nc cc) C := hc; clear hc
    have HVc_2 := Lib.hid (hxc.call HB_2.out)
    clear hxc
    have tc := sc.mono (show 20 ≤ 1000 by omega) (show 30 ≤ 1000 by omega)
    have gu := or_good ga gb; have gm := and_good ga gb; have gx := and_good ga gc; have gy := and_good gb gc; have gq := or_good gb gc
    have su := small_or ga gb sa sb
    have tu := (su).mono (show 20 + 20 ≤ 1000 by omega) (show 30 + 30 + 3 ≤ 1000 by omega)
    have sm := small_and ga gb sa sb
    have tm := (sm).mono (show 20 + 20 ≤ 1000 by omega) (show 30 + 30 + 3 ≤ 1000 by omega)
    have sx := small_and ga gc sa sc
    have tx := (sx).mono (show 20 + 20 ≤ 1000 by omega) (show 30 + 30 + 3 ≤ 1000 by omega)
    have sy := small_and gb gc sb sc
    have ty := (sy).mono (show 20 + 20 ≤ 1000 by omega) (show 30 + 30 + 3 ≤ 1000 by omega)
    have sq := small_or gb gc sb sc
    have tq := (sq).mono (show 20 + 20 ≤ 1000 by omega) (show 30 + 30 + 3 ≤ 1000 by omega)
    have K1 := Lib.hid (fun a b W ha hb => HC.out.uni A B a b W ha hb ga gb ta tb)
    have K2 := Lib.hid (fun a b W ha hb => HC.out.meet A B a b W ha hb ga gb ta tb)
    have K3 := Lib.hid (fun a b W ha hb => (by have k := HC.out.uni B A a b W ha hb gb ga tb ta; rw [or_comm10 gb ga] at k; exact k : Calls Try.prog 10 #[a, b] W (IsVN (opV orL A B) W)))
    have K4 := Lib.hid (fun a b W ha hb => (by have k := HC.out.meet B A a b W ha hb gb ga tb ta; rw [and_comm10 gb ga] at k; exact k : Calls Try.prog 12 #[a, b] W (IsVN (opV andL A B) W)))
    have K5 := Lib.hid (fun a b W ha hb => (by have k := HC.out.uni A A a b W ha hb ga ga ta ta; rw [or_self10 ga] at k; exact k : Calls Try.prog 10 #[a, b] W (IsVN (canonV A) W)))
    have K6 := Lib.hid (fun a b W ha hb => (by have k := HC.out.meet A A a b W ha hb ga ga ta ta; rw [and_self10 ga] at k; exact k : Calls Try.prog 12 #[a, b] W (IsVN (canonV A) W)))
    have K7 := Lib.hid (fun a W ha => VC A a W ha ga)
    have K8 := Lib.hid (fun a b W ha hb => HC.out.meet (opV orL A B) C a b W ha hb gu gc tu tc)
    have K9 := Lib.hid (fun a b W ha hb => HC.out.meet A C a b W ha hb ga gc ta tc)
    have K10 := Lib.hid (fun a b W ha hb => HC.out.meet B C a b W ha hb gb gc tb tc)
    have K11 := Lib.hid (fun a b W ha hb => (by have k := HC.out.uni (opV andL A C) (opV andL B C) a b W ha hb gx gy tx ty; rw [← and_or10 ga gb gc] at k; exact k : Calls Try.prog 10 #[a, b] W (IsVN (opV andL (opV orL A B) C) W)))
    have K12 := Lib.hid (fun a b W ha hb => HC.out.uni (opV orL A B) C a b W ha hb gu gc tu tc)
    have K13 := Lib.hid (fun a b W ha hb => HC.out.uni B C a b W ha hb gb gc tb tc)
    have K14 := Lib.hid (fun a b W ha hb => (by have k := HC.out.uni A (opV orL B C) a b W ha hb ga gq ta tq; rw [← or_assoc10 ga gb gc] at k; exact k : Calls Try.prog 10 #[a, b] W (IsVN (opV orL (opV orL A B) C) W)))
    have K15 := Lib.hid (fun a b W ha hb => HC.out.meet (opV andL A B) C a b W ha hb gm gc tm tc)
    have K16 := Lib.hid (fun a b W ha hb => (by have k := HC.out.meet A (opV andL B C) a b W ha hb ga gy ta ty; rw [← and_assoc10 ga gb gc] at k; exact k : Calls Try.prog 12 #[a, b] W (IsVN (opV andL (opV andL A B) C) W)))
    have KS := Lib.hid (fun V v v' W h h2 => same9_self V v v' W h h2)
    generalize (opV andL (opV orL A B) C) = ll9 at *
    generalize (opV orL (opV orL A B) C) = pp9 at *
    generalize (opV andL (opV andL A B) C) = p29 at *
    generalize (opV orL A B) = uu9 at *
    generalize (opV andL A B) = mm9 at *
    generalize (opV andL A C) = xx9 at *
    generalize (opV andL B C) = yy9 at *
    generalize (opV orL B C) = qq9 at *
    generalize canonV A = ca9 at *
    clear ga gb gc gu gm gx gy gq ta tb tc tu tm tx ty tq sa sb sc su sm sx sy sq VC
    go_wp2_with fail
    refine (K1.out _ _ _ HVa_2.out HVb_2.out).mono ?_
    rintro e w3 ⟨uU, rfl, huU, _, h⟩
    obtain ⟨puU, cuU, euU⟩ := huU.m.shape
    subst euU
    have HVa_3 := Lib.hid (HVa_2.out.call h)
    clear HVa_2
    have HVb_3 := Lib.hid (HVb_2.out.call h)
    clear HVb_2
    have HVc_3 := Lib.hid (HVc_2.out.call h)
    clear HVc_2
    have HB_3 := Lib.hid (below_call HB_2.out h)
    clear h
    have HU_3 := Lib.hid (huU)
    clear huU
    go_wp2_with fail
    refine (K2.out _ _ _ HVa_3.out HVb_3.out).mono ?_
    rintro e w4 ⟨uM, rfl, huM, _, h⟩
    obtain ⟨puM, cuM, euM⟩ := huM.m.shape
    subst euM
    have HVa_4 := Lib.hid (HVa_3.out.call h)
    clear HVa_3
    have HVb_4 := Lib.hid (HVb_3.out.call h)
    clear HVb_3
    have HVc_4 := Lib.hid (HVc_3.out.call h)
    clear HVc_3
    have HU_4 := Lib.hid (HU_3.out.call h)
    clear HU_3
    have HB_4 := Lib.hid (below_call HB_3.out h)
    clear h
    have HM_4 := Lib.hid (huM)
    clear huM
    go_wp2_with fail
    refine (K3.out _ _ _ HVb_4.out HVa_4.out).mono ?_
    rintro e w5 ⟨uT1, rfl, huT1, _, h⟩
    obtain ⟨puT1, cuT1, euT1⟩ := huT1.m.shape
    subst euT1
    have HVa_5 := Lib.hid (HVa_4.out.call h)
    clear HVa_4
    have HVb_5 := Lib.hid (HVb_4.out.call h)
    clear HVb_4
    have HVc_5 := Lib.hid (HVc_4.out.call h)
    clear HVc_4
    have HU_5 := Lib.hid (HU_4.out.call h)
    clear HU_4
    have HM_5 := Lib.hid (HM_4.out.call h)
    clear HM_4
    have HB_5 := Lib.hid (below_call HB_4.out h)
    clear h
    have HT1_5 := Lib.hid (huT1)
    clear huT1
    go_wp2_with fail
    refine (KS.out uu9 _ _ _ HU_5.out.m.i HT1_5.out.m.i).mono ?_
    rintro e w6 ⟨rfl, h⟩
    have HVa_6 := Lib.hid (HVa_5.out.call h)
    clear HVa_5
    have HVb_6 := Lib.hid (HVb_5.out.call h)
    clear HVb_5
    have HVc_6 := Lib.hid (HVc_5.out.call h)
    clear HVc_5
    have HU_6 := Lib.hid (HU_5.out.call h)
    clear HU_5
    have HM_6 := Lib.hid (HM_5.out.call h)
    clear HM_5
    have HT1_6 := Lib.hid (HT1_5.out.call h)
    clear HT1_5
    have HB_6 := Lib.hid (below_call HB_5.out h)
    clear h
    go_wp2_with fail
    refine (K4.out _ _ _ HVb_6.out HVa_6.out).mono ?_
    rintro e w7 ⟨uT2, rfl, huT2, _, h⟩
    obtain ⟨puT2, cuT2, euT2⟩ := huT2.m.shape
    subst euT2
    have HVa_7 := Lib.hid (HVa_6.out.call h)
    clear HVa_6
    have HVb_7 := Lib.hid (HVb_6.out.call h)
    clear HVb_6
    have HVc_7 := Lib.hid (HVc_6.out.call h)
    clear HVc_6
    have HU_7 := Lib.hid (HU_6.out.call h)
    clear HU_6
    have HM_7 := Lib.hid (HM_6.out.call h)
    clear HM_6
    have HB_7 := Lib.hid (below_call HB_6.out h)
    clear h
    have HT2_7 := Lib.hid (huT2)
    clear huT2
    go_wp2_with fail
    refine (KS.out mm9 _ _ _ HM_7.out.m.i HT2_7.out.m.i).mono ?_
    rintro e w8 ⟨rfl, h⟩
    have HVa_8 := Lib.hid (HVa_7.out.call h)
    clear HVa_7
    have HVb_8 := Lib.hid (HVb_7.out.call h)
    clear HVb_7
    have HVc_8 := Lib.hid (HVc_7.out.call h)
    clear HVc_7
    have HU_8 := Lib.hid (HU_7.out.call h)
    clear HU_7
    have HM_8 := Lib.hid (HM_7.out.call h)
    clear HM_7
    have HT2_8 := Lib.hid (HT2_7.out.call h)
    clear HT2_7
    have HB_8 := Lib.hid (below_call HB_7.out h)
    clear h
    go_wp2_with fail
    refine (K5.out _ _ _ HVa_8.out HVa_8.out).mono ?_
    rintro e w9 ⟨uT6, rfl, huT6, _, h⟩
    obtain ⟨puT6, cuT6, euT6⟩ := huT6.m.shape
    subst euT6
    have HVa_9 := Lib.hid (HVa_8.out.call h)
    clear HVa_8
    have HVb_9 := Lib.hid (HVb_8.out.call h)
    clear HVb_8
    have HVc_9 := Lib.hid (HVc_8.out.call h)
    clear HVc_8
    have HU_9 := Lib.hid (HU_8.out.call h)
    clear HU_8
    have HM_9 := Lib.hid (HM_8.out.call h)
    clear HM_8
    have HB_9 := Lib.hid (below_call HB_8.out h)
    clear h
    have HT6_9 := Lib.hid (huT6)
    clear huT6
    go_wp2_with fail
    refine (K7.out _ _ HVa_9.out).mono ?_
    rintro e w10 ⟨uT7, rfl, huT7, _, h⟩
    obtain ⟨puT7, cuT7, euT7⟩ := huT7.m.shape
    subst euT7
    have HVa_10 := Lib.hid (HVa_9.out.call h)
    clear HVa_9
    have HVb_10 := Lib.hid (HVb_9.out.call h)
    clear HVb_9
    have HVc_10 := Lib.hid (HVc_9.out.call h)
    clear HVc_9
    have HU_10 := Lib.hid (HU_9.out.call h)
    clear HU_9
    have HM_10 := Lib.hid (HM_9.out.call h)
    clear HM_9
    have HT6_10 := Lib.hid (HT6_9.out.call h)
    clear HT6_9
    have HB_10 := Lib.hid (below_call HB_9.out h)
    clear h
    have HT7_10 := Lib.hid (huT7)
    clear huT7
    go_wp2_with fail
    refine (KS.out ca9 _ _ _ HT6_10.out.m.i HT7_10.out.m.i).mono ?_
    rintro e w11 ⟨rfl, h⟩
    have HVa_11 := Lib.hid (HVa_10.out.call h)
    clear HVa_10
    have HVb_11 := Lib.hid (HVb_10.out.call h)
    clear HVb_10
    have HVc_11 := Lib.hid (HVc_10.out.call h)
    clear HVc_10
    have HU_11 := Lib.hid (HU_10.out.call h)
    clear HU_10
    have HM_11 := Lib.hid (HM_10.out.call h)
    clear HM_10
    have HT6_11 := Lib.hid (HT6_10.out.call h)
    clear HT6_10
    have HT7_11 := Lib.hid (HT7_10.out.call h)
    clear HT7_10
    have HB_11 := Lib.hid (below_call HB_10.out h)
    clear h
    go_wp2_with fail
    refine (K6.out _ _ _ HVa_11.out HVa_11.out).mono ?_
    rintro e w12 ⟨uT8, rfl, huT8, _, h⟩
    obtain ⟨puT8, cuT8, euT8⟩ := huT8.m.shape
    subst euT8
    have HVa_12 := Lib.hid (HVa_11.out.call h)
    clear HVa_11
    have HVb_12 := Lib.hid (HVb_11.out.call h)
    clear HVb_11
    have HVc_12 := Lib.hid (HVc_11.out.call h)
    clear HVc_11
    have HU_12 := Lib.hid (HU_11.out.call h)
    clear HU_11
    have HM_12 := Lib.hid (HM_11.out.call h)
    clear HM_11
    have HB_12 := Lib.hid (below_call HB_11.out h)
    clear h
    have HT8_12 := Lib.hid (huT8)
    clear huT8
    go_wp2_with fail
    refine (K7.out _ _ HVa_12.out).mono ?_
    rintro e w13 ⟨uT9, rfl, huT9, _, h⟩
    obtain ⟨puT9, cuT9, euT9⟩ := huT9.m.shape
    subst euT9
    have HVa_13 := Lib.hid (HVa_12.out.call h)
    clear HVa_12
    have HVb_13 := Lib.hid (HVb_12.out.call h)
    clear HVb_12
    have HVc_13 := Lib.hid (HVc_12.out.call h)
    clear HVc_12
    have HU_13 := Lib.hid (HU_12.out.call h)
    clear HU_12
    have HM_13 := Lib.hid (HM_12.out.call h)
    clear HM_12
    have HT8_13 := Lib.hid (HT8_12.out.call h)
    clear HT8_12
    have HB_13 := Lib.hid (below_call HB_12.out h)
    clear h
    have HT9_13 := Lib.hid (huT9)
    clear huT9
    go_wp2_with fail
    refine (KS.out ca9 _ _ _ HT8_13.out.m.i HT9_13.out.m.i).mono ?_
    rintro e w14 ⟨rfl, h⟩
    have HVa_14 := Lib.hid (HVa_13.out.call h)
    clear HVa_13
    have HVb_14 := Lib.hid (HVb_13.out.call h)
    clear HVb_13
    have HVc_14 := Lib.hid (HVc_13.out.call h)
    clear HVc_13
    have HU_14 := Lib.hid (HU_13.out.call h)
    clear HU_13
    have HM_14 := Lib.hid (HM_13.out.call h)
    clear HM_13
    have HT8_14 := Lib.hid (HT8_13.out.call h)
    clear HT8_13
    have HT9_14 := Lib.hid (HT9_13.out.call h)
    clear HT9_13
    have HB_14 := Lib.hid (below_call HB_13.out h)
    clear h
    go_wp2_with fail
    refine (K8.out _ _ _ HU_14.out HVc_14.out).mono ?_
    rintro e w15 ⟨uL, rfl, huL, _, h⟩
    obtain ⟨puL, cuL, euL⟩ := huL.m.shape
    subst euL
    have HVa_15 := Lib.hid (HVa_14.out.call h)
    clear HVa_14
    have HVb_15 := Lib.hid (HVb_14.out.call h)
    clear HVb_14
    have HVc_15 := Lib.hid (HVc_14.out.call h)
    clear HVc_14
    have HU_15 := Lib.hid (HU_14.out.call h)
    clear HU_14
    have HM_15 := Lib.hid (HM_14.out.call h)
    clear HM_14
    have HB_15 := Lib.hid (below_call HB_14.out h)
    clear h
    have HL_15 := Lib.hid (huL)
    clear huL
    go_wp2_with fail
    refine (K9.out _ _ _ HVa_15.out HVc_15.out).mono ?_
    rintro e w16 ⟨uX, rfl, huX, _, h⟩
    obtain ⟨puX, cuX, euX⟩ := huX.m.shape
    subst euX
    have HVa_16 := Lib.hid (HVa_15.out.call h)
    clear HVa_15
    have HVb_16 := Lib.hid (HVb_15.out.call h)
    clear HVb_15
    have HVc_16 := Lib.hid (HVc_15.out.call h)
    clear HVc_15
    have HU_16 := Lib.hid (HU_15.out.call h)
    clear HU_15
    have HM_16 := Lib.hid (HM_15.out.call h)
    clear HM_15
    have HL_16 := Lib.hid (HL_15.out.call h)
    clear HL_15
    have HB_16 := Lib.hid (below_call HB_15.out h)
    clear h
    have HX_16 := Lib.hid (huX)
    clear huX
    go_wp2_with fail
    refine (K10.out _ _ _ HVb_16.out HVc_16.out).mono ?_
    rintro e w17 ⟨uY, rfl, huY, _, h⟩
    obtain ⟨puY, cuY, euY⟩ := huY.m.shape
    subst euY
    have HVa_17 := Lib.hid (HVa_16.out.call h)
    clear HVa_16
    have HVb_17 := Lib.hid (HVb_16.out.call h)
    clear HVb_16
    have HVc_17 := Lib.hid (HVc_16.out.call h)
    clear HVc_16
    have HU_17 := Lib.hid (HU_16.out.call h)
    clear HU_16
    have HM_17 := Lib.hid (HM_16.out.call h)
    clear HM_16
    have HL_17 := Lib.hid (HL_16.out.call h)
    clear HL_16
    have HX_17 := Lib.hid (HX_16.out.call h)
    clear HX_16
    have HB_17 := Lib.hid (below_call HB_16.out h)
    clear h
    have HY_17 := Lib.hid (huY)
    clear huY
    go_wp2_with fail
    refine (K11.out _ _ _ HX_17.out HY_17.out).mono ?_
    rintro e w18 ⟨uR, rfl, huR, _, h⟩
    obtain ⟨puR, cuR, euR⟩ := huR.m.shape
    subst euR
    have HVa_18 := Lib.hid (HVa_17.out.call h)
    clear HVa_17
    have HVb_18 := Lib.hid (HVb_17.out.call h)
    clear HVb_17
    have HVc_18 := Lib.hid (HVc_17.out.call h)
    clear HVc_17
    have HU_18 := Lib.hid (HU_17.out.call h)
    clear HU_17
    have HM_18 := Lib.hid (HM_17.out.call h)
    clear HM_17
    have HL_18 := Lib.hid (HL_17.out.call h)
    clear HL_17
    have HX_18 := Lib.hid (HX_17.out.call h)
    clear HX_17
    have HY_18 := Lib.hid (HY_17.out.call h)
    clear HY_17
    have HB_18 := Lib.hid (below_call HB_17.out h)
    clear h
    have HR_18 := Lib.hid (huR)
    clear huR
    go_wp2_with fail
    refine (KL.out _).mono ?_
    rintro e w19 ⟨rfl, h⟩
    have HVa_19 := Lib.hid (HVa_18.out.call h)
    clear HVa_18
    have HVb_19 := Lib.hid (HVb_18.out.call h)
    clear HVb_18
    have HVc_19 := Lib.hid (HVc_18.out.call h)
    clear HVc_18
    have HU_19 := Lib.hid (HU_18.out.call h)
    clear HU_18
    have HM_19 := Lib.hid (HM_18.out.call h)
    clear HM_18
    have HL_19 := Lib.hid (HL_18.out.call h)
    clear HL_18
    have HR_19 := Lib.hid (HR_18.out.call h)
    clear HR_18
    have HB_19 := Lib.hid (below_call HB_18.out h)
    clear h
    go_wp2_with fail
    refine (K12.out _ _ _ HU_19.out HVc_19.out).mono ?_
    rintro e w20 ⟨uP, rfl, huP, _, h⟩
    obtain ⟨puP, cuP, euP⟩ := huP.m.shape
    subst euP
    have HVa_20 := Lib.hid (HVa_19.out.call h)
    clear HVa_19
    have HVb_20 := Lib.hid (HVb_19.out.call h)
    clear HVb_19
    have HVc_20 := Lib.hid (HVc_19.out.call h)
    clear HVc_19
    have HU_20 := Lib.hid (HU_19.out.call h)
    clear HU_19
    have HM_20 := Lib.hid (HM_19.out.call h)
    clear HM_19
    have HL_20 := Lib.hid (HL_19.out.call h)
    clear HL_19
    have HR_20 := Lib.hid (HR_19.out.call h)
    clear HR_19
    have HB_20 := Lib.hid (below_call HB_19.out h)
    clear h
    have HP_20 := Lib.hid (huP)
    clear huP
    go_wp2_with fail
    refine (K13.out _ _ _ HVb_20.out HVc_20.out).mono ?_
    rintro e w21 ⟨uQ, rfl, huQ, _, h⟩
    obtain ⟨puQ, cuQ, euQ⟩ := huQ.m.shape
    subst euQ
    have HVa_21 := Lib.hid (HVa_20.out.call h)
    clear HVa_20
    have HVb_21 := Lib.hid (HVb_20.out.call h)
    clear HVb_20
    have HVc_21 := Lib.hid (HVc_20.out.call h)
    clear HVc_20
    have HU_21 := Lib.hid (HU_20.out.call h)
    clear HU_20
    have HM_21 := Lib.hid (HM_20.out.call h)
    clear HM_20
    have HL_21 := Lib.hid (HL_20.out.call h)
    clear HL_20
    have HR_21 := Lib.hid (HR_20.out.call h)
    clear HR_20
    have HP_21 := Lib.hid (HP_20.out.call h)
    clear HP_20
    have HB_21 := Lib.hid (below_call HB_20.out h)
    clear h
    have HQ_21 := Lib.hid (huQ)
    clear huQ
    go_wp2_with fail
    refine (K14.out _ _ _ HVa_21.out HQ_21.out).mono ?_
    rintro e w22 ⟨uZ1, rfl, huZ1, _, h⟩
    obtain ⟨puZ1, cuZ1, euZ1⟩ := huZ1.m.shape
    subst euZ1
    have HVa_22 := Lib.hid (HVa_21.out.call h)
    clear HVa_21
    have HVb_22 := Lib.hid (HVb_21.out.call h)
    clear HVb_21
    have HVc_22 := Lib.hid (HVc_21.out.call h)
    clear HVc_21
    have HU_22 := Lib.hid (HU_21.out.call h)
    clear HU_21
    have HM_22 := Lib.hid (HM_21.out.call h)
    clear HM_21
    have HL_22 := Lib.hid (HL_21.out.call h)
    clear HL_21
    have HR_22 := Lib.hid (HR_21.out.call h)
    clear HR_21
    have HP_22 := Lib.hid (HP_21.out.call h)
    clear HP_21
    have HQ_22 := Lib.hid (HQ_21.out.call h)
    clear HQ_21
    have HB_22 := Lib.hid (below_call HB_21.out h)
    clear h
    have HZ1_22 := Lib.hid (huZ1)
    clear huZ1
    go_wp2_with fail
    refine (KS.out pp9 _ _ _ HP_22.out.m.i HZ1_22.out.m.i).mono ?_
    rintro e w23 ⟨rfl, h⟩
    have HVa_23 := Lib.hid (HVa_22.out.call h)
    clear HVa_22
    have HVb_23 := Lib.hid (HVb_22.out.call h)
    clear HVb_22
    have HVc_23 := Lib.hid (HVc_22.out.call h)
    clear HVc_22
    have HU_23 := Lib.hid (HU_22.out.call h)
    clear HU_22
    have HM_23 := Lib.hid (HM_22.out.call h)
    clear HM_22
    have HL_23 := Lib.hid (HL_22.out.call h)
    clear HL_22
    have HR_23 := Lib.hid (HR_22.out.call h)
    clear HR_22
    have HP_23 := Lib.hid (HP_22.out.call h)
    clear HP_22
    have HQ_23 := Lib.hid (HQ_22.out.call h)
    clear HQ_22
    have HZ1_23 := Lib.hid (HZ1_22.out.call h)
    clear HZ1_22
    have HB_23 := Lib.hid (below_call HB_22.out h)
    clear h
    go_wp2_with fail
    refine (K15.out _ _ _ HM_23.out HVc_23.out).mono ?_
    rintro e w24 ⟨uP2, rfl, huP2, _, h⟩
    obtain ⟨puP2, cuP2, euP2⟩ := huP2.m.shape
    subst euP2
    have HVa_24 := Lib.hid (HVa_23.out.call h)
    clear HVa_23
    have HVb_24 := Lib.hid (HVb_23.out.call h)
    clear HVb_23
    have HVc_24 := Lib.hid (HVc_23.out.call h)
    clear HVc_23
    have HU_24 := Lib.hid (HU_23.out.call h)
    clear HU_23
    have HM_24 := Lib.hid (HM_23.out.call h)
    clear HM_23
    have HL_24 := Lib.hid (HL_23.out.call h)
    clear HL_23
    have HR_24 := Lib.hid (HR_23.out.call h)
    clear HR_23
    have HB_24 := Lib.hid (below_call HB_23.out h)
    clear h
    have HP2_24 := Lib.hid (huP2)
    clear huP2
    go_wp2_with fail
    refine (K10.out _ _ _ HVb_24.out HVc_24.out).mono ?_
    rintro e w25 ⟨uY2, rfl, huY2, _, h⟩
    obtain ⟨puY2, cuY2, euY2⟩ := huY2.m.shape
    subst euY2
    have HVa_25 := Lib.hid (HVa_24.out.call h)
    clear HVa_24
    have HVb_25 := Lib.hid (HVb_24.out.call h)
    clear HVb_24
    have HVc_25 := Lib.hid (HVc_24.out.call h)
    clear HVc_24
    have HU_25 := Lib.hid (HU_24.out.call h)
    clear HU_24
    have HM_25 := Lib.hid (HM_24.out.call h)
    clear HM_24
    have HL_25 := Lib.hid (HL_24.out.call h)
    clear HL_24
    have HR_25 := Lib.hid (HR_24.out.call h)
    clear HR_24
    have HP2_25 := Lib.hid (HP2_24.out.call h)
    clear HP2_24
    have HB_25 := Lib.hid (below_call HB_24.out h)
    clear h
    have HY2_25 := Lib.hid (huY2)
    clear huY2
    go_wp2_with fail
    refine (K16.out _ _ _ HVa_25.out HY2_25.out).mono ?_
    rintro e w26 ⟨uZ2, rfl, huZ2, _, h⟩
    obtain ⟨puZ2, cuZ2, euZ2⟩ := huZ2.m.shape
    subst euZ2
    have HVa_26 := Lib.hid (HVa_25.out.call h)
    clear HVa_25
    have HVb_26 := Lib.hid (HVb_25.out.call h)
    clear HVb_25
    have HVc_26 := Lib.hid (HVc_25.out.call h)
    clear HVc_25
    have HU_26 := Lib.hid (HU_25.out.call h)
    clear HU_25
    have HM_26 := Lib.hid (HM_25.out.call h)
    clear HM_25
    have HL_26 := Lib.hid (HL_25.out.call h)
    clear HL_25
    have HR_26 := Lib.hid (HR_25.out.call h)
    clear HR_25
    have HP2_26 := Lib.hid (HP2_25.out.call h)
    clear HP2_25
    have HY2_26 := Lib.hid (HY2_25.out.call h)
    clear HY2_25
    have HB_26 := Lib.hid (below_call HB_25.out h)
    clear h
    have HZ2_26 := Lib.hid (huZ2)
    clear huZ2
    go_wp2_with fail
    refine (KS.out p29 _ _ _ HP2_26.out.m.i HZ2_26.out.m.i).mono ?_
    rintro e w27 ⟨rfl, h⟩
    have HVa_27 := Lib.hid (HVa_26.out.call h)
    clear HVa_26
    have HVb_27 := Lib.hid (HVb_26.out.call h)
    clear HVb_26
    have HVc_27 := Lib.hid (HVc_26.out.call h)
    clear HVc_26
    have HU_27 := Lib.hid (HU_26.out.call h)
    clear HU_26
    have HM_27 := Lib.hid (HM_26.out.call h)
    clear HM_26
    have HL_27 := Lib.hid (HL_26.out.call h)
    clear HL_26
    have HR_27 := Lib.hid (HR_26.out.call h)
    clear HR_26
    have HP2_27 := Lib.hid (HP2_26.out.call h)
    clear HP2_26
    have HY2_27 := Lib.hid (HY2_26.out.call h)
    clear HY2_26
    have HZ2_27 := Lib.hid (HZ2_26.out.call h)
    clear HZ2_26
    have HB_27 := Lib.hid (below_call HB_26.out h)
    clear h
    go_wp2_with fail
    refine (KS.out ll9 _ _ _ HL_27.out.m.i HR_27.out.m.i).mono ?_
    rintro e w28 ⟨rfl, h⟩
    have HVa_28 := Lib.hid (HVa_27.out.call h)
    clear HVa_27
    have HVb_28 := Lib.hid (HVb_27.out.call h)
    clear HVb_27
    have HVc_28 := Lib.hid (HVc_27.out.call h)
    clear HVc_27
    have HU_28 := Lib.hid (HU_27.out.call h)
    clear HU_27
    have HM_28 := Lib.hid (HM_27.out.call h)
    clear HM_27
    have HL_28 := Lib.hid (HL_27.out.call h)
    clear HL_27
    have HR_28 := Lib.hid (HR_27.out.call h)
    clear HR_27
    have HB_28 := Lib.hid (below_call HB_27.out h)
    clear h
    go_wp2_with fail
    go_ret
    exact ⟨rfl, HB_28.out⟩
end Go.Proofs.Ytefiobfljhmkkaa
