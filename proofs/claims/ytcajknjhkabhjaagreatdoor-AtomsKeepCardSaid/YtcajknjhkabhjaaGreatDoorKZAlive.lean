/- The example of chapter 12, in every state. Conditions: the fixed table of package math/bits. -/
import Derived.Test.YtcajknjhkabhjaaGreatDoorKZGrpM
import Derived.ArgAppend
import Derived.Test.YtcajknjhkabhjaaGreatDoorRows
import Derived.Test.YtcajknjhkabhjaaGreatDoorCards
import Derived.Test.YtcajknjhkabhjaaGreatDoorTie
import Derived.SevenTiedAt
import Derived.ChangeCalls
import Derived.LaidSub
import Derived.Lay
namespace Go.Proofs.YtcajknjhkabhjaaGreatDoor
open Go.RowKit
def exK12 : List (List Iv × List (Int × Int × List Iv)) := [([(1, 5)], [(1, 0, [])]), ([(4, 9)], [(2, 0, [])])]
def v1K : List (Int × Int × List Iv) := [(1, 0, [])]
def v2K : List (Int × Int × List Iv) := [(2, 0, [])]
def v12K : List (Int × Int × List Iv) := [(1, 0, []), (2, 0, [])]
theorem exK12_good : GoodK exK12 := fun x hx => by
 simp [exK12] at hx
 rcases hx with rfl | rfl
 ·exact ⟨g15, one_good11 1 0 (by decide) (by decide)⟩
 ·exact ⟨g49, one_good11 2 0 (by decide) (by decide)⟩
theorem exK12_small : smallK exK12 := ⟨by decide, fun x hx => by
 simp [exK12] at hx
 rcases hx with rfl | rfl <;> exact ⟨by decide, by decide, fun y hy => by rw [List.mem_singleton.1 hy]; decide⟩⟩
theorem v12_good : GoodV v12K := ⟨fun x hx => by
 simp [v12K] at hx
 rcases hx with rfl | rfl
 ·exact ent10 (by decide) (by decide)
 ·exact ent10 (by decide) (by decide), by
 unfold v12K
 exact List.pairwise_cons.2 ⟨fun y hy => by rw [List.mem_singleton.1 hy]; decide, List.pairwise_singleton _ _⟩⟩
theorem v12_kn (r : Int) : knV v12K r = if r = 1 then [(0, 0)] else if r = 2 then [(0, 0)] else [] := by
 by_cases h : r = 1
 ·subst h
  rw [if_pos rfl, ← known_nil (m := 0) (by decide) (by decide)]
  exact knV_mem v12_good.asc (x := (1, 0, [])) (by simp [v12K])
 ·rw [if_neg h]
  by_cases h2 : r = 2
  ·subst h2
   rw [if_pos rfl, ← known_nil (m := 0) (by decide) (by decide)]
   exact knV_mem v12_good.asc (x := (2, 0, [])) (by simp [v12K])
  ·rw [if_neg h2]
   exact knV_none fun x hx e => by
    simp [v12K] at hx
    rcases hx with rfl | rfl
    ·exact h e.symm
    ·exact h2 e.symm
theorem one_step12 (r0 : Int) : opV orL [] [(r0, 0, [])] = [(r0, (0 : Int), ([] : List Iv))] := by
 have g1 := one_good11 r0 0 (by decide) (by decide)
 exact op_is (fun _ _ h h' => orL_good h h') rfl goodV_nil.1 g1 g1 (fun y hy => by rw [List.mem_singleton.1 hy]; rfl) fun r => or_nil8 (knV_good g1 r)
theorem ex12_at1 : atK exK12 1 = v1K := by
 show atStep 1 (atStep 1 [] ([(1, 5)], [(1, 0, [])])) ([(4, 9)], [(2, 0, [])]) = v1K
 unfold atStep
 first
 | (rw [if_neg (by decide), if_pos (by decide), one_step12]; rfl)
 | (rw [if_pos (by decide), if_neg (by decide), one_step12]; rfl)
theorem ex12_at6 : atK exK12 6 = v2K := by
 show atStep 6 (atStep 6 [] ([(1, 5)], [(1, 0, [])])) ([(4, 9)], [(2, 0, [])]) = v2K
 unfold atStep
 first
 | (rw [if_pos (by decide), if_neg (by decide), one_step12]; rfl)
 | (rw [if_neg (by decide), if_pos (by decide), one_step12]; rfl)
theorem ex12_at4 : atK exK12 4 = v12K := by
 have g1 := one_good11 1 0 (by decide) (by decide)
 have g2 := one_good11 2 0 (by decide) (by decide)
 have s2 : opV orL [(1, 0, [])] [((2 : Int), (0 : Int), ([] : List Iv))] = v12K := op_is (fun _ _ h h' => orL_good h h') rfl g1 g2 v12_good (fun y hy => by simp [v12K] at hy; rcases hy with rfl | rfl <;> rfl) fun r => by
  rw [kn_one11 1 0 (by decide) (by decide), kn_one11 2 0 (by decide) (by decide), v12_kn]
  by_cases h : r = 1
  ·subst h; rw [if_pos rfl, if_neg (by decide), if_pos rfl, or_nil8' (good_one (by decide) (by decide) (by decide))]
  ·rw [if_neg h, if_neg h]
   by_cases h2 : r = 2
   ·rw [if_pos h2, or_nil8 (good_one (by decide) (by decide) (by decide))]
   ·rw [if_neg h2]; rfl
 show atStep 4 (atStep 4 [] ([(1, 5)], [(1, 0, [])])) ([(4, 9)], [(2, 0, [])]) = v12K
 unfold atStep
 rw [if_pos (by decide), if_pos (by decide), one_step12, s2]
theorem ex12_starts : startsK exK12 = [0, 1, 4, 6, 10] := by decide
theorem ex12_pieces : piecesK exK12 = [(1, 3), (4, 5), (6, 9)] := by decide
theorem ex12_refine : refineK exK12 = [([(1, 3)], v1K), ([(4, 5)], v12K), ([(6, 9)], v2K)] := by
 unfold refineK
 rw [ex12_pieces]
 show [([((1 : Int), (3 : Int))], atK exK12 1), ([(4, 5)], atK exK12 4), ([(6, 9)], atK exK12 6)] = _
 rw [ex12_at1, ex12_at4, ex12_at6]
theorem ex12_group : (groupK (refineK exK12)).length = 3 := by
 have c1 : canonV v1K = v1K := canonV_self (one_good11 1 0 (by decide) (by decide)) fun y hy => by rw [List.mem_singleton.1 hy]; rfl
 have c2 : canonV v2K = v2K := canonV_self (one_good11 2 0 (by decide) (by decide)) fun y hy => by rw [List.mem_singleton.1 hy]; rfl
 have c3 : canonV v12K = v12K := canonV_self v12_good fun y hy => by simp [v12K] at hy; rcases hy with rfl | rfl <;> rfl
 rw [ex12_refine]
 unfold groupK
 simp only [List.foldl, gStep, c1, c2, c3]
 decide
theorem five12 (w : World) (a b c d e : Int) (t : TypeId) : NumR (w.alloc (.cells #[.int .u64 a, .int .u64 b, .int .u64 c, .int .u64 d, .int .u64 e] t)) (.slice (some ⟨w.heap.size, 0, none⟩) 5 5) [a, b, c, d, e] := by
 refine ⟨_, _, rfl, (by show (5 : Nat) ≤ maxLen; decide), fun _ => ⟨w.heap.size, 0, rfl, fun i x hx => ?_⟩⟩
 match i, hx with
 | 0, hx => simp at hx; subst hx; simp
 | 1, hx => simp at hx; subst hx; simp
 | 2, hx => simp at hx; subst hx; simp
 | 3, hx => simp at hx; subst hx; simp
 | 4, hx => simp at hx; subst hx; simp
theorem three12 (w : World) (a b c d e f : Int) (t : TypeId) : IvsAt (w.alloc (.cells #[.int .u64 a, .int .u64 b, .int .u64 c, .int .u64 d, .int .u64 e, .int .u64 f] t)) (.slice (some ⟨w.heap.size, 0, none⟩) 3 3) [(a, b), (c, d), (e, f)] := by
 refine ⟨_, _, rfl, (by show (3 : Nat) ≤ 1048576; decide), fun _ => ⟨w.heap.size, 0, rfl, fun i x hx => ?_⟩⟩
 match i, hx with
 | 0, hx => simp at hx; subst hx; exact ⟨by simp, by simp⟩
 | 1, hx => simp at hx; subst hx; exact ⟨by simp, by simp⟩
 | 2, hx => simp at hx; subst hx; exact ⟨by simp, by simp⟩
theorem refine_mid {F : List (List Iv × List (Int × Int × List Iv))} (hs : smallK F) : midI (refineK F) := by
 have h1 := piecesK_len F
 have h2 := flatK_len (n := 20) F fun x hx => (hs.2 x hx).1
 have h3 := hs.1
 have h4 : (flatK (refineK F)).length = (piecesK F).length := by
  unfold refineK flatK
  induction piecesK F with
  | nil => rfl
  | cons p P ih => rw [List.map_cons, List.flatMap_cons, List.length_append, ih, List.length_cons]; simp; omega
 refine ⟨by unfold refineK; rw [List.length_map]; omega, by omega⟩
set_option maxRecDepth 100000 in
set_option maxHeartbeats 4000000 in
theorem alive12_any (w : World) (hg : DebT w) : Calls Tryz.prog 16 #[] w (IsEnd true w) := by
 have HG_0 := Lib.hid hg; clear hg
 have K1 := Lib.hid (fun B W (h : KnoS W (.slice (some ⟨B, 0, none⟩) 2 2) exK12) => (by have k := starts_of exK12 (.slice (some ⟨B, 0, none⟩) 2 2) W h.m exK12_good exK12_small.midI; rw [ex12_starts] at k; exact k : Calls Tryz.prog 18 #[.slice (some ⟨B, 0, none⟩) 2 2] W (IsNums [0, 1, 4, 6, 10] W)))
 have K2 := Lib.hid (fun B W (h : KnoS W (.slice (some ⟨B, 0, none⟩) 2 2) exK12) => (by have k := pieces_any exK12 (.slice (some ⟨B, 0, none⟩) 2 2) W h exK12_good exK12_small.midI; rw [ex12_pieces] at k; exact k : Calls Tryz.prog 21 #[.slice (some ⟨B, 0, none⟩) 2 2] W (IsOwnR [(1, 3), (4, 5), (6, 9)] W)))
 have K3 := Lib.hid (fun B W (hg : DebT W) (h : KnoS W (.slice (some ⟨B, 0, none⟩) 2 2) exK12) => refine_any exK12 (.slice (some ⟨B, 0, none⟩) 2 2) W hg h exK12_good exK12_small.midI exK12_small.deep)
 have K4 := Lib.hid (fun v W (h : KnoS W v (refineK exK12)) => group_any (refineK exK12) v W h (refineK_good exK12_good) (refine_mid exK12_small) fun n hn => pdqK12 (Nat.le_trans hn (by rw [ex12_refine]; decide)))
 have KE := Lib.hid (fun s t W h h2 => (by have k := equalU_any [0, 1, 4, 6, 10] [0, 1, 4, 6, 10] s t W h h2; rw [show decide ((([0, 1, 4, 6, 10] : List Int)) = [0, 1, 4, 6, 10]) = true from by simp] at k; exact k : Calls Tryz.prog 17 #[s, t] W (IsEnd true W)))
 have KS := Lib.hid (fun s t W h h2 => (by have k := refSame_any [(1, 3), (4, 5), (6, 9)] [(1, 3), (4, 5), (6, 9)] s t W h h2; rw [show decide (([(1, 3), (4, 5), (6, 9)] : List Iv) = [(1, 3), (4, 5), (6, 9)]) = true from by simp] at k; exact k : Calls Tryz.prog 20 #[s, t] W (IsEnd true W)))
 have HL3 := Lib.hid (And.intro (show (refineK exK12).length = 3 by rw [ex12_refine]; rfl) ex12_group)
 obtain ⟨w1, hw1⟩ : ∃ w', w.alloc (.cells #[.int .u64 1, .int .u64 5] 35) = w' := ⟨_, rfl⟩
 have h : Below w.heap.size w w1 := hw1 ▸ below_new w _
 have HG_1 := Lib.hid (HG_0.out.here h)
 clear HG_0
 have HB_1 := Lib.hid h
 clear h
 have HI_1 := Lib.hid (hw1 ▸ iv_one w 1 5 35 _ rfl)
 obtain ⟨w2, hw2⟩ : ∃ w', w1.alloc (.cells #[.int .u64 1, .int .u64 0, .slice none 0 0] 51) = w' := ⟨_, rfl⟩
 have h : Below w1.heap.size w1 w2 := hw2 ▸ below_new w1 _
 have HG_2 := Lib.hid (HG_1.out.here h)
 clear HG_1
 have HI_2 := Lib.hid (HI_1.out.call h)
 clear HI_1
 have HB_2 := Lib.hid (below_call HB_1.out h)
 clear h
 have HU_2 := Lib.hid (show VecS w2 (.slice (some ⟨w1.heap.size, 0, none⟩) 1 1) [(1, 0, [])] from vec_lit11 (by rw [← hw2]; simp) (by rw [← hw2]; simp) (by rw [← hw2]; simp) (by omega) (by omega))
 obtain ⟨w3, hw3⟩ : ∃ w', w2.alloc (.cells #[.int .u64 4, .int .u64 9] 35) = w' := ⟨_, rfl⟩
 have h : Below w2.heap.size w2 w3 := hw3 ▸ below_new w2 _
 have HG_3 := Lib.hid (HG_2.out.here h)
 clear HG_2
 have HI_3 := Lib.hid (HI_2.out.call h)
 clear HI_2
 have HU_3 := Lib.hid (HU_2.out.call h)
 clear HU_2
 have HB_3 := Lib.hid (below_call HB_2.out h)
 clear h
 have HJ_3 := Lib.hid (hw3 ▸ iv_one w2 4 9 35 _ rfl)
 obtain ⟨w4, hw4⟩ : ∃ w', w3.alloc (.cells #[.int .u64 2, .int .u64 0, .slice none 0 0] 51) = w' := ⟨_, rfl⟩
 have h : Below w3.heap.size w3 w4 := hw4 ▸ below_new w3 _
 have HG_4 := Lib.hid (HG_3.out.here h)
 clear HG_3
 have HI_4 := Lib.hid (HI_3.out.call h)
 clear HI_3
 have HU_4 := Lib.hid (HU_3.out.call h)
 clear HU_3
 have HJ_4 := Lib.hid (HJ_3.out.call h)
 clear HJ_3
 have HB_4 := Lib.hid (below_call HB_3.out h)
 clear h
 have HY_4 := Lib.hid (show VecS w4 (.slice (some ⟨w3.heap.size, 0, none⟩) 1 1) [(2, 0, [])] from vec_lit11 (by rw [← hw4]; simp) (by rw [← hw4]; simp) (by rw [← hw4]; simp) (by omega) (by omega))
 obtain ⟨w5, hw5⟩ : ∃ w', w4.alloc (.cells #[.slice (some ⟨w.heap.size, 0, none⟩) 1 1, .slice (some ⟨w1.heap.size, 0, none⟩) 1 1, .slice (some ⟨w2.heap.size, 0, none⟩) 1 1, .slice (some ⟨w3.heap.size, 0, none⟩) 1 1] 49) = w' := ⟨_, rfl⟩
 have h : Below w4.heap.size w4 w5 := hw5 ▸ below_new w4 _
 have HG_5 := Lib.hid (HG_4.out.here h)
 clear HG_4
 have HI_5 := Lib.hid (HI_4.out.call h)
 clear HI_4
 have HU_5 := Lib.hid (HU_4.out.call h)
 clear HU_4
 have HJ_5 := Lib.hid (HJ_4.out.call h)
 clear HJ_4
 have HY_5 := Lib.hid (HY_4.out.call h)
 clear HY_4
 have HB_5 := Lib.hid (below_call HB_4.out h)
 clear h
 have HV_5 := Lib.hid (show KnoS w5 (.slice (some ⟨w4.heap.size, 0, none⟩) 2 2) exK12 from kno_two (by rw [← hw5]; simp) (by rw [← hw5]; simp) (by rw [← hw5]; simp) (by rw [← hw5]; simp) ⟨HI_5.out, one_all (by omega) (by omega), sane_lit _ _ _ (Nat.le_refl _), HU_5.out⟩ ⟨HJ_5.out, one_all (by omega) (by omega), sane_lit _ _ _ (Nat.le_refl _), HY_5.out⟩)
 clear HI_5
 clear HU_5
 clear HJ_5
 clear HY_5
 go_enter Tryz.func16, Tryz.ntmps16
 go_wp2_with fail
 clear hw1 hw2 hw3 hw4 hw5
 refine (K1.out _ _ HV_5.out).mono ?_
 rintro e w6 ⟨u, rfl, hu, h⟩
 replace hu := own_numR hu
 obtain ⟨pu, cu, rfl⟩ : ∃ p c, u = .slice p 5 c := (by obtain ⟨p, c, e, _⟩ := hu; exact ⟨p, c, e⟩)
 have HG_6 := Lib.hid (HG_5.out.here h)
 clear HG_5
 have HV_6 := Lib.hid (HV_5.out.call h)
 clear HV_5
 have HB_6 := Lib.hid (below_call HB_5.out h)
 clear h
 have HU_6 := Lib.hid (hu)
 clear hu
 obtain ⟨w7, hw7⟩ : ∃ w', w6.alloc (.cells #[.int .u64 0, .int .u64 1, .int .u64 4, .int .u64 6, .int .u64 10] 28) = w' := ⟨_, rfl⟩
 have h : Below w6.heap.size w6 w7 := hw7 ▸ below_new w6 _
 have HG_7 := Lib.hid (HG_6.out.here h)
 clear HG_6
 have HV_7 := Lib.hid (HV_6.out.call h)
 clear HV_6
 have HU_7 := Lib.hid (HU_6.out.call h)
 clear HU_6
 have HB_7 := Lib.hid (below_call HB_6.out h)
 clear h
 have HE_7 := Lib.hid (hw7 ▸ five12 w6 0 1 4 6 10 28)
 go_wp2_with fail
 clear hw7
 refine (KE.out _ _ _ HU_7.out HE_7.out).mono ?_
 rintro e w8 ⟨rfl, h⟩
 have HG_8 := Lib.hid (HG_7.out.here h)
 clear HG_7
 have HV_8 := Lib.hid (HV_7.out.call h)
 clear HV_7
 have HU_8 := Lib.hid (HU_7.out.call h)
 clear HU_7
 have HE_8 := Lib.hid (HE_7.out.call h)
 clear HE_7
 have HB_8 := Lib.hid (below_call HB_7.out h)
 clear h
 go_wp2_with fail
 refine (K2.out _ _ HV_8.out).mono ?_
 rintro e w9 ⟨u2, rfl, hu2, h⟩
 replace hu2 := hu2.ivs (by decide)
 obtain ⟨p2, c2, rfl, _⟩ := hu2.shape
 have HG_9 := Lib.hid (HG_8.out.here h)
 clear HG_8
 have HV_9 := Lib.hid (HV_8.out.call h)
 clear HV_8
 have HB_9 := Lib.hid (below_call HB_8.out h)
 clear h
 have HI_9 := Lib.hid (hu2)
 clear hu2
 obtain ⟨w10, hw10⟩ : ∃ w', w9.alloc (.cells #[.int .u64 1, .int .u64 3, .int .u64 4, .int .u64 5, .int .u64 6, .int .u64 9] 35) = w' := ⟨_, rfl⟩
 have h : Below w9.heap.size w9 w10 := hw10 ▸ below_new w9 _
 have HG_10 := Lib.hid (HG_9.out.here h)
 clear HG_9
 have HV_10 := Lib.hid (HV_9.out.call h)
 clear HV_9
 have HI_10 := Lib.hid (HI_9.out.call h)
 clear HI_9
 have HB_10 := Lib.hid (below_call HB_9.out h)
 clear h
 have HJ_10 := Lib.hid (hw10 ▸ three12 w9 1 3 4 5 6 9 35)
 go_wp2_with fail
 clear hw10
 refine (KS.out _ _ _ HI_10.out HJ_10.out).mono ?_
 rintro e w11 ⟨rfl, h⟩
 have HG_11 := Lib.hid (HG_10.out.here h)
 clear HG_10
 have HV_11 := Lib.hid (HV_10.out.call h)
 clear HV_10
 have HI_11 := Lib.hid (HI_10.out.call h)
 clear HI_10
 have HJ_11 := Lib.hid (HJ_10.out.call h)
 clear HJ_10
 have HB_11 := Lib.hid (below_call HB_10.out h)
 clear h
 go_wp2_with fail
 refine (K3.out _ _ HG_11.out HV_11.out).mono ?_
 rintro e w12 ⟨u3, rfl, hu3, _, h⟩
 obtain ⟨p3, c3, rfl⟩ := hu3.m.shape
 rw [HL3.out.1]
 have HG_12 := Lib.hid (HG_11.out.here h)
 clear HG_11
 have HV_12 := Lib.hid (HV_11.out.call h)
 clear HV_11
 have HB_12 := Lib.hid (below_call HB_11.out h)
 clear h
 clear hu3
 go_wp2_with fail
 refine (K3.out _ _ HG_12.out HV_12.out).mono ?_
 rintro e w13 ⟨u4, rfl, hu4, _, h⟩
 obtain ⟨p4, c4, rfl⟩ := hu4.m.shape
 have HG_13 := Lib.hid (HG_12.out.here h)
 clear HG_12
 have HV_13 := Lib.hid (HV_12.out.call h)
 clear HV_12
 have HB_13 := Lib.hid (below_call HB_12.out h)
 clear h
 have HR_13 := Lib.hid (hu4)
 clear hu4
 go_wp2_with fail
 refine (K4.out _ _ HR_13.out).mono ?_
 rintro e w14 ⟨u5, rfl, hu5, _, h⟩
 obtain ⟨p5, c5, rfl⟩ := hu5.m.shape
 rw [HL3.out.2]
 have HG_14 := Lib.hid (HG_13.out.here h)
 clear HG_13
 have HV_14 := Lib.hid (HV_13.out.call h)
 clear HV_13
 have HR_14 := Lib.hid (HR_13.out.call h)
 clear HR_13
 have HB_14 := Lib.hid (below_call HB_13.out h)
 clear h
 clear hu5
 go_wp2_with fail
 go_ret
 exact ⟨rfl, HB_14.out⟩
end Go.Proofs.YtcajknjhkabhjaaGreatDoor
namespace Go.Proofs.YtcajknjhkabhjaaGreatDoor
open Go.RowKit
theorem knoArg.right12 {w : World} {v : Value} (h : knoArg w v) : (∃ p n c, v = .slice p n c) ∧ ∃ b, (∀ W, Below w.heap.size w W → Calls Tryz.prog 15 #[v] W (IsEnd b W)) ∧ (b = true → ∃ F, KnoS w v F ∧ smallK F ∧ GoodK F) := by
 obtain ⟨⟨p, n, c, rfl⟩, b0, h1, h2⟩ := h.few
 refine ⟨⟨p, n, c, rfl⟩, ?_⟩
 cases b0 with
 | false =>
   refine ⟨false, fun W hb => ?_, fun e => by cases e⟩
   have K := Lib.hid (h1 W hb)
   clear h1 h2 h
   go_enter Tryz.func15, Tryz.ntmps15
   go_wp2_with (first | (go_at_call 35; refine K.out.mono ?_; rintro e w1 ⟨rfl, h1⟩))
   go_ret
   exact ⟨rfl, h1⟩
 | true =>
   obtain ⟨F, hF, hs⟩ := h2 rfl
   have h64 := hF.m.all1
   refine ⟨rightK F, fun W hb => ?_, fun e => ⟨F, hF, hs, good_of_rightK h64.1 h64.2 e⟩⟩
   have K := Lib.hid (h1 W hb)
   have K2 := Lib.hid (fun W' (hb' : Below W.heap.size W W') => refRight11_any F (.slice p n c) W' ((hF.m.call hb).call hb'))
   generalize rightK F = rb at *
   clear h1 h2 h hF hs h64
   go_enter Tryz.func15, Tryz.ntmps15
   go_wp2_with (first | (go_at_call 35; refine K.out.mono ?_; rintro e w1 ⟨rfl, h1⟩; have H1 := Lib.hid h1; clear h1) | (go_at_call 54; refine (K2.out _ H1.out).mono ?_; rintro e w2 ⟨rfl, h2⟩))
   go_ret
   exact ⟨rfl, below_call H1.out h2⟩
end Go.Proofs.YtcajknjhkabhjaaGreatDoor
namespace Go.Proofs.YtcajknjhkabhjaaGreatDoor
open Go.RowKit
section
variable {W W1 : World} {B T : Nat}
theorem numE_low {B1 T1 : Nat} {v : Value} {n : Nat} (h : NumE W B1 T1 v n) (hB : B ≤ B1) (hT : T1 ≤ W.heap.size) (hb : Below W.heap.size W W1) : NumE W1 B W1.heap.size v n :=
 (soft_low9 (h.call hT hb).soft hB).num
theorem numW_low {B1 T1 : Nat} {v : Value} {ns : List Nat} (h : NumW W B1 T1 v ns) (hB : B ≤ B1) (hT : T1 ≤ W.heap.size) (hb : Below W.heap.size W W1) : NumW W1 B W1.heap.size v ns :=
 ((h.call hT hb).soft.low hB).numW
theorem cells_list (a : Addr) (n : Nat) (h : ∀ j, j < n → ∃ u, W.cell? (a.add j) = some u) : ∃ l : List Value, l.length = n ∧ ∀ j u, l[j]? = some u → W.cell? (a.add j) = some u := by
 refine ⟨(List.range n).map fun j => (W.cell? (a.add j)).getD (.slice none 0 0), by simp, fun j u hu => ?_⟩
 rw [List.getElem?_map] at hu
 obtain ⟨i, hi, rfl⟩ := Option.map_eq_some_iff.1 hu
 have hlt : j < n := by have := (List.getElem?_eq_some_iff.1 hi).1; simpa using this
 have hij : j = i := by rw [List.getElem?_range hlt] at hi; exact Option.some.inj hi
 subst hij
 obtain ⟨u, hu⟩ := h j hlt
 rw [hu]
 rfl
theorem num_cells {b o n c : Nat} {sh : List (Nat × List Nat)} (h : NumK W B T (.slice (some ⟨b, o, none⟩) n c) sh) : ∃ l : List Value, l.length = n * 2 ∧ (∀ j u, l[j]? = some u → W.cell? ((⟨b, o, none⟩ : Addr).add j) = some u) ∧
 ∀ i x, sh[i]? = some x → ∃ s u, l[i * 2]? = some s ∧ l[i * 2 + 1]? = some u ∧ NumE W B T s x.1 ∧ NumW W B T u x.2 := by
 obtain ⟨p, cap, e, _, h3⟩ := h
 cases e
 by_cases hne : sh = []
 ·subst hne
  exact ⟨[], rfl, fun j u hu => (by simp at hu), fun i x hx => (by simp at hx)⟩
 ·obtain ⟨b, o, e, _, _, h6⟩ := h3 hne
  cases e
  have hc : ∀ j, j < sh.length * 2 → ∃ u, W.cell? ((⟨b, o, none⟩ : Addr).add j) = some u := fun j hj => by
   have hi : j / 2 < sh.length := by omega
   obtain ⟨s, u, c0, c1, _⟩ := h6 (j / 2) sh[j / 2] (by simp [hi])
   rw [Addr.add_lit]
   rcases Nat.mod_two_eq_zero_or_one j with hm | hm
   ·rw [show o + j = o + j / 2 * 2 by omega]; exact ⟨s, c0⟩
   ·rw [show o + j = o + j / 2 * 2 + 1 by omega]; exact ⟨u, c1⟩
  obtain ⟨l, hl, hlc⟩ := cells_list (⟨b, o, none⟩ : Addr) _ hc
  have hat : ∀ j u, j < sh.length * 2 → W.cell? ⟨b, o + j, none⟩ = some u → l[j]? = some u := fun j u hj hu => by
   have hy : l[j]? = some (l[j]'(by omega)) := by simp [hl, hj]
   have h9 := hlc _ _ hy
   rw [Addr.add_lit, hu] at h9
   rw [hy, ← Option.some.inj h9]
  refine ⟨l, hl, hlc, fun i x hx => ?_⟩
  obtain ⟨s, u, c0, c1, k1, k2⟩ := h6 i x hx
  have hi := (List.getElem?_eq_some_iff.1 hx).1
  exact ⟨s, u, hat _ _ (by omega) c0, hat _ _ (by omega) (by rw [show o + (i * 2 + 1) = o + i * 2 + 1 by omega]; exact c1), k1, k2⟩
theorem app_num {B1 B2 T1 T2 b n : Nat} {u : Value} {s1 s2 : List (Nat × List Nat)} (h1 : NumK W B1 T1 (.slice (some ⟨b, 0, none⟩) n n) s1) (h2 : NumK W B2 T2 u s2) (hs : SaneE u) (hB1 : B ≤ B1) (hB2 : B ≤ B2) (hT1 : T1 ≤ W.heap.size) (hT2 : T2 ≤ W.heap.size) (hB : B ≤ W.heap.size)
 (hl : s1.length + s2.length ≤ 100000) (T0 ty : TypeId) (ht : Tryz.prog.underlying T0 = some (.slice 49)) :
 ∃ p c W1, (Builtin.append_ #[T0, T0] ty #[.slice (some ⟨b, 0, none⟩) n n, u]).run Tryz.prog W = .ok (.slice p (s1 ++ s2).length c) W1 ∧ NumK W1 B W1.heap.size (.slice p (s1 ++ s2).length c) (s1 ++ s2) ∧ Below W.heap.size W W1 := by
 obtain ⟨i0, hi', hz0, hz1, hz2⟩ := info_parts infoFr
 obtain ⟨p2, c2, e2⟩ : ∃ p c, u = .slice p s2.length c := by obtain ⟨p, c, e, _⟩ := h2; exact ⟨p, c, e⟩
 subst e2
 have hn : n = s1.length := by obtain ⟨_, _, e, _⟩ := h1; cases e; rfl
 have hml : s1.length + s2.length ≤ maxLen := by unfold maxLen; omega
 have low : NumK W B W.heap.size (.slice (some ⟨b, 0, none⟩) n n) s1 := by
  obtain ⟨p, cap, e, h2, h3⟩ := h1
  refine ⟨p, cap, e, h2, fun hne => ?_⟩
  obtain ⟨b3, o3, h5, h6, h7, h8⟩ := h3 hne
  refine ⟨b3, o3, h5, by omega, by omega, fun i x hx => ?_⟩
  obtain ⟨s, u, c0, c1, k1, k2⟩ := h8 i x hx
  exact ⟨s, u, c0, c1, numE_low k1 hB1 hT1 (Below.refl _ _), numW_low k2 hB1 hT1 (Below.refl _ _)⟩
 by_cases hz : s2 = []
 ·subst hz
  have hr : (Builtin.append_ #[T0, T0] ty #[.slice (some ⟨b, 0, none⟩) n n, .slice p2 ([] : List (Nat × List Nat)).length c2]).run Tryz.prog W = .ok (.slice (some ⟨b, 0, none⟩) n n) W := by
   rw [List.length_nil] at hs ⊢
   cases p2 with
   | none =>
     obtain ⟨_, rfl⟩ := hs.1 _ _ rfl
     simp [Builtin.append_, run_underlying ht, sizeOf, typeInfo, hi', Builtin.lenOf, Builtin.firstCells, storeCells]
   | some a2 =>
     have hfc := run_firstCells_some (P := Tryz.prog) W i0.size 0 a2 0 c2 [] (by simp) (fun j u hu => by simp at hu)
     simp [Builtin.append_, run_underlying ht, sizeOf, typeInfo, hi', Builtin.lenOf, hfc, storeCells]
  rw [List.append_nil, ← hn]
  exact ⟨_, _, W, hr, low, Below.refl _ _⟩
 ·have hpos : 0 < s2.length := List.length_pos_iff.2 hz
  obtain ⟨b2, o2, e2⟩ : ∃ b2 o2, p2 = some ⟨b2, o2, none⟩ := by
   obtain ⟨_, _, e, _, h3⟩ := h2
   cases e
   obtain ⟨b2, o2, e, _⟩ := h3 hz
   exact ⟨b2, o2, e⟩
  subst e2
  obtain ⟨l1, hl1, hc1, he1⟩ := num_cells h1
  obtain ⟨l2, hl2, hc2, he2⟩ := num_cells h2
  obtain ⟨v', W1, hr, hown, hg⟩ := run_append_arg_grows (P := Tryz.prog) W T0 ty 49 i0 (.agg #[.slice none 0 0, .slice none 0 0]) 2 48 ht hi' hz0 hz1 hz2 rfl (by decide) ⟨b, 0, none⟩ n n l1 hl1 hc1 ⟨b2, o2, none⟩ s2.length c2 l2 hl2 hc2 (by omega) (by rw [hn]; exact hml) (by omega)
  have hb : Below W.heap.size W W1 := (Apart.of_grown (q := fun _ => False) hg (fun r e => by cases e)).below (Nat.le_refl _) fun _ _ h => h
  have hown2 := hown
  rcases hown.2 with ⟨_, h0⟩ | ⟨g, cap, cur, rfl, hbg, hgg, hnc, hcm, _⟩
  ·omega
  ·refine ⟨some ⟨g, 0, none⟩, cap, W1, by rw [List.length_append, ← hn]; exact hr, ⟨_, cap, rfl, by rw [List.length_append]; exact hml, fun _ => ⟨g, 0, rfl, by omega, (hown2.lt g rfl).2, fun i x hx => ?_⟩⟩, hb⟩
   have hi2 := (List.getElem?_eq_some_iff.1 hx).1
   rw [List.length_append] at hi2
   rcases Nat.lt_or_ge i s1.length with hi | hi
   ·rw [List.getElem?_append_left hi] at hx
    obtain ⟨s, u, g0, g1, k1, k2⟩ := he1 i x hx
    refine ⟨s, u, ?_, ?_, numE_low k1 hB1 hT1 hb, numW_low k2 hB1 hT1 hb⟩
    ·rw [Nat.zero_add, hown2.cellAt _ (by omega), List.getElem?_append_left (by omega)]; exact g0
    ·rw [Nat.zero_add, hown2.cellAt _ (by omega), List.getElem?_append_left (by omega)]; exact g1
   ·rw [List.getElem?_append_right hi] at hx
    obtain ⟨s, u, g0, g1, k1, k2⟩ := he2 (i - s1.length) x hx
    refine ⟨s, u, ?_, ?_, numE_low k1 hB2 hT2 hb, numW_low k2 hB2 hT2 hb⟩
    ·rw [Nat.zero_add, hown2.cellAt _ (by omega), List.getElem?_append_right (by omega), show i * 2 - l1.length = (i - s1.length) * 2 by omega]; exact g0
    ·rw [Nat.zero_add, hown2.cellAt _ (by omega), List.getElem?_append_right (by omega), show i * 2 + 1 - l1.length = (i - s1.length) * 2 + 1 by omega]; exact g1
end
theorem numE_most {w : World} {B T : Nat} {v : Value} {n : Nat} (h : NumE w B T v n) : n ≤ 9223372036854775807 := by
 obtain ⟨_, _, _, h2, _⟩ := h
 unfold maxLen at h2
 omega
theorem numW_most {w : World} {B T : Nat} {v : Value} {ns : List Nat} (h : NumW w B T v ns) : ns.length ≤ 9223372036854775807 := by
 obtain ⟨_, _, _, h2, _⟩ := h
 unfold maxLen at h2
 omega
structure LpF (B T fb : Nat) (w3 : World) (v s u : Value) (sh : List (Nat × List Nat)) (n : Nat) (ns : List Nat) (W : World) : Prop where
 num : NumK W B T v sh
 ap : Apart (fun k => B ≤ k ∧ k < T) w3 W
 c0 : W.cell? ⟨fb, 0, none⟩ = some s
 c1 : W.cell? ⟨fb, 1, none⟩ = some u
 ne : NumE W B T s n
 nw : NumW W B T u ns
theorem LpF.put {B T fb g j n : Nat} {w3 W : World} {v s u : Value} {sh : List (Nat × List Nat)} {ns : List Nat} (h : LpF B T fb w3 v s u sh n ns W) {z : Int} (hz : W.cell? ⟨g, j, none⟩ = some (.int .u64 z)) (hB : B ≤ g) (hT : g < T) (y : Int) : LpF B T fb w3 v s u sh n ns (W.setCell ⟨g, j, none⟩ (.int .u64 y)) := by
 obtain ⟨p, c, e⟩ := h.ne.slice
 obtain ⟨p', c', e'⟩ := h.nw.slice
 subst e
 subst e'
 exact ⟨h.num.setI hz y, h.ap.trans (Apart.set _ _ ⟨hB, hT⟩), kept_slice hz h.c0 _, kept_slice hz h.c1 _, h.ne.set _ _ _, h.nw.setI hz y⟩
def IsNf (sh : List (Nat × List Nat)) (w : World) (e : Ending) (w' : World) : Prop := ∃ g n, e = .returned (.slice (some ⟨g, 0, none⟩) n n) ∧ NumK w' w.heap.size w'.heap.size (.slice (some ⟨g, 0, none⟩) n n) sh ∧ Below w.heap.size w w'
def IsNg (sh : List (Nat × List Nat)) (w : World) (e : Ending) (w' : World) : Prop := ∃ u, e = .returned u ∧ SaneE u ∧ NumK w' w.heap.size w'.heap.size u sh ∧ Below w.heap.size w w'
attribute [-go_sem] Builtin.append_
set_option maxRecDepth 100000 in
set_option maxHeartbeats 4000000 in
theorem lawKeep12_any (va : Value) (w : World) (hg : DebT w) (ha : knoArg w va) :
 Calls Tryz.prog 8 #[va] w (IsEnd true w) := by
 have KL := Lib.hid (fun W h => alive12_any W h)
 have HG_0 := Lib.hid hg; clear hg
 obtain ⟨⟨pa, na, ca, rfl⟩, ba, hfa, hva⟩ := ha.right12
 have KFa := Lib.hid hfa; have HVa := Lib.hid hva; clear hfa hva ha
 go_enter Tryz.func8, Tryz.ntmps8
 go_wp2_with fail
 refine (KFa.out _ (Below.refl _ _)).mono ?_
 rintro e w1 ⟨rfl, h⟩
 have HG_1 := Lib.hid (HG_0.out.here h)
 clear HG_0
 have HB_1 := Lib.hid h
 clear h
 cases ba with
 | false =>
   go_wp2_with fail
   refine (KL.out _ HG_1.out).mono ?_
   rintro e w2 ⟨rfl, h⟩
   have HG_2 := Lib.hid (HG_1.out.here h)
   clear HG_1
   have HB_2 := Lib.hid (below_call HB_1.out h)
   clear h
   go_wp2_with fail
   go_ret
   exact ⟨rfl, HB_2.out⟩
 | true =>
   obtain ⟨A, hva, hsa, hgood⟩ := HVa.out (by trivial)
   have HVa_1 := Lib.hid (hva.call HB_1.out)
   clear hva
   have KA := Lib.hid (fun W (h : KnoS W (.slice pa na ca) A) => refApart12_any A (.slice pa na ca) W h.m hgood hsa)
   obtain ⟨ap, hap⟩ : ∃ ap, apB A = ap := ⟨_, rfl⟩
   rw [hap] at KA; clear hap
   go_wp2_with fail
   refine (KA.out _ HVa_1.out).mono ?_
   rintro e w2 ⟨rfl, h⟩
   have HG_2 := Lib.hid (HG_1.out.here h)
   clear HG_1
   have HVa_2 := Lib.hid (HVa_1.out.call h)
   clear HVa_1
   have HB_2 := Lib.hid (below_call HB_1.out h)
   clear h
   cases ap with
   | false =>
     go_wp2_with fail
     refine (KL.out _ HG_2.out).mono ?_
     rintro e w3 ⟨rfl, h⟩
     have HG_3 := Lib.hid (HG_2.out.here h)
     clear HG_2
     have HVa_3 := Lib.hid (HVa_2.out.call h)
     clear HVa_2
     have HB_3 := Lib.hid (below_call HB_2.out h)
     clear h
     go_wp2_with fail
     go_ret
     exact ⟨rfl, HB_3.out⟩
   | true =>
     have K1 := Lib.hid (fun W (h : KnoS W (.slice pa na ca) A) => sClone_any A (.slice pa na ca) W h hsa)
     have K2 := Lib.hid (fun v W (hg : DebT W) (h : KnoS W v A) => ((refine_full A v W hg h hgood hsa.midI hsa.deep).mono (fun e w' ⟨⟨u, h1, h2, h3, h4⟩, g, n, h5⟩ => ⟨g, n, h5, by rw [h5] at h1; rw [Ending.returned.inj h1]; exact h3, h4⟩) : Calls Tryz.prog 26 #[v] W (IsNf (shK (refineK A)) W)))
     have K3 := Lib.hid (fun v W (h : KnoS W v A) => ((group_any A v W h hgood hsa.midI fun n hn => pdqK12 (Nat.le_trans hn hsa.1)).mono (fun e w' ⟨u, h1, h2, h3, h4⟩ => ⟨u, h1, h2.sane, h3, h4⟩) : Calls Tryz.prog 32 #[v] W (IsNg (shK (groupK A)) W)))
     have K4 := Lib.hid (fun v W (h : KnoS W v A) (h' : KnoS W (.slice pa na ca) A) => (by have k := refSame11_i A A v (.slice pa na ca) W h.m.i h'.m.i; rwa [show decide (A = A) = true from by simp] at k : Calls Tryz.prog 27 #[v, .slice pa na ca] W (IsEnd true W)))
     have HSL := Lib.hid (show (shK (refineK A)).length + (shK (groupK A)).length ≤ 100000 by
      have h1 := (refine_mid hsa).1
      have h2 := groupK_len A
      have h3 := hsa.1
      unfold shK
      rw [List.length_map, List.length_map]
      omega)
     clear hgood hsa
     generalize shK (refineK A) = s1 at *
     generalize shK (groupK A) = s2 at *
     go_wp2_with fail
     refine (K1.out _ HVa_2.out).mono ?_
     rintro e w3 ⟨u, rfl, hu, _, h⟩
     obtain ⟨pu, cu, rfl⟩ := hu.m.shape
     have HU := Lib.hid hu
     have H23 := Lib.hid h
     clear hu h
     go_wp2_with fail
     refine (K2.out _ _ (HG_2.out.here H23.out) HU.out).mono ?_
     rintro e w4 ⟨gr, n1, rfl, hn1, h⟩
     have HN1 := Lib.hid hn1
     have H34 := Lib.hid h
     clear hn1 h
     go_wp2_with fail
     refine (K3.out _ _ (HU.out.call H34.out)).mono ?_
     rintro e w5 ⟨u2, rfl, hs2, hn2, h⟩
     obtain ⟨p2, c2, e2⟩ : ∃ p c, u2 = .slice p s2.length c := by obtain ⟨p, c, e, _⟩ := hn2; exact ⟨p, c, e⟩
     subst e2
     have h35 := below_call H34.out h
     obtain ⟨pv, cv, w6, hr, hnv, hbv⟩ := app_num (B := w3.heap.size) (HN1.out.call (Nat.le_refl _) h) hn2 hs2 (Nat.le_refl _) H34.out.size h.size (Nat.le_refl _) h35.size HSL.out 23 23 Tryz.underlying23
     have H36 := Lib.hid (below_call h35 hbv)
     clear h35 hbv hn2 hs2 h HN1
     generalize s1 ++ s2 = sh at *
     obtain ⟨n9, hn9⟩ : ∃ n9, sh.length = n9 := ⟨_, rfl⟩
     rw [hn9] at hr hnv
     have HN := Lib.hid hn9; clear hn9
     have hn9m : n9 ≤ 9223372036854775807 := by obtain ⟨_, _, _, h2, _⟩ := hnv; rw [HN.out] at h2; unfold maxLen at h2; omega
     have HNV := Lib.hid hnv; clear hnv
     go_wp2_with fail
     clear hr
     go_loopw [26] (fun x wr => ∃ k : Nat, x = .int .i64 k ∧ k ≤ n9 ∧ NumK wr w3.heap.size w6.heap.size (.slice pv n9 cv) sh ∧ Apart (fun k => w3.heap.size ≤ k ∧ k < w6.heap.size) w6 wr) (fun x _ => n9 - (intOf x).toNat)
     case atStart => exact ⟨0, rfl, Nat.zero_le _, HNV.out, Apart.refl _ _⟩
     case round =>
      clear HNV
      obtain ⟨k, rfl, hk, hnu, hap⟩ := hrel
      by_cases hlt : k < n9
      ·obtain ⟨⟨n, ns⟩, hn⟩ : ∃ x, sh[k]? = some x := ⟨sh[k]'(by rw [HN.out]; exact hlt), by simp⟩
       obtain ⟨b, o, cp, p1, c1, p2, c2, e, hBb, hTb, d0, d1, e0, e1⟩ := hnu.at hn
       rw [HN.out] at e
       cases e
       obtain ⟨wE, hwE⟩ : ∃ wE, wr.alloc (.cells #[.slice p1 n c1, .slice p2 ns.length c2] 49) = wE := ⟨_, rfl⟩
       obtain ⟨fb, hfb⟩ : ∃ fb, wr.heap.size = fb := ⟨_, rfl⟩
       have hbE : Below wr.heap.size wr wE := hwE ▸ below_new wr _
       have hsz := hap.size
       have z0 : wE.cell? ⟨fb, 0, none⟩ = some (.slice p1 n c1) := by rw [← hwE, ← hfb]; simp
       have z1 : wE.cell? ⟨fb, 1, none⟩ = some (.slice p2 ns.length c2) := by rw [← hwE, ← hfb]; simp
       have HL1 : Hid (LpF w3.heap.size w6.heap.size fb w6 (.slice (some ⟨b, o, none⟩) n9 cv) (.slice p1 n c1) (.slice p2 ns.length c2) sh n ns wE) := Lib.hid ⟨hnu.call hsz hbE, hap.trans (Apart.of_below _ hbE), z0, z1, e0.call hsz hbE, e1.call hsz hbE⟩
       have i1 : (0 : Int) ≤ (k : Int) := by omega
       have i2 : (k : Int) < (n9 : Int) := by omega
       have hnm := numE_most e0
       have hnw := numW_most e1
       clear hn hnu hap e0 e1 hbE hsz
       go_wp2_with fail
       clear hwE d0 d1 z0 z1
       go_loopw [33] (fun x wz => ∃ j : Nat, x = .int .i64 j ∧ j ≤ n ∧ LpF w3.heap.size w6.heap.size fb w6 (.slice (some ⟨b, o, none⟩) n9 cv) (.slice p1 n c1) (.slice p2 ns.length c2) sh n ns wz) (fun x _ => n - (intOf x).toNat)
       case atStart => exact ⟨0, rfl, Nat.zero_le _, HL1.out⟩
       case round =>
        clear HL1
        obtain ⟨j, rfl, hj, hl⟩ := hrel
        have z0 := hl.c0
        have z1 := hl.c1
        have HL2 := Lib.hid hl; clear hl
        by_cases hjl : j < n
        ·obtain ⟨g, oh, y0, y1, rfl, hBg, hTg, a0, af0, a1, af1⟩ := HL2.out.ne.at hjl
         have j1 : (0 : Int) ≤ (j : Int) := by omega
         have j2 : (j : Int) < (n : Int) := by omega
         go_wp2_with fail
         go_roundw
         case rel => exact ⟨j + 1, by go_num, by omega, HL2.out.put a0 hBg hTg _⟩
         case measure => simp [intOf]; omega
        ·obtain rfl : j = n := by omega
         go_wp2_with fail
         clear z0 z1
         go_loopw [49] (fun x wz => ∃ i : Nat, x = .int .i64 i ∧ i ≤ ns.length ∧ LpF w3.heap.size w6.heap.size fb w6 (.slice (some ⟨b, o, none⟩) n9 cv) (.slice p1 j c1) (.slice p2 ns.length c2) sh j ns wz) (fun x _ => ns.length - (intOf x).toNat)
         case atStart => exact ⟨0, rfl, Nat.zero_le _, HL2.out⟩
         case round =>
          clear HL2
          obtain ⟨q, rfl, hq, hl⟩ := hrel
          have z1 := hl.c1
          have HL3 := Lib.hid hl; clear hl
          by_cases hql : q < ns.length
          ·obtain ⟨m, hm⟩ : ∃ m, ns[q]? = some m := ⟨ns[q], by simp [hql]⟩
           obtain ⟨bv, ov, cw, y0, y1, ph, ch, e, hBv, hTv, v0, v1, f0, f1, v2, hse⟩ := HL3.out.nw.at hm
           cases e
           have HM := Lib.hid hm; clear hm
           have hmm := numE_most hse
           have j1 : (0 : Int) ≤ (q : Int) := by omega
           have j2 : (q : Int) < (ns.length : Int) := by omega
           have t1 : ∀ y : Int, (wr.setCell ⟨bv, ov + q * 3 + 1, none⟩ (.int .u64 y)).cell? ⟨fb, 1, none⟩ = some (.slice (some ⟨bv, ov, none⟩) ns.length c2) := fun y => kept_slice v1 z1 _
           have t2 : ∀ y : Int, (wr.setCell ⟨bv, ov + q * 3 + 1, none⟩ (.int .u64 y)).cell? ⟨bv, ov + q * 3 + 2, none⟩ = some (.slice ph m ch) := fun y => kept_slice v1 v2 _
           clear hse v0 f0
           go_wp2_with fail
           go_loopw [68] (fun x wz => ∃ i : Nat, x = .int .i64 i ∧ i ≤ m ∧ LpF w3.heap.size w6.heap.size fb w6 (.slice (some ⟨b, o, none⟩) n9 cv) (.slice p1 j c1) (.slice (some ⟨bv, ov, none⟩) ns.length c2) sh j ns wz) (fun x _ => m - (intOf x).toNat)
           case atStart => exact ⟨0, rfl, Nat.zero_le _, HL3.out.put v1 hBv hTv _⟩
           case round =>
            clear z1 v1 f1 v2 t1 t2 HL3
            obtain ⟨i, rfl, hi, hl⟩ := hrel
            have z1 := hl.c1
            have HL4 := Lib.hid hl; clear hl
            by_cases hil : i < m
            ·obtain ⟨bv7, ov7, cv7, x0, x1, ph7, ch7, e, _, _, v0, v1, f0, f1, v2, hse⟩ := HL4.out.nw.at HM.out
             cases e
             obtain ⟨g, oh, r0, r1, rfl, hBg, hTg, a0, af0, a1, af1⟩ := hse.at hil
             have k1 : (0 : Int) ≤ (i : Int) := by omega
             have k2 : (i : Int) < (m : Int) := by omega
             clear hse
             go_wp2_with fail
             go_roundw
             case rel => exact ⟨i + 1, by go_num, by omega, HL4.out.put a1 hBg hTg _⟩
             case measure => simp [intOf]; omega
            ·obtain rfl : i = m := by omega
             go_wp2_with fail
             go_roundw
             case rel => exact ⟨q + 1, by go_num, by omega, HL4.out⟩
             case measure => simp [intOf]; omega
          ·obtain rfl : q = ns.length := by omega
           go_wp2_with fail
           go_roundw
           case rel => exact ⟨k + 1, by go_num, by omega, HL3.out.num, HL3.out.ap⟩
           case measure => simp [intOf]; omega
      ·obtain rfl : k = n9 := by omega
       obtain ⟨w7, rfl⟩ : ∃ x : World, x = wr := ⟨_, rfl⟩
       have H37 : Hid (Below w3.heap.size w3 w7) := Lib.hid (H36.out.trans (hap.below H36.out.size fun i hi hn => by omega))
       have H27 := Lib.hid (below_call H23.out H37.out)
       clear hap hnu
       go_wp2_with fail
       refine (KL.out _ (HG_2.out.here H27.out)).mono ?_
       rintro e w8 ⟨rfl, h⟩
       have H28 := Lib.hid (below_call H27.out h)
       have HU8 := Lib.hid (HU.out.call (below_call H37.out h))
       clear h
       go_wp2_with fail
       refine (K4.out _ _ HU8.out (HVa_2.out.call H28.out)).mono ?_
       rintro e w9 ⟨rfl, h⟩
       have H29 := Lib.hid (below_call H28.out h)
       clear h
       go_wp2_with fail
       go_ret
       exact ⟨rfl, below_call HB_2.out H29.out⟩
end Go.Proofs.YtcajknjhkabhjaaGreatDoor
namespace Go.Proofs.YtcajknjhkabhjaaGreatDoor
open Go.ChangeShapes Go.WideShapes Go.RowKit
theorem own : ownKnob Tryz.prog.godebug = none := by kernel_rfl
theorem et : Tryz.prog.globalNamed "errors.errorType" = some 0 := by kernel_rfl
theorem laidOut : laidOutB Tryz.prog = true := by kernel_rfl
noncomputable def laidL : List (String × DataW Unit) := Rows.atomsCutRow.laid
noncomputable def dataL : List (String × DataW Unit) := laidL.filter fun x => x.2.handleName?.isNone
theorem var_lt {P : Program} {W : World} {n : String} {g : Nat} {cs : Array Value} (hg : P.globalNamed n = some g) (h : W.var? P n = some cs) : g < W.heap.size := by
 unfold World.var? at h
 simp only [hg, Option.bind_some] at h
 rcases Nat.lt_or_ge g W.heap.size with h' | h'
 ·exact h'
 ·simp [Array.getElem?_eq_none h'] at h
theorem laid_one {W : World} {n : String} {d : DataW Unit} (h : laidMet Tryz.prog dataL W) (hd : (dataL.filter fun x => x.1 == n) = [(n, d)]) : laidMet Tryz.prog [(n, d)] W := by
 have h' := h.filter (fun x => x.1 == n)
 rw [hd] at h'
 exact h'
theorem deb_of_laid {W : World} (h : laidMetH Tryz.prog laidL W) : DebT W := by
 obtain ⟨h1, _⟩ := laidMetH_iff.1 h
 have h1' : laidMet Tryz.prog dataL W := h1
 intro W' hb
 have hp : Deb W := Lib.tabIs_of_head (k := .u8) (zs := debTab) (rest := []) gDeb (by kernel_rfl) Tryz.underlying289 Tryz.underlying5 (by kernel_rfl) (by kernel_rfl)
  (laid_one h1' (d := Lib.tabData .u8 debTab) (by kernel_rfl))
 exact var?_below hb gDeb (var_lt gDeb hp) hp
noncomputable def handleWorld (os : Os) : World :=
 let w0 := World.holding Tryz.prog os ⟨#[], #[], []⟩
 { w0 with heap := w0.heap.modify 0 fun
  | .cells _ t frozen => .cells #[.iface 191 (.agg #[.pointer (some ⟨3, 53, none⟩)])] t frozen
  | o => o }
noncomputable def laidWorld (os : Os) : World := (handleWorld os).layVars Tryz.prog dataL
theorem laidWorld_os (os : Os) : (laidWorld os).os = os := by
 unfold laidWorld
 rw [World.layVars_os]
 rfl
theorem laidWorld_met (os : Os) (args : Array Value) : laidMetH Tryz.prog laidL ((laidWorld os).forCall (fun _ _ => 0) ⟨#[], args, []⟩).memory := by
 refine laidMetH_of_parts ?_ (by kernel_rfl)
 show laidMet Tryz.prog dataL _
 have e1 : (dataL.filter fun x => (dataL.map (·.1)).contains x.1) = dataL := List.filter_eq_self.2 fun x hx => List.contains_iff_mem.2 (List.mem_map.2 ⟨x, hx, rfl⟩)
 have e2 : (dataL.filter fun x => !(dataL.map (·.1)).contains x.1) = [] := List.filter_eq_nil_iff.2 fun x hx => by rw [List.contains_iff_mem.2 (List.mem_map.2 ⟨x, hx, rfl⟩)]; simp
 have h : laidMet Tryz.prog dataL (laidWorld os) := laidMet_layVars (w0 := handleWorld os) (dataL.map (·.1)) [] (by rw [e1]; rfl) (by rw [e1]; kernel_rfl) (by rw [e1]; kernel_rfl) (by rw [e2]; exact LaidIn.none)
 exact h.of_heap (by simp [World.memory, World.forCall, Input.heap])
theorem laidWorld_shaped (os : Os) (args : Array Value) : ((laidWorld os).forCall (fun _ _ => 0) ⟨#[], args, []⟩).Shaped Tryz.prog := World.shaped_of_ZipB (by kernel_rfl) (by kernel_rfl)
set_option maxRecDepth 100000 in
theorem lift_law {G : World → Prop} (hG : ∀ W, laidMetH Tryz.prog laidL W → G W) {f : FuncId} {fn : Func} {s : ChangeSpec} {tb : TypeId} (os : Os) (started : os.Started) (H : Type) (enc : TypeId × Value → H)
 (hfn : Tryz.prog.funcs[f]? = some fn) (noInit : Tryz.prog.inits.idxOf? f = none) (hsv : s.vars = [])
 (hpar : ∀ t ∈ fn.params.toList, Tryz.prog.readableRec t = true ∧ t < Tryz.prog.types.size) (hres : fn.resultTypes = #[tb]) (hbool : Tryz.prog.underlying tb = some .bool)
 (hspec : ∀ ds : List (DataW H), ds.length = fn.params.toList.length → s.fn H (ds ++ []) = { results := [.lit (.bool true)], args := ds })
 (witness : ∃ (w : World) (tape : Tape) (i : Input), w.os = os ∧ (w.forCall tape i).Shaped Tryz.prog ∧ i.vars = [] ∧ Input.okWide Tryz.prog (w.forCall tape i) .any w.heap.size f i ∧
   ((s.pre enc Tryz.prog fn [] false (w.forCall tape i).memory i.args ∧ laidMetH Tryz.prog laidL (w.forCall tape i).memory) ∧ sizedMet enc Tryz.prog fn (OpenSpec.ofChange s) false (w.forCall tape i).memory i.args) ∧ ({} : Assume).holds Tryz.prog (lone (Frame.enter Tryz.prog f i.args .normal) [] (w.forCall tape i)))
 (walk : ∀ (W : World) (base : Nat) (args : Array Value) (ds : List (DataW H)) (p : List MemPlace), G W →
   (∀ (j : Nat) t v, fn.params[j]? = some t → args[j]? = some v → Value.okWide Tryz.prog W .any base t v) →
   DataW.TrodAll enc Tryz.prog W 0 (fun _ => true) true fn.params.toList args.toList ds p → (∀ x ∈ p, x.block < W.heap.size) →
   Calls Tryz.prog f args W (IsEnd true W)) :
 ReturnsInHanded {} Tryz.checked os f .any (fun w args => (s.pre enc Tryz.prog fn [] false w args ∧ laidMetH Tryz.prog laidL w) ∧ sizedMet enc Tryz.prog fn (OpenSpec.ofChange s) false w args)
  (s.post enc Tryz.prog fn false true false false) := by
 refine returnsInHanded_of_change_and (C := Tryz.checked) (X := fun w _ => laidMetH Tryz.prog laidL w) (fun _ _ _ hh h => h.of_heap hh) own started noInit hfn witness ?_
 intro W base args ds gs before hval hW _ _ hL _
 have hval' : ∀ (j : Nat) t v, fn.params[j]? = some t → args[j]? = some v → Value.okWide Tryz.prog W .any base t v := hval
 have hW1 : DataW.Whole enc Tryz.prog fn.params.toList s.vars false W args.toList ds gs before := hW
 obtain ⟨p, q, hA, hV, rfl, hfz, hnd⟩ := hW1
 have hA' : DataW.TrodAll enc Tryz.prog W 0 (fun _ => true) true fn.params.toList args.toList ds p := hA
 have hV' : DataW.TrodVars enc Tryz.prog W (fun _ => true) s.vars gs q := hV
 rw [hsv] at hV'
 obtain ⟨rfl, rfl⟩ : gs = [] ∧ q = [] := by
  cases gs with
  | nil => exact ⟨rfl, hV'⟩
  | cons g r => exact absurd hV' (by intro h; cases h)
 have hlt := hW.lt
 have hlen : ds.length = fn.params.toList.length := (trodAll_length hA').2
 refine (walk W base args ds p (hG _ hL) hval' hA' (fun x hx => hlt x (List.mem_append_left _ hx))).mono fun e W' he => ?_
 obtain ⟨he1, he2⟩ := he
 exact ⟨.bool true, he1, law_post laidOut hsv hpar hres hbool hW (hspec ds hlen) he2⟩
end Go.Proofs.YtcajknjhkabhjaaGreatDoor
