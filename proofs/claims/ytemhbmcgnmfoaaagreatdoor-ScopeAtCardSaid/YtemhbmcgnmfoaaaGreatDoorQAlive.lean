/- The example of chapter 11, in every state. Conditions: the contracts of package scope, and the fixed value of errors.errorType. -/
import Derived.Test.YtemhbmcgnmfoaaaGreatDoorKBits
import Derived.Test.YtemhbmcgnmfoaaaGreatDoorPAlive
import Derived.Test.YtemhbmcgnmfoaaaGreatDoorLPut
namespace Go.Proofs.YtemhbmcgnmfoaaaGreatDoor
open Go.RowKit
def exK : List (List Iv × List (Int × Int × List Iv)) := [([(1, 5)], [(1, 3, [])]), ([(4, 9)], [(2, 0, [])])]
def atK11 : List (Int × Int × List Iv) := [(1, 3, []), (2, 0, [])]
def badK11 : List (List Iv × List (Int × Int × List Iv)) := [([(2, 1)], [])]
theorem g15 : GoodL [((1 : Int), (5 : Int))] := good_one (by decide) (by decide) (by decide)
theorem g49 : GoodL [((4 : Int), (9 : Int))] := good_one (by decide) (by decide) (by decide)
theorem g19 : GoodL [((1 : Int), (9 : Int))] := good_one (by decide) (by decide) (by decide)
theorem one_good11 (r m : Int) (h0 : 0 ≤ m) (h1 : m ≤ 18446744073709551615) : GoodV [(r, m, ([] : List Iv))] := ⟨fun x hx => by rw [List.mem_singleton.1 hx]; exact ent10 h0 h1, List.pairwise_singleton _ _⟩
theorem exK_good : GoodK exK := fun x hx => by
  simp [exK] at hx
  rcases hx with rfl | rfl
  · exact ⟨g15, one_good11 1 3 (by decide) (by decide)⟩
  · exact ⟨g49, one_good11 2 0 (by decide) (by decide)⟩
theorem exK_small : smallK exK := ⟨by decide, fun x hx => by
  simp [exK] at hx
  rcases hx with rfl | rfl <;> exact ⟨by decide, by decide, fun y hy => by rw [List.mem_singleton.1 hy]; decide⟩⟩
theorem errF_good {x : List Iv × List (Int × Int × List Iv)} (h1 : GoodL x.1) (h2 : GoodV x.2) : errF x = 0 := by
  have h3 := (rightB_iff x.1).2 h1.can
  unfold rightB at h3
  unfold errF
  rw [if_pos (of_decide_eq_true h3)]
  have h4 := right_of_good h2
  unfold rightV at h4
  unfold vCode
  rw [Option.isNone_iff_eq_none.1 h4]
theorem good_chk {F : List (List Iv × List (Int × Int × List Iv))} (h : GoodK F) : chkE11 F = none := by
  unfold chkE11
  rw [chkK_none fun j x hx => errF_good (h x (List.mem_of_getElem? hx)).1 (h x (List.mem_of_getElem? hx)).2]
  rfl
theorem bad_code : codeE (chkE11 badK11) = 2 := by
  rw [chkE11_code]
  have h0 : errF ([((2 : Int), (1 : Int))], []) = 2 := by decide
  unfold kCode
  rw [chkK_some (F := badK11) (k := 0) (x := ([(2, 1)], [])) rfl (fun j y hj => absurd hj (Nat.not_lt_zero j)) (by rw [h0]; decide), h0]
theorem kn_one11 (r0 m : Int) (h0 : 0 ≤ m) (h1 : m ≤ 18446744073709551615) (r : Int) : knV [(r0, m, ([] : List Iv))] r = if r = r0 then [(0, m)] else [] := by
  by_cases h : r = r0
  · subst h
    rw [if_pos rfl, ← known_nil h0 h1]
    exact knV_mem (one_good11 r m h0 h1).asc (x := (r, m, [])) (by simp)
  · rw [if_neg h]
    exact knV_none fun x hx e => by rw [List.mem_singleton.1 hx] at e; exact h e.symm
theorem at_good11 : GoodV atK11 := ⟨fun x hx => by
  simp [atK11] at hx
  rcases hx with rfl | rfl
  · exact ent10 (by decide) (by decide)
  · exact ent10 (by decide) (by decide), by
  unfold atK11
  exact List.pairwise_cons.2 ⟨fun y hy => by rw [List.mem_singleton.1 hy]; decide, List.pairwise_singleton _ _⟩⟩
theorem at_kn11 (r : Int) : knV atK11 r = if r = 1 then [(0, 3)] else if r = 2 then [(0, 0)] else [] := by
  by_cases h : r = 1
  · subst h
    rw [if_pos rfl, ← known_nil (m := 3) (by decide) (by decide)]
    exact knV_mem at_good11.asc (x := (1, 3, [])) (by simp [atK11])
  · rw [if_neg h]
    by_cases h2 : r = 2
    · subst h2
      rw [if_pos rfl, ← known_nil (m := 0) (by decide) (by decide)]
      exact knV_mem at_good11.asc (x := (2, 0, [])) (by simp [atK11])
    · rw [if_neg h2]
      exact knV_none fun x hx e => by
        simp [atK11] at hx
        rcases hx with rfl | rfl
        · exact h e.symm
        · exact h2 e.symm
theorem ex11_at : atK exK 4 = atK11 := by
  have g1 := one_good11 1 3 (by decide) (by decide)
  have g2 := one_good11 2 0 (by decide) (by decide)
  have s1 : opV orL [] [(1, 3, [])] = [((1 : Int), (3 : Int), ([] : List Iv))] := op_is (fun _ _ h h' => orL_good h h') rfl goodV_nil.1 g1 g1 (fun y hy => by rw [List.mem_singleton.1 hy]; rfl) fun r => or_nil8 (knV_good g1 r)
  have s2 : opV orL [(1, 3, [])] [((2 : Int), (0 : Int), ([] : List Iv))] = atK11 := op_is (fun _ _ h h' => orL_good h h') rfl g1 g2 at_good11 (fun y hy => by simp [atK11] at hy; rcases hy with rfl | rfl <;> rfl) fun r => by
    rw [kn_one11 1 3 (by decide) (by decide), kn_one11 2 0 (by decide) (by decide), at_kn11]
    by_cases h : r = 1
    · subst h; rw [if_pos rfl, if_neg (by decide), if_pos rfl, or_nil8' (good_one (by decide) (by decide) (by decide))]
    · rw [if_neg h, if_neg h]
      by_cases h2 : r = 2
      · rw [if_pos h2, or_nil8 (good_one (by decide) (by decide) (by decide))]
      · rw [if_neg h2]; rfl
  show atStep 4 (atStep 4 [] ([(1, 5)], [(1, 3, [])])) ([(4, 9)], [(2, 0, [])]) = atK11
  unfold atStep
  rw [if_pos (by decide), if_pos (by decide), s1, s2]
theorem ex11_items : itemsK exK = [(1, 9)] := by
  show orL (orL [] [(1, 5)]) [(4, 9)] = [(1, 9)]
  rw [or_nil8 g15]
  refine good_eq (orL_good g15 g49) g19 fun x => ?_
  rw [or_has g15 g49]
  unfold hasL
  rw [Bool.eq_iff_iff]
  simp [inI]
  omega
theorem ex11_members : membersK exK 4 = [0, 1] := by decide
theorem ex11_has1 : hasK exK 4 1 3 = true := by decide
theorem ex11_has2 : hasK exK 4 2 0 = true := by decide
theorem ex11_has3 : hasK exK 3 2 0 = false := by decide
theorem kno_two {w : World} {b : Nat} {s1 v1 s2 v2 : Value} {x y : List Iv × List (Int × Int × List Iv)} (c0 : w.cell? ⟨b, 0, none⟩ = some s1) (c1 : w.cell? ⟨b, 1, none⟩ = some v1) (c2 : w.cell? ⟨b, 2, none⟩ = some s2) (c3 : w.cell? ⟨b, 3, none⟩ = some v2) (h1 : FragM w (s1, v1) x) (h2 : FragM w (s2, v2) y) :
    KnoS w (.slice (some ⟨b, 0, none⟩) 2 2) [x, y] := by
  refine ⟨⟨⟨[(s1, v1), (s2, v2)], ⟨_, _, rfl, (by show (2 : Nat) ≤ maxLen; decide), fun _ => ⟨b, 0, rfl, fun i e he => ?_⟩⟩, rfl, fun i e z he hx => ?_⟩, by simp⟩, sane_lit _ _ _ (Nat.le_refl _)⟩
  · match i, he with
    | 0, he => simp at he; subst he; exact ⟨c0, c1⟩
    | 1, he => simp at he; subst he; exact ⟨c2, c3⟩
  · match i, he, hx with
    | 0, he, hx => simp at he hx; subst he; subst hx; exact h1
    | 1, he, hx => simp at he hx; subst he; subst hx; exact h2
theorem kno_one {w : World} {b : Nat} {s1 v1 : Value} {x : List Iv × List (Int × Int × List Iv)} (c0 : w.cell? ⟨b, 0, none⟩ = some s1) (c1 : w.cell? ⟨b, 1, none⟩ = some v1) (h1 : FragM w (s1, v1) x) : KnoS w (.slice (some ⟨b, 0, none⟩) 1 1) [x] := by
  refine ⟨⟨⟨[(s1, v1)], ⟨_, _, rfl, (by show (1 : Nat) ≤ maxLen; decide), fun _ => ⟨b, 0, rfl, fun i e he => ?_⟩⟩, rfl, fun i e z he hx => ?_⟩, by simp⟩, sane_lit _ _ _ (Nat.le_refl _)⟩
  · match i, he with
    | 0, he => simp at he; subst he; exact ⟨c0, c1⟩
  · match i, he, hx with
    | 0, he, hx => simp at he hx; subst he; subst hx; exact h1
theorem ix_two (w : World) (a b : Int) (t : TypeId) : IxAt (w.alloc (.cells #[.int .i64 a, .int .i64 b] t)) (.slice (some ⟨w.heap.size, 0, none⟩) 2 2) [a, b] := by
  refine ⟨_, _, rfl, (by show (2 : Nat) ≤ maxLen; decide), fun _ => ⟨w.heap.size, 0, rfl, fun i x hx => ?_⟩⟩
  match i, hx with
  | 0, hx => simp at hx; subst hx; simp
  | 1, hx => simp at hx; subst hx; simp
theorem vec_lit11 {w : World} {b : Nat} {r m : Int} (c0 : w.cell? ⟨b, 0, none⟩ = some (.int .u64 r)) (c1 : w.cell? ⟨b, 1, none⟩ = some (.int .u64 m)) (c2 : w.cell? ⟨b, 2, none⟩ = some (.slice none 0 0)) (hr : 0 ≤ r ∧ r ≤ 18446744073709551615) (hm : 0 ≤ m ∧ m ≤ 18446744073709551615) : VecS w (.slice (some ⟨b, 0, none⟩) 1 1) [(r, m, [])] :=
  vec_one9 c0 c1 c2 ⟨ivs_nil _, (fun x hx => by cases hx), sane_nil, hm.1, hm.2, by simp⟩ hr
set_option maxRecDepth 100000 in
set_option maxHeartbeats 4000000 in
theorem alive11_any (C : ScopeC) (w : World) (hg : GlobK w) : Calls Tryz.prog 10 #[] w (IsEnd true w) := by
  have HG_0 := Lib.hid hg; clear hg
  have K1 := Lib.hid (fun B W h h2 => (by have k := C.chk exK (.slice (some ⟨B, 0, none⟩) 2 2) W h h2; rw [good_chk exK_good] at k; exact k : Calls Tryz.prog 11 #[.slice (some ⟨B, 0, none⟩) 2 2] W (IsNil9 W)))
  have K2 := Lib.hid (fun B W h => (by have k := C.has exK (.slice (some ⟨B, 0, none⟩) 2 2) 4 1 3 W h exK_good (by decide) (by decide) (by decide) (by decide) (by decide) (by decide); rw [ex11_has1] at k; exact k : Calls Tryz.prog 16 #[.slice (some ⟨B, 0, none⟩) 2 2, .int .u64 4, .int .u64 1, .int .u64 3] W (IsEnd true W)))
  have K3 := Lib.hid (fun B W h => (by have k := C.has exK (.slice (some ⟨B, 0, none⟩) 2 2) 4 2 0 W h exK_good (by decide) (by decide) (by decide) (by decide) (by decide) (by decide); rw [ex11_has2] at k; exact k : Calls Tryz.prog 16 #[.slice (some ⟨B, 0, none⟩) 2 2, .int .u64 4, .int .u64 2, .int .u64 0] W (IsEnd true W)))
  have K4 := Lib.hid (fun B W h => (by have k := C.has exK (.slice (some ⟨B, 0, none⟩) 2 2) 3 2 0 W h exK_good (by decide) (by decide) (by decide) (by decide) (by decide) (by decide); rw [ex11_has3] at k; exact k : Calls Tryz.prog 16 #[.slice (some ⟨B, 0, none⟩) 2 2, .int .u64 3, .int .u64 2, .int .u64 0] W (IsEnd false W)))
  have K5 := Lib.hid (fun B W hgl h => (by have k := C.at' exK (.slice (some ⟨B, 0, none⟩) 2 2) 4 W hgl h exK_good exK_small (by decide) (by decide); rw [ex11_at] at k; exact k : Calls Tryz.prog 18 #[.slice (some ⟨B, 0, none⟩) 2 2, .int .u64 4] W (IsVN atK11 W)))
  have K6 := Lib.hid (fun B W h => (by have k := C.items exK (.slice (some ⟨B, 0, none⟩) 2 2) W h exK_good exK_small; rw [ex11_items] at k; exact k : Calls Tryz.prog 23 #[.slice (some ⟨B, 0, none⟩) 2 2] W (IsKn [(1, 9)] W)))
  have K7 := Lib.hid (fun B W h => (by have k := C.members exK (.slice (some ⟨B, 0, none⟩) 2 2) 4 W h exK_good (by decide) (by decide); rw [ex11_members] at k; exact k : Calls Tryz.prog 24 #[.slice (some ⟨B, 0, none⟩) 2 2, .int .u64 4] W (IsIx [0, 1] W)))
  have K8 := Lib.hid (fun B W h h2 => C.chk badK11 (.slice (some ⟨B, 0, none⟩) 1 1) W h h2)
  have K9 := Lib.hid (fun W (h : GlobK W) => (by have k := Code_any (chkE11 badK11) W h.e; rw [bad_code] at k; exact k : Calls Tryz.prog 13 #[errV (chkE11 badK11)] W (IntEnd 2 W)))
  have KS := Lib.hid (fun s t W h h2 => (by have k := refSame_any [(1, 9)] [(1, 9)] s t W h h2; rw [show decide (([(1, 9)] : List Iv) = [(1, 9)]) = true from by simp] at k; exact k : Calls Tryz.prog 25 #[s, t] W (IsEnd true W)))
  have KE := Lib.hid (fun s t W h h2 => (by have k := equalI_any [0, 1] [0, 1] s t W h h2; rw [show decide (([0, 1] : List Int) = [0, 1]) = true from by simp] at k; exact k : Calls Tryz.prog 27 #[s, t] W (IsEnd true W)))
  unfold IsErr at K8
  generalize errV (chkE11 badK11) = ev at *
  clear C
  obtain ⟨w1, hw1⟩ : ∃ w', w.alloc (.cells #[.int .u64 1, .int .u64 5] 59) = w' := ⟨_, rfl⟩
  have h : Below w.heap.size w w1 := hw1 ▸ below_new w _
  have HG_1 := Lib.hid (HG_0.out.here h)
  clear HG_0
  have HB_1 := Lib.hid h
  clear h
  have HI_1 := Lib.hid (hw1 ▸ iv_one w 1 5 59 _ rfl)
  obtain ⟨w2, hw2⟩ : ∃ w', w1.alloc (.cells #[.int .u64 1, .int .u64 3, .slice none 0 0] 61) = w' := ⟨_, rfl⟩
  have h : Below w1.heap.size w1 w2 := hw2 ▸ below_new w1 _
  have HG_2 := Lib.hid (HG_1.out.here h)
  clear HG_1
  have HI_2 := Lib.hid (HI_1.out.call h)
  clear HI_1
  have HB_2 := Lib.hid (below_call HB_1.out h)
  clear h
  have HU_2 := Lib.hid (show VecS w2 (.slice (some ⟨w1.heap.size, 0, none⟩) 1 1) [(1, 3, [])] from vec_lit11 (by rw [← hw2]; simp) (by rw [← hw2]; simp) (by rw [← hw2]; simp) (by omega) (by omega))
  obtain ⟨w3, hw3⟩ : ∃ w', w2.alloc (.cells #[.int .u64 4, .int .u64 9] 59) = w' := ⟨_, rfl⟩
  have h : Below w2.heap.size w2 w3 := hw3 ▸ below_new w2 _
  have HG_3 := Lib.hid (HG_2.out.here h)
  clear HG_2
  have HI_3 := Lib.hid (HI_2.out.call h)
  clear HI_2
  have HU_3 := Lib.hid (HU_2.out.call h)
  clear HU_2
  have HB_3 := Lib.hid (below_call HB_2.out h)
  clear h
  have HJ_3 := Lib.hid (hw3 ▸ iv_one w2 4 9 59 _ rfl)
  obtain ⟨w4, hw4⟩ : ∃ w', w3.alloc (.cells #[.int .u64 2, .int .u64 0, .slice none 0 0] 61) = w' := ⟨_, rfl⟩
  have h : Below w3.heap.size w3 w4 := hw4 ▸ below_new w3 _
  have HG_4 := Lib.hid (HG_3.out.here h)
  clear HG_3
  have HI_4 := Lib.hid (HI_3.out.call h)
  clear HI_3
  have HU_4 := Lib.hid (HU_3.out.call h)
  clear HU_3
  have HJ_4 := Lib.hid (HJ_3.out.call h)
  clear HJ_3
  have HB_4 := Lib.hid (below_call HB_3.out h)
  clear h
  have HY_4 := Lib.hid (show VecS w4 (.slice (some ⟨w3.heap.size, 0, none⟩) 1 1) [(2, 0, [])] from vec_lit11 (by rw [← hw4]; simp) (by rw [← hw4]; simp) (by rw [← hw4]; simp) (by omega) (by omega))
  obtain ⟨w5, hw5⟩ : ∃ w', w4.alloc (.cells #[.slice (some ⟨w.heap.size, 0, none⟩) 1 1, .slice (some ⟨w1.heap.size, 0, none⟩) 1 1, .slice (some ⟨w2.heap.size, 0, none⟩) 1 1, .slice (some ⟨w3.heap.size, 0, none⟩) 1 1] 57) = w' := ⟨_, rfl⟩
  have h : Below w4.heap.size w4 w5 := hw5 ▸ below_new w4 _
  have HG_5 := Lib.hid (HG_4.out.here h)
  clear HG_4
  have HI_5 := Lib.hid (HI_4.out.call h)
  clear HI_4
  have HU_5 := Lib.hid (HU_4.out.call h)
  clear HU_4
  have HJ_5 := Lib.hid (HJ_4.out.call h)
  clear HJ_4
  have HY_5 := Lib.hid (HY_4.out.call h)
  clear HY_4
  have HB_5 := Lib.hid (below_call HB_4.out h)
  clear h
  have HV_5 := Lib.hid (show KnoS w5 (.slice (some ⟨w4.heap.size, 0, none⟩) 2 2) exK from kno_two (by rw [← hw5]; simp) (by rw [← hw5]; simp) (by rw [← hw5]; simp) (by rw [← hw5]; simp) ⟨HI_5.out, one_all (by omega) (by omega), sane_lit _ _ _ (Nat.le_refl _), HU_5.out⟩ ⟨HJ_5.out, one_all (by omega) (by omega), sane_lit _ _ _ (Nat.le_refl _), HY_5.out⟩)
  clear HI_5
  clear HU_5
  clear HJ_5
  clear HY_5
  go_enter Tryz.func10, Tryz.ntmps10
  go_wp2_with fail
  clear hw1 hw2 hw3 hw4 hw5
  refine (K1.out _ _ HG_5.out HV_5.out).mono ?_
  rintro e w6 ⟨rfl, h⟩
  have HG_6 := Lib.hid (HG_5.out.here h)
  clear HG_5
  have HV_6 := Lib.hid (HV_5.out.call h)
  clear HV_5
  have HB_6 := Lib.hid (below_call HB_5.out h)
  clear h
  go_wp2_with fail
  refine (K2.out _ _ HV_6.out).mono ?_
  rintro e w7 ⟨rfl, h⟩
  have HG_7 := Lib.hid (HG_6.out.here h)
  clear HG_6
  have HV_7 := Lib.hid (HV_6.out.call h)
  clear HV_6
  have HB_7 := Lib.hid (below_call HB_6.out h)
  clear h
  go_wp2_with fail
  refine (K3.out _ _ HV_7.out).mono ?_
  rintro e w8 ⟨rfl, h⟩
  have HG_8 := Lib.hid (HG_7.out.here h)
  clear HG_7
  have HV_8 := Lib.hid (HV_7.out.call h)
  clear HV_7
  have HB_8 := Lib.hid (below_call HB_7.out h)
  clear h
  go_wp2_with fail
  refine (K4.out _ _ HV_8.out).mono ?_
  rintro e w9 ⟨rfl, h⟩
  have HG_9 := Lib.hid (HG_8.out.here h)
  clear HG_8
  have HV_9 := Lib.hid (HV_8.out.call h)
  clear HV_8
  have HB_9 := Lib.hid (below_call HB_8.out h)
  clear h
  go_wp2_with fail
  refine (K5.out _ _ HG_9.out HV_9.out).mono ?_
  rintro e w10 ⟨u, rfl, hu, _, h⟩
  obtain ⟨pu, cu, rfl⟩ : ∃ p c, u = .slice p 2 c := hu.m.shape
  have HG_10 := Lib.hid (HG_9.out.here h)
  clear HG_9
  have HV_10 := Lib.hid (HV_9.out.call h)
  clear HV_9
  have HB_10 := Lib.hid (below_call HB_9.out h)
  clear h
  clear hu
  go_wp2_with fail
  refine (K6.out _ _ HV_10.out).mono ?_
  rintro e w11 ⟨u2, rfl, hu2, _, _, h⟩
  have HG_11 := Lib.hid (HG_10.out.here h)
  clear HG_10
  have HV_11 := Lib.hid (HV_10.out.call h)
  clear HV_10
  have HB_11 := Lib.hid (below_call HB_10.out h)
  clear h
  have HU_11 := Lib.hid (hu2)
  clear hu2
  obtain ⟨w12, hw12⟩ : ∃ w', w11.alloc (.cells #[.int .u64 1, .int .u64 9] 59) = w' := ⟨_, rfl⟩
  have h : Below w11.heap.size w11 w12 := hw12 ▸ below_new w11 _
  have HG_12 := Lib.hid (HG_11.out.here h)
  clear HG_11
  have HV_12 := Lib.hid (HV_11.out.call h)
  clear HV_11
  have HU_12 := Lib.hid (HU_11.out.call h)
  clear HU_11
  have HB_12 := Lib.hid (below_call HB_11.out h)
  clear h
  have HE_12 := Lib.hid (hw12 ▸ iv_one w11 1 9 59 _ rfl)
  go_wp2_with fail
  clear hw12
  refine (KS.out _ _ _ HU_12.out HE_12.out).mono ?_
  rintro e w13 ⟨rfl, h⟩
  have HG_13 := Lib.hid (HG_12.out.here h)
  clear HG_12
  have HV_13 := Lib.hid (HV_12.out.call h)
  clear HV_12
  have HU_13 := Lib.hid (HU_12.out.call h)
  clear HU_12
  have HE_13 := Lib.hid (HE_12.out.call h)
  clear HE_12
  have HB_13 := Lib.hid (below_call HB_12.out h)
  clear h
  go_wp2_with fail
  refine (K7.out _ _ HV_13.out).mono ?_
  rintro e w14 ⟨u3, rfl, hu3, h⟩
  have HG_14 := Lib.hid (HG_13.out.here h)
  clear HG_13
  have HV_14 := Lib.hid (HV_13.out.call h)
  clear HV_13
  have HB_14 := Lib.hid (below_call HB_13.out h)
  clear h
  have HU_14 := Lib.hid (hu3)
  clear hu3
  obtain ⟨w15, hw15⟩ : ∃ w', w14.alloc (.cells #[.int .i64 0, .int .i64 1] 3) = w' := ⟨_, rfl⟩
  have h : Below w14.heap.size w14 w15 := hw15 ▸ below_new w14 _
  have HG_15 := Lib.hid (HG_14.out.here h)
  clear HG_14
  have HV_15 := Lib.hid (HV_14.out.call h)
  clear HV_14
  have HU_15 := Lib.hid (HU_14.out.call h)
  clear HU_14
  have HB_15 := Lib.hid (below_call HB_14.out h)
  clear h
  have HE_15 := Lib.hid (hw15 ▸ ix_two w14 0 1 3)
  go_wp2_with fail
  clear hw15
  refine (KE.out _ _ _ HU_15.out HE_15.out).mono ?_
  rintro e w16 ⟨rfl, h⟩
  have HG_16 := Lib.hid (HG_15.out.here h)
  clear HG_15
  have HV_16 := Lib.hid (HV_15.out.call h)
  clear HV_15
  have HU_16 := Lib.hid (HU_15.out.call h)
  clear HU_15
  have HE_16 := Lib.hid (HE_15.out.call h)
  clear HE_15
  have HB_16 := Lib.hid (below_call HB_15.out h)
  clear h
  obtain ⟨w17, hw17⟩ : ∃ w', w16.alloc (.cells #[.int .u64 2, .int .u64 1] 59) = w' := ⟨_, rfl⟩
  have h : Below w16.heap.size w16 w17 := hw17 ▸ below_new w16 _
  have HG_17 := Lib.hid (HG_16.out.here h)
  clear HG_16
  have HV_17 := Lib.hid (HV_16.out.call h)
  clear HV_16
  have HB_17 := Lib.hid (below_call HB_16.out h)
  clear h
  have HI_17 := Lib.hid (hw17 ▸ iv_one w16 2 1 59 _ rfl)
  obtain ⟨w18, hw18⟩ : ∃ w', w17.alloc (.cells #[.slice (some ⟨w16.heap.size, 0, none⟩) 1 1, .slice none 0 0] 57) = w' := ⟨_, rfl⟩
  have h : Below w17.heap.size w17 w18 := hw18 ▸ below_new w17 _
  have HG_18 := Lib.hid (HG_17.out.here h)
  clear HG_17
  have HV_18 := Lib.hid (HV_17.out.call h)
  clear HV_17
  have HI_18 := Lib.hid (HI_17.out.call h)
  clear HI_17
  have HB_18 := Lib.hid (below_call HB_17.out h)
  clear h
  have HT_18 := Lib.hid (show KnoS w18 (.slice (some ⟨w17.heap.size, 0, none⟩) 1 1) badK11 from kno_one (by rw [← hw18]; simp) (by rw [← hw18]; simp) ⟨HI_18.out, one_all (by omega) (by omega), sane_lit _ _ _ (Nat.le_refl _), vec_nil9 _⟩)
  clear HI_18
  go_wp2_with fail
  clear hw17 hw18
  refine (K8.out _ _ HG_18.out HT_18.out).mono ?_
  rintro e w19 ⟨rfl, h⟩
  have HG_19 := Lib.hid (HG_18.out.here h)
  clear HG_18
  have HV_19 := Lib.hid (HV_18.out.call h)
  clear HV_18
  have HT_19 := Lib.hid (HT_18.out.call h)
  clear HT_18
  have HB_19 := Lib.hid (below_call HB_18.out h)
  clear h
  go_wp2_with fail
  refine (K9.out _ HG_19.out).mono ?_
  rintro e w20 ⟨rfl, h⟩
  have HG_20 := Lib.hid (HG_19.out.here h)
  clear HG_19
  have HV_20 := Lib.hid (HV_19.out.call h)
  clear HV_19
  have HT_20 := Lib.hid (HT_19.out.call h)
  clear HT_19
  have HB_20 := Lib.hid (below_call HB_19.out h)
  clear h
  go_wp2_with fail
  go_ret
  exact ⟨rfl, HB_20.out⟩
end Go.Proofs.YtemhbmcgnmfoaaaGreatDoor

/- The laws of layer 11 in every state, out of what package scope says. Conditions: the contracts of package scope, and the fixed value of errors.errorType. -/
namespace Go.Proofs.YtemhbmcgnmfoaaaGreatDoor
open Go.RowKit
theorem FragIn.call {lim : Nat} {w w' : World} {f : Value × Value} (h : FragIn lim w f) (hb : Below w.heap.size w w') : FragIn lim w' f := by
  obtain ⟨h1, h2, h3, es, h4, h5⟩ := h
  exact ⟨h1, h2.call hb, h3, es, h4.call hb, fun e he => (h5 e he).call hb⟩
/-- What Few says of knowledge that came in, and what it is then. -/
theorem knoArg.few {w : World} {v : Value} (h : knoArg w v) : (∃ p n c, v = .slice p n c) ∧ ∃ b, (∀ W, Below w.heap.size w W → Calls Tryz.prog 9 #[v] W (IsEnd b W)) ∧ (b = true → ∃ F, KnoS w v F ∧ smallK F) := by
  obtain ⟨hs, fs, hv, hi⟩ := h
  have each : ∀ i, i < fs.length → ∃ b, ∀ f, fs[i]? = some f → (∀ W, Below w.heap.size w W → Calls Tryz.prog 33 #[f.2] W (IsEnd b W)) ∧ (b = true → ∃ V, VecS w f.2 V ∧ V.length ≤ 20 ∧ ∀ x ∈ V, x.2.2.length ≤ 30) := by
    intro i hlt
    obtain ⟨_, b, h1, h2⟩ := (frag_vec (hi _ (List.getElem_mem hlt))).few
    refine ⟨b, fun f hf => ?_⟩
    obtain ⟨_, rfl⟩ := List.getElem?_eq_some_iff.1 hf
    exact ⟨h1, h2⟩
  obtain ⟨B, hB⟩ := Go.Deep.choose_lt each
  have lt : ∀ {i f}, fs[i]? = some f → i < fs.length := fun hf => (List.getElem?_eq_some_iff.1 hf).1
  refine ⟨?_, fewKB fs B, fun W hb => few11_any v fs W (hv.call hb) (fun f hf => (hi f hf).call hb) B (fun i f hf W2 hb2 => (hB i (lt hf) f hf).1 W2 (hb.trans (hb2.mono hb.size))), fun hf => ?_⟩
  · obtain ⟨p, cap, e, _⟩ := hv; exact ⟨p, _, cap, e⟩
  · obtain ⟨h1, h2⟩ := fewKB_true hf
    obtain ⟨F, h3, h4⟩ := few_kno hv hi B (fun i f hf hb => (hB i (lt hf) f hf).2 hb) h1 h2
    exact ⟨F, ⟨h3, hs⟩, h4⟩
theorem KnoM.all1 {w : World} {v : Value} {F : List (List Iv × List (Int × Int × List Iv))} (h : KnoM w v F) : (∀ x ∈ F, All64 x.1) ∧ ∀ x ∈ F, ∀ y ∈ x.2, All64 y.2.2 ∧ 0 ≤ y.2.1 ∧ y.2.1 ≤ UM := by
  have key : ∀ x ∈ F, All64 x.1 ∧ ∀ y ∈ x.2, All64 y.2.2 ∧ 0 ≤ y.2.1 ∧ y.2.1 ≤ UM := by
    rintro ⟨L, V⟩ hx
    obtain ⟨i, hi⟩ := List.mem_iff_getElem?.1 hx
    obtain ⟨_, _, _, _, _, _, _, _, _, _, ha⟩ := h.elem hi
    exact ⟨ha.all, ha.vec.m.all64⟩
  exact ⟨fun x hx => (key x hx).1, fun x hx => (key x hx).2⟩
theorem items_members {F : List (List Iv × List (Int × Int × List Iv))} (hg : GoodK F) (t : Int) : hasL (itemsK F) t = decide ((0 : Int) < ((membersK F t).length : Int)) := by
  have h1 := itemsK_has t F [] good_nil hg
  have h2 := members_pos F t
  unfold itemsK
  rw [h1, ← h2]
  rw [show hasL [] t = false from rfl, Bool.false_or, Bool.eq_iff_iff, decide_eq_true_eq, decide_eq_true_eq]
  omega
theorem k3_call {W w1 w2 : World} {p0 p1 p2 : Addr} {a0 a1 a2 : Value} (h : Below W.heap.size W w1 ∧ w1.cell? p0 = some a0 ∧ w1.cell? p1 = some a1 ∧ w1.cell? p2 = some a2) (hb : Below w1.heap.size w1 w2) : Below W.heap.size W w2 ∧ w2.cell? p0 = some a0 ∧ w2.cell? p1 = some a1 ∧ w2.cell? p2 = some a2 :=
  ⟨below_call h.1 hb, keep_cell h.2.1 hb, keep_cell h.2.2.1 hb, keep_cell h.2.2.2 hb⟩
set_option maxRecDepth 100000 in
set_option maxHeartbeats 4000000 in
theorem lawChecks11_any (C : ScopeC) (va : Value) (w : World) (hg : GlobK w) (ha : knoArg w va) :
    Calls Tryz.prog 3 #[va] w (IsEnd true w) := by
  have KL := Lib.hid (fun W h => alive11_any C W h)
  have HG_0 := Lib.hid hg; clear hg
  have HC := Lib.hid C; clear C
  obtain ⟨⟨pa, na, ca, rfl⟩, ba, hfa, hva⟩ := ha.few
  have KFa := Lib.hid hfa; have HVa := Lib.hid hva; clear hfa hva ha
  go_enter Tryz.func3, Tryz.ntmps3
  go_wp2_with fail
  refine (KFa.out _ (Below.refl _ _)).mono ?_
  rintro e w1 ⟨rfl, h⟩
  have HG_1 := Lib.hid (HG_0.out.here h)
  clear HG_0
  have HB_1 := Lib.hid h
  clear h
  cases ba with
  | false =>
    go_wp2_with fail
    refine (KL.out _ HG_1.out).mono ?_
    rintro e w2 ⟨rfl, h⟩
    have HG_2 := Lib.hid (HG_1.out.here h)
    clear HG_1
    have HB_2 := Lib.hid (below_call HB_1.out h)
    clear h
    go_wp2_with fail
    go_ret
    exact ⟨rfl, HB_2.out⟩
  | true =>
    obtain ⟨A, ha, hsa⟩ := HVa.out (by trivial)
    have h64a := ha.m.all1
    have HVa_1 := Lib.hid (ha.call HB_1.out)
    clear ha
    have K1 := Lib.hid (fun W h h2 => HC.out.chk A (.slice pa na ca) W h h2)
    have K2 := Lib.hid (fun W (h : GlobK W) => (chkE11_code A ▸ Code_any (chkE11 A) W h.e : Calls Tryz.prog 13 #[errV (chkE11 A)] W (IntEnd (kCode A) W)))
    have K3 := Lib.hid (fun W (h : GlobK W) => (chkE11_at A ▸ At_any (chkE11 A) W h.e : Calls Tryz.prog 14 #[errV (chkE11 A)] W (IntEnd (kIdx A) W)))
    have K4 := Lib.hid (fun W h => refCheck11_any A (.slice pa na ca) W h)
    unfold IsErr at K1
    generalize errV (chkE11 A) = ev at *
    generalize kCode A = vc at *
    generalize kIdx A = va at *
    clear h64a hsa
    go_wp2_with fail
    refine (K1.out _ HG_1.out HVa_1.out).mono ?_
    rintro e w2 ⟨rfl, h⟩
    have HG_2 := Lib.hid (HG_1.out.here h)
    clear HG_1
    have HVa_2 := Lib.hid (HVa_1.out.call h)
    clear HVa_1
    have HB_2 := Lib.hid (below_call HB_1.out h)
    clear h
    go_wp2_with fail
    refine (K4.out _ HVa_2.out.m).mono ?_
    rintro e w3 ⟨rfl, h⟩
    have HG_3 := Lib.hid (HG_2.out.here h)
    clear HG_2
    have HVa_3 := Lib.hid (HVa_2.out.call h)
    clear HVa_2
    have HB_3 := Lib.hid (below_call HB_2.out h)
    clear h
    go_wp2_with fail
    refine (KL.out _ HG_3.out).mono ?_
    rintro e w4 ⟨rfl, h⟩
    have HG_4 := Lib.hid (HG_3.out.here h)
    clear HG_3
    have HVa_4 := Lib.hid (HVa_3.out.call h)
    clear HVa_3
    have HB_4 := Lib.hid (below_call HB_3.out h)
    clear h
    go_wp2_with fail
    refine (K2.out _ HG_4.out).mono ?_
    rintro e w5 ⟨rfl, h⟩
    have HG_5 := Lib.hid (HG_4.out.here h)
    clear HG_4
    have HVa_5 := Lib.hid (HVa_4.out.call h)
    clear HVa_4
    have HB_5 := Lib.hid (below_call HB_4.out h)
    clear h
    go_wp2_with fail
    refine (K3.out _ HG_5.out).mono ?_
    rintro e w6 ⟨rfl, h⟩
    have HG_6 := Lib.hid (HG_5.out.here h)
    clear HG_5
    have HVa_6 := Lib.hid (HVa_5.out.call h)
    clear HVa_5
    have HB_6 := Lib.hid (below_call HB_5.out h)
    clear h
    go_wp2_with fail
    go_ret
    exact ⟨rfl, HB_6.out⟩
set_option maxRecDepth 100000 in
set_option maxHeartbeats 4000000 in
theorem lawSame11_any (C : ScopeC) (SC : SameC11) (va vb : Value) (w : World) (hg : GlobK w) (ha : knoArg w va) (hb : knoArg w vb) :
    Calls Tryz.prog 7 #[va, vb] w (IsEnd true w) := by
  have KL := Lib.hid (fun W h => alive11_any C W h)
  have HG_0 := Lib.hid hg; clear hg
  have HC := Lib.hid C; clear C
  obtain ⟨⟨pa, na, ca, rfl⟩, ba, hfa, hva⟩ := ha.few
  have KFa := Lib.hid hfa; have HVa := Lib.hid hva; clear hfa hva ha
  obtain ⟨⟨pb, nb, cb, rfl⟩, bb, hfb, hvb⟩ := hb.few
  have KFb := Lib.hid hfb; have HVb := Lib.hid hvb; clear hfb hvb hb
  go_enter Tryz.func7, Tryz.ntmps7
  go_wp2_with fail
  refine (KFa.out _ (Below.refl _ _)).mono ?_
  rintro e w1 ⟨rfl, h⟩
  have HG_1 := Lib.hid (HG_0.out.here h)
  clear HG_0
  have HB_1 := Lib.hid h
  clear h
  cases ba with
  | false =>
    go_wp2_with fail
    refine (KL.out _ HG_1.out).mono ?_
    rintro e w2 ⟨rfl, h⟩
    have HG_2 := Lib.hid (HG_1.out.here h)
    clear HG_1
    have HB_2 := Lib.hid (below_call HB_1.out h)
    clear h
    go_wp2_with fail
    go_ret
    exact ⟨rfl, HB_2.out⟩
  | true =>
    go_wp2_with fail
    refine (KFb.out _ HB_1.out).mono ?_
    rintro e w2 ⟨rfl, h⟩
    have HG_2 := Lib.hid (HG_1.out.here h)
    clear HG_1
    have HB_2 := Lib.hid (below_call HB_1.out h)
    clear h
    cases bb with
    | false =>
      go_wp2_with fail
      refine (KL.out _ HG_2.out).mono ?_
      rintro e w3 ⟨rfl, h⟩
      have HG_3 := Lib.hid (HG_2.out.here h)
      clear HG_2
      have HB_3 := Lib.hid (below_call HB_2.out h)
      clear h
      go_wp2_with fail
      go_ret
      exact ⟨rfl, HB_3.out⟩
    | true =>
      obtain ⟨A, ha, hsa⟩ := HVa.out (by trivial)
      have h64a := ha.m.all1
      have HVa_2 := Lib.hid (ha.call HB_2.out)
      clear ha
      obtain ⟨B, hb, hsb⟩ := HVb.out (by trivial)
      have h64b := hb.m.all1
      have HVb_2 := Lib.hid (hb.call HB_2.out)
      clear hb
      obtain ⟨d, hd⟩ : ∃ d, decide (A = B) = d := ⟨_, rfl⟩
      have K1 := Lib.hid (fun W h h2 => (hd ▸ SC A B (.slice pa na ca) (.slice pb nb cb) W h h2 : Calls Tryz.prog 30 #[.slice pa na ca, .slice pb nb cb] W (IsEnd d W)))
      have K2 := Lib.hid (fun W h h2 => (hd ▸ refSame11_any A B (.slice pa na ca) (.slice pb nb cb) W h h2 : Calls Tryz.prog 31 #[.slice pa na ca, .slice pb nb cb] W (IsEnd d W)))
      have K3 := Lib.hid (fun W h h2 => (by have k := SC A A (.slice pa na ca) (.slice pa na ca) W h h2; rw [show decide (A = A) = true from by simp] at k; exact k : Calls Tryz.prog 30 #[.slice pa na ca, .slice pa na ca] W (IsEnd true W)))
      clear hd h64a h64b hsa hsb SC
      go_wp2_with fail
      refine (KL.out _ HG_2.out).mono ?_
      rintro e w3 ⟨rfl, h⟩
      have HG_3 := Lib.hid (HG_2.out.here h)
      clear HG_2
      have HVa_3 := Lib.hid (HVa_2.out.call h)
      clear HVa_2
      have HVb_3 := Lib.hid (HVb_2.out.call h)
      clear HVb_2
      have HB_3 := Lib.hid (below_call HB_2.out h)
      clear h
      go_wp2_with fail
      refine (K1.out _ HVa_3.out HVb_3.out).mono ?_
      rintro e w4 ⟨rfl, h⟩
      have HG_4 := Lib.hid (HG_3.out.here h)
      clear HG_3
      have HVa_4 := Lib.hid (HVa_3.out.call h)
      clear HVa_3
      have HVb_4 := Lib.hid (HVb_3.out.call h)
      clear HVb_3
      have HB_4 := Lib.hid (below_call HB_3.out h)
      clear h
      go_wp2_with fail
      refine (K2.out _ HVa_4.out.m HVb_4.out.m).mono ?_
      rintro e w5 ⟨rfl, h⟩
      have HG_5 := Lib.hid (HG_4.out.here h)
      clear HG_4
      have HVa_5 := Lib.hid (HVa_4.out.call h)
      clear HVa_4
      have HVb_5 := Lib.hid (HVb_4.out.call h)
      clear HVb_4
      have HB_5 := Lib.hid (below_call HB_4.out h)
      clear h
      go_wp2_with fail
      refine (K3.out _ HVa_5.out HVa_5.out).mono ?_
      rintro e w6 ⟨rfl, h⟩
      have HG_6 := Lib.hid (HG_5.out.here h)
      clear HG_5
      have HVa_6 := Lib.hid (HVa_5.out.call h)
      clear HVa_5
      have HVb_6 := Lib.hid (HVb_5.out.call h)
      clear HVb_5
      have HB_6 := Lib.hid (below_call HB_5.out h)
      clear h
      go_wp2_with fail
      go_ret
      exact ⟨rfl, HB_6.out⟩
set_option maxRecDepth 100000 in
set_option maxHeartbeats 4000000 in
theorem lawItems11_any (C : ScopeC) (va : Value) (t : Int) (w : World) (hg : GlobK w) (ha : knoArg w va) (nt : 0 ≤ t ∧ t ≤ 18446744073709551615) :
    Calls Tryz.prog 6 #[va, .int .u64 t] w (IsEnd true w) := by
  have KL := Lib.hid (fun W h => alive11_any C W h)
  have HG_0 := Lib.hid hg; clear hg
  have HC := Lib.hid C; clear C
  obtain ⟨⟨pa, na, ca, rfl⟩, ba, hfa, hva⟩ := ha.few
  have KFa := Lib.hid hfa; have HVa := Lib.hid hva; clear hfa hva ha
  go_enter Tryz.func6, Tryz.ntmps6
  go_wp2_with fail
  refine (KFa.out _ (Below.refl _ _)).mono ?_
  rintro e w1 ⟨rfl, h⟩
  have HG_1 := Lib.hid (HG_0.out.here h)
  clear HG_0
  have HB_1 := Lib.hid h
  clear h
  cases ba with
  | false =>
    go_wp2_with fail
    refine (KL.out _ HG_1.out).mono ?_
    rintro e w2 ⟨rfl, h⟩
    have HG_2 := Lib.hid (HG_1.out.here h)
    clear HG_1
    have HB_2 := Lib.hid (below_call HB_1.out h)
    clear h
    go_wp2_with fail
    go_ret
    exact ⟨rfl, HB_2.out⟩
  | true =>
    obtain ⟨A, ha, hsa⟩ := HVa.out (by trivial)
    have h64a := ha.m.all1
    have HVa_1 := Lib.hid (ha.call HB_1.out)
    clear ha
    obtain ⟨rb, hrb⟩ : ∃ b, rightK A = b := ⟨_, rfl⟩
    have KR := Lib.hid (hrb ▸ refRight11_any A (.slice pa na ca) _ HVa_1.out.m : Calls Tryz.prog 15 #[.slice pa na ca] w1 (IsEnd rb w1))
    have HRB := Lib.hid (fun e => good_of_rightK h64a.1 h64a.2 (hrb.trans e))
    clear hrb h64a
    go_wp2_with fail
    refine (KR.out).mono ?_
    rintro e w2 ⟨rfl, h⟩
    have HG_2 := Lib.hid (HG_1.out.here h)
    clear HG_1
    have HVa_2 := Lib.hid (HVa_1.out.call h)
    clear HVa_1
    have HB_2 := Lib.hid (below_call HB_1.out h)
    clear h
    clear KR
    cases rb with
    | false =>
      go_wp2_with fail
      refine (KL.out _ HG_2.out).mono ?_
      rintro e w3 ⟨rfl, h⟩
      have HG_3 := Lib.hid (HG_2.out.here h)
      clear HG_2
      have HVa_3 := Lib.hid (HVa_2.out.call h)
      clear HVa_2
      have HB_3 := Lib.hid (below_call HB_2.out h)
      clear h
      go_wp2_with fail
      go_ret
      exact ⟨rfl, HB_3.out⟩
    | true =>
      have hgood := HRB.out rfl
      have K1 := Lib.hid (fun W h => HC.out.items A (.slice pa na ca) W h hgood hsa)
      have K2 := Lib.hid (fun W h => HC.out.members A (.slice pa na ca) t W h hgood nt.1 nt.2)
      have K3 := Lib.hid (fun W h => refItems11_any A (.slice pa na ca) W h hgood hsa)
      have K4 := Lib.hid (fun W h => refMembers11_any A (.slice pa na ca) t W h)
      have him := items_members hgood t
      have KS := Lib.hid (fun s u W h h2 => (by have k := refSame_any (itemsK A) (itemsK A) s u W h h2; rw [show decide (itemsK A = itemsK A) = true from by simp] at k; exact k : Calls Tryz.prog 25 #[s, u] W (IsEnd true W)))
      have KE := Lib.hid (fun s u W h h2 => (by have k := equalI_any (membersK A t) (membersK A t) s u W h h2; rw [show decide (membersK A t = membersK A t) = true from by simp] at k; exact k : Calls Tryz.prog 27 #[s, u] W (IsEnd true W)))
      have KH := Lib.hid (fun s W h => refHasL_any (itemsK A) s t W h)
      generalize itemsK A = L at *
      generalize membersK A t = M at *
      obtain ⟨d, hd⟩ : ∃ d, hasL L t = d := ⟨_, rfl⟩
      rw [hd] at him KH
      have him2 := him.symm
      clear him hd hgood hsa nt
      go_wp2_with fail
      refine (K1.out _ HVa_2.out).mono ?_
      rintro e w3 ⟨u, rfl, hu, _, _, h⟩
      obtain ⟨pu, cu, rfl, _⟩ := hu.shape
      have HG_3 := Lib.hid (HG_2.out.here h)
      clear HG_2
      have HVa_3 := Lib.hid (HVa_2.out.call h)
      clear HVa_2
      have HB_3 := Lib.hid (below_call HB_2.out h)
      clear h
      have HI_3 := Lib.hid (hu)
      clear hu
      go_wp2_with fail
      refine (K2.out _ HVa_3.out).mono ?_
      rintro e w4 ⟨u2, rfl, hu2, h⟩
      obtain ⟨p2, c2, rfl⟩ : ∃ p c, u2 = .slice p M.length c := (by obtain ⟨p, c, e, _⟩ := hu2; exact ⟨p, c, e⟩)
      have HG_4 := Lib.hid (HG_3.out.here h)
      clear HG_3
      have HVa_4 := Lib.hid (HVa_3.out.call h)
      clear HVa_3
      have HI_4 := Lib.hid (HI_3.out.call h)
      clear HI_3
      have HB_4 := Lib.hid (below_call HB_3.out h)
      clear h
      have HM_4 := Lib.hid (hu2)
      clear hu2
      go_wp2_with fail
      refine (KL.out _ HG_4.out).mono ?_
      rintro e w5 ⟨rfl, h⟩
      have HG_5 := Lib.hid (HG_4.out.here h)
      clear HG_4
      have HVa_5 := Lib.hid (HVa_4.out.call h)
      clear HVa_4
      have HI_5 := Lib.hid (HI_4.out.call h)
      clear HI_4
      have HM_5 := Lib.hid (HM_4.out.call h)
      clear HM_4
      have HB_5 := Lib.hid (below_call HB_4.out h)
      clear h
      go_wp2_with fail
      refine (K3.out _ HVa_5.out.m).mono ?_
      rintro e w6 ⟨u3, rfl, hu3, h⟩
      obtain ⟨p3, c3, rfl, _⟩ := hu3.shape
      have HG_6 := Lib.hid (HG_5.out.here h)
      clear HG_5
      have HVa_6 := Lib.hid (HVa_5.out.call h)
      clear HVa_5
      have HI_6 := Lib.hid (HI_5.out.call h)
      clear HI_5
      have HM_6 := Lib.hid (HM_5.out.call h)
      clear HM_5
      have HB_6 := Lib.hid (below_call HB_5.out h)
      clear h
      have HJ_6 := Lib.hid (hu3)
      clear hu3
      go_wp2_with fail
      refine (KS.out _ _ _ HI_6.out HJ_6.out).mono ?_
      rintro e w7 ⟨rfl, h⟩
      have HG_7 := Lib.hid (HG_6.out.here h)
      clear HG_6
      have HVa_7 := Lib.hid (HVa_6.out.call h)
      clear HVa_6
      have HI_7 := Lib.hid (HI_6.out.call h)
      clear HI_6
      have HM_7 := Lib.hid (HM_6.out.call h)
      clear HM_6
      have HJ_7 := Lib.hid (HJ_6.out.call h)
      clear HJ_6
      have HB_7 := Lib.hid (below_call HB_6.out h)
      clear h
      go_wp2_with fail
      refine (K4.out _ HVa_7.out.m).mono ?_
      rintro e w8 ⟨u4, rfl, hu4, h⟩
      obtain ⟨p4, c4, rfl⟩ : ∃ p c, u4 = .slice p M.length c := (by obtain ⟨p, c, e, _⟩ := hu4; exact ⟨p, c, e⟩)
      have HG_8 := Lib.hid (HG_7.out.here h)
      clear HG_7
      have HVa_8 := Lib.hid (HVa_7.out.call h)
      clear HVa_7
      have HI_8 := Lib.hid (HI_7.out.call h)
      clear HI_7
      have HM_8 := Lib.hid (HM_7.out.call h)
      clear HM_7
      have HB_8 := Lib.hid (below_call HB_7.out h)
      clear h
      have HP_8 := Lib.hid (hu4)
      clear hu4
      go_wp2_with fail
      refine (KE.out _ _ _ HM_8.out HP_8.out).mono ?_
      rintro e w9 ⟨rfl, h⟩
      have HG_9 := Lib.hid (HG_8.out.here h)
      clear HG_8
      have HVa_9 := Lib.hid (HVa_8.out.call h)
      clear HVa_8
      have HI_9 := Lib.hid (HI_8.out.call h)
      clear HI_8
      have HM_9 := Lib.hid (HM_8.out.call h)
      clear HM_8
      have HP_9 := Lib.hid (HP_8.out.call h)
      clear HP_8
      have HB_9 := Lib.hid (below_call HB_8.out h)
      clear h
      go_wp2_with fail
      refine (KH.out _ _ HI_9.out).mono ?_
      rintro e w10 ⟨rfl, h⟩
      have HG_10 := Lib.hid (HG_9.out.here h)
      clear HG_9
      have HVa_10 := Lib.hid (HVa_9.out.call h)
      clear HVa_9
      have HI_10 := Lib.hid (HI_9.out.call h)
      clear HI_9
      have HM_10 := Lib.hid (HM_9.out.call h)
      clear HM_9
      have HB_10 := Lib.hid (below_call HB_9.out h)
      clear h
      go_wp2_with fail
      go_ret
      exact ⟨by cases d <;> (simp at him2 ⊢; first | exact him2 | omega), HB_10.out⟩
set_option maxRecDepth 100000 in
set_option maxHeartbeats 4000000 in
theorem lawKnows11_any (C : ScopeC) (va : Value) (t r c : Int) (w : World) (hg : GlobK w) (ha : knoArg w va) (nt : 0 ≤ t ∧ t ≤ 18446744073709551615) (nr : 0 ≤ r ∧ r ≤ 18446744073709551615) (nc : 0 ≤ c ∧ c ≤ 18446744073709551615) :
    Calls Tryz.prog 4 #[va, .agg #[.int .u64 t, .int .u64 r, .int .u64 c]] w (IsEnd true w) := by
  have KL := Lib.hid (fun W h => alive11_any C W h)
  have HG_0 := Lib.hid hg; clear hg
  have HC := Lib.hid C; clear C
  obtain ⟨⟨pa, na, ca, rfl⟩, ba, hfa, hva⟩ := ha.few
  have KFa := Lib.hid hfa; have HVa := Lib.hid hva; clear hfa hva ha
  obtain ⟨w1, hw1⟩ : ∃ w', w.alloc (.cells #[.int .u64 t, .int .u64 r, .int .u64 c] 36) = w' := ⟨_, rfl⟩
  have h : Below w.heap.size w w1 := hw1 ▸ below_new w _
  have HG_1 := Lib.hid (HG_0.out.here h)
  clear HG_0
  have HB_1 := Lib.hid h
  clear h
  have HX_1 := Lib.hid (show E3 w1 w.heap.size t r (.int .u64 c) from hw1 ▸ E3.new w t r (.int .u64 c) 36 _ rfl)
  go_enter Tryz.func4, Tryz.ntmps4
  go_wp2_with fail
  clear hw1
  refine (KFa.out _ HB_1.out).mono ?_
  rintro e w2 ⟨rfl, h⟩
  have HG_2 := Lib.hid (HG_1.out.here h)
  clear HG_1
  have HX_2 := Lib.hid (HX_1.out.call h)
  clear HX_1
  have HB_2 := Lib.hid (below_call HB_1.out h)
  clear h
  cases ba with
  | false =>
    go_wp2_with fail
    refine (KL.out _ HG_2.out).mono ?_
    rintro e w3 ⟨rfl, h⟩
    have HG_3 := Lib.hid (HG_2.out.here h)
    clear HG_2
    have HX_3 := Lib.hid (HX_2.out.call h)
    clear HX_2
    have HB_3 := Lib.hid (below_call HB_2.out h)
    clear h
    go_wp2_with fail
    go_ret
    exact ⟨rfl, HB_3.out⟩
  | true =>
    obtain ⟨A, ha, hsa⟩ := HVa.out (by trivial)
    have h64a := ha.m.all1
    have HVa_2 := Lib.hid (ha.call HB_2.out)
    clear ha
    obtain ⟨rb, hrb⟩ : ∃ b, rightK A = b := ⟨_, rfl⟩
    have KR := Lib.hid (hrb ▸ refRight11_any A (.slice pa na ca) _ HVa_2.out.m : Calls Tryz.prog 15 #[.slice pa na ca] w2 (IsEnd rb w2))
    have HRB := Lib.hid (fun e => good_of_rightK h64a.1 h64a.2 (hrb.trans e))
    clear hrb h64a
    go_wp2_with fail
    refine (KR.out).mono ?_
    rintro e w3 ⟨rfl, h⟩
    have HG_3 := Lib.hid (HG_2.out.here h)
    clear HG_2
    have HX_3 := Lib.hid (HX_2.out.call h)
    clear HX_2
    have HVa_3 := Lib.hid (HVa_2.out.call h)
    clear HVa_2
    have HB_3 := Lib.hid (below_call HB_2.out h)
    clear h
    clear KR
    cases rb with
    | false =>
      go_wp2_with fail
      refine (KL.out _ HG_3.out).mono ?_
      rintro e w4 ⟨rfl, h⟩
      have HG_4 := Lib.hid (HG_3.out.here h)
      clear HG_3
      have HX_4 := Lib.hid (HX_3.out.call h)
      clear HX_3
      have HVa_4 := Lib.hid (HVa_3.out.call h)
      clear HVa_3
      have HB_4 := Lib.hid (below_call HB_3.out h)
      clear h
      go_wp2_with fail
      go_ret
      exact ⟨rfl, HB_4.out⟩
    | true =>
      have hgood := HRB.out rfl
      obtain ⟨d, hd⟩ : ∃ d, hasK A t r c = d := ⟨_, rfl⟩
      have K1 := Lib.hid (fun W h => (hd ▸ HC.out.has A (.slice pa na ca) t r c W h hgood nt.1 nt.2 nr.1 nr.2 nc.1 nc.2 : Calls Tryz.prog 16 #[.slice pa na ca, .int .u64 t, .int .u64 r, .int .u64 c] W (IsEnd d W)))
      have K2 := Lib.hid (fun W h => (hd ▸ refHas11_any A (.slice pa na ca) t r c W h : Calls Tryz.prog 17 #[.slice pa na ca, .int .u64 t, .int .u64 r, .int .u64 c] W (IsEnd d W)))
      clear hd hgood hsa nt nr nc
      have HS := Lib.hid (k3_call ⟨Below.refl w3.heap.size w3, HX_3.out.1, HX_3.out.2.1, HX_3.out.2.2⟩ (Below.refl _ _).drew)
      go_wp2_with fail
      go_region_held3 (fun w' => Below w3.heap.size w3 w' ∧ w'.cell? ⟨w.heap.size, 0, none⟩ = some (.int .u64 t) ∧ w'.cell? ⟨w.heap.size, 1, none⟩ = some (.int .u64 r) ∧ w'.cell? ⟨w.heap.size, 2, none⟩ = some (.int .u64 c))
        (first
          | exact k3_call (by assumption) (Hid.out (by assumption))
          | exact HS.out
          | assumption)
        (first
          | (go_at_call 10; refine (KL.out _ (HG_3.out.here HS.out.1)).mono ?_; rintro en w' ⟨rfl, h'⟩; have h' := Lib.hid h')
          | (go_at_call 16; refine (K1.out _ (HVa_3.out.call (And.left (by assumption)))).mono ?_; rintro en w' ⟨rfl, h'⟩; have h' := Lib.hid h')
          | (go_at_call 17; refine (K2.out _ (HVa_3.out.call (And.left (by assumption))).m).mono ?_; rintro en w' ⟨rfl, h'⟩; have h' := Lib.hid h'))
      all_goals
        rename_i hE
        have HE := Lib.hid (below_call HB_3.out hE.1)
        clear hE
        go_wp2_with fail
        go_ret
        exact ⟨by simp, HE.out⟩
end Go.Proofs.YtemhbmcgnmfoaaaGreatDoor

/- The law ScopeAt in every state, out of what packages scope and vector say. Conditions: their contracts, the reference's union, and the fixed value of errors.errorType. -/
namespace Go.Proofs.YtemhbmcgnmfoaaaGreatDoor
open Go.RowKit
theorem at_can11 {V : List (Int × Int × List Iv)} (h : GoodV V ∧ ∀ y ∈ V, canonB y.2.1 y.2.2 = true) : (canV V && rightV V) = true := by rw [right_of_good h.1, canV_of h.1 h.2]; rfl
def RefOr10 : Prop := ∀ (A B : List (Int × Int × List Iv)) (a b : Value) (w : World), VecI w a A → VecI w b B → GoodV A → GoodV B → smallV 1000 1000 A → smallV 1000 1000 B → Calls Tryz.prog 46 #[a, b, .int .i64 0] w (IsVI (opV orL A B) w)
def VCanC11 : Prop := ∀ (V : List (Int × Int × List Iv)) (v : Value) (w : World), ErrT w → VecS w v V → Calls Tryz.prog 21 #[v] w (IsEnd (canV V && rightV V) w)
set_option maxRecDepth 100000 in
set_option maxHeartbeats 4000000 in
theorem lawAt11_any (C : ScopeC) (VC : VCanC11) (VH : VHasC) (RD : RefOr10) (va : Value) (t r c : Int) (w : World) (hg : GlobK w) (ha : knoArg w va) (nt : 0 ≤ t ∧ t ≤ 18446744073709551615) (nr : 0 ≤ r ∧ r ≤ 18446744073709551615) (nc : 0 ≤ c ∧ c ≤ 18446744073709551615) :
    Calls Tryz.prog 5 #[va, .agg #[.int .u64 t, .int .u64 r, .int .u64 c]] w (IsEnd true w) := by
  have KL := Lib.hid (fun W h => alive11_any C W h)
  have HG_0 := Lib.hid hg; clear hg
  have HC := Lib.hid C; clear C
  obtain ⟨⟨pa, na, ca, rfl⟩, ba, hfa, hva⟩ := ha.few
  have KFa := Lib.hid hfa; have HVa := Lib.hid hva; clear hfa hva ha
  obtain ⟨w1, hw1⟩ : ∃ w', w.alloc (.cells #[.int .u64 t, .int .u64 r, .int .u64 c] 36) = w' := ⟨_, rfl⟩
  have h : Below w.heap.size w w1 := hw1 ▸ below_new w _
  have HG_1 := Lib.hid (HG_0.out.here h)
  clear HG_0
  have HB_1 := Lib.hid h
  clear h
  have HX_1 := Lib.hid (show E3 w1 w.heap.size t r (.int .u64 c) from hw1 ▸ E3.new w t r (.int .u64 c) 36 _ rfl)
  go_enter Tryz.func5, Tryz.ntmps5
  go_wp2_with fail
  clear hw1
  refine (KFa.out _ HB_1.out).mono ?_
  rintro e w2 ⟨rfl, h⟩
  have HG_2 := Lib.hid (HG_1.out.here h)
  clear HG_1
  have HX_2 := Lib.hid (HX_1.out.call h)
  clear HX_1
  have HB_2 := Lib.hid (below_call HB_1.out h)
  clear h
  cases ba with
  | false =>
    go_wp2_with fail
    refine (KL.out _ HG_2.out).mono ?_
    rintro e w3 ⟨rfl, h⟩
    have HG_3 := Lib.hid (HG_2.out.here h)
    clear HG_2
    have HX_3 := Lib.hid (HX_2.out.call h)
    clear HX_2
    have HB_3 := Lib.hid (below_call HB_2.out h)
    clear h
    go_wp2_with fail
    go_ret
    exact ⟨rfl, HB_3.out⟩
  | true =>
    obtain ⟨A, ha, hsa⟩ := HVa.out (by trivial)
    have h64a := ha.m.all1
    have HVa_2 := Lib.hid (ha.call HB_2.out)
    clear ha
    obtain ⟨rb, hrb⟩ : ∃ b, rightK A = b := ⟨_, rfl⟩
    have KR := Lib.hid (hrb ▸ refRight11_any A (.slice pa na ca) _ HVa_2.out.m : Calls Tryz.prog 15 #[.slice pa na ca] w2 (IsEnd rb w2))
    have HRB := Lib.hid (fun e => good_of_rightK h64a.1 h64a.2 (hrb.trans e))
    clear hrb h64a
    go_wp2_with fail
    refine (KR.out).mono ?_
    rintro e w3 ⟨rfl, h⟩
    have HG_3 := Lib.hid (HG_2.out.here h)
    clear HG_2
    have HX_3 := Lib.hid (HX_2.out.call h)
    clear HX_2
    have HVa_3 := Lib.hid (HVa_2.out.call h)
    clear HVa_2
    have HB_3 := Lib.hid (below_call HB_2.out h)
    clear h
    clear KR
    cases rb with
    | false =>
      go_wp2_with fail
      refine (KL.out _ HG_3.out).mono ?_
      rintro e w4 ⟨rfl, h⟩
      have HG_4 := Lib.hid (HG_3.out.here h)
      clear HG_3
      have HX_4 := Lib.hid (HX_3.out.call h)
      clear HX_3
      have HVa_4 := Lib.hid (HVa_3.out.call h)
      clear HVa_3
      have HB_4 := Lib.hid (below_call HB_3.out h)
      clear h
      go_wp2_with fail
      go_ret
      exact ⟨rfl, HB_4.out⟩
    | true =>
      have hgood := HRB.out rfl
      have hag := atK_good (t := t) A [] goodV_nil hgood
      have hash := atK_hasK hgood t r nc.1
      obtain ⟨d, hd⟩ : ∃ d, hasK A t r c = d := ⟨_, rfl⟩
      rw [hd] at hash
      have K1 := Lib.hid (fun W hgl h => HC.out.at' A (.slice pa na ca) t W hgl h hgood hsa nt.1 nt.2)
      have K2 := Lib.hid (fun W h => refAt11_any RD A (.slice pa na ca) t W h hgood hsa)
      have K3 := Lib.hid (fun s u W h h2 => same9_self (atK A t) s u W h h2)
      have K4 := Lib.hid (fun s W (h : GlobK W) h2 => (at_can11 hag ▸ VC (atK A t) s W h.e h2 : Calls Tryz.prog 21 #[s] W (IsEnd true W)))
      have K5 := Lib.hid (fun s W h => (hash ▸ VH (atK A t) s r c W h hag.1 nr.1 nr.2 nc.1 nc.2 : Calls Tryz.prog 22 #[s, .int .u64 r, .int .u64 c] W (IsEnd d W)))
      have K6 := Lib.hid (fun W h => (hd ▸ HC.out.has A (.slice pa na ca) t r c W h hgood nt.1 nt.2 nr.1 nr.2 nc.1 nc.2 : Calls Tryz.prog 16 #[.slice pa na ca, .int .u64 t, .int .u64 r, .int .u64 c] W (IsEnd d W)))
      clear hd hash hag hgood hsa nt nr nc RD VC VH
      generalize atK A t = D at *
      have hx0 := HX_3.out.1
      go_wp2_with fail
      refine (K1.out _ HG_3.out HVa_3.out).mono ?_
      rintro e w4 ⟨u, rfl, hu, _, h⟩
      obtain ⟨pu, cu, rfl⟩ := hu.m.shape
      have HG_4 := Lib.hid (HG_3.out.here h)
      clear HG_3
      have HX_4 := Lib.hid (HX_3.out.call h)
      clear HX_3
      have HVa_4 := Lib.hid (HVa_3.out.call h)
      clear HVa_3
      have HB_4 := Lib.hid (below_call HB_3.out h)
      clear h
      clear hx0
      have HU_4 := Lib.hid (hu)
      clear hu
      have HS := Lib.hid (k3_call ⟨Below.refl w4.heap.size w4, HX_4.out.1, HX_4.out.2.1, HX_4.out.2.2⟩ (Below.refl _ _).drew)
      go_wp2_with fail
      go_region_held3 (fun w' => Below w4.heap.size w4 w' ∧ w'.cell? ⟨w.heap.size, 0, none⟩ = some (.int .u64 t) ∧ w'.cell? ⟨w.heap.size, 1, none⟩ = some (.int .u64 r) ∧ w'.cell? ⟨w.heap.size, 2, none⟩ = some (.int .u64 c))
        (first
          | exact k3_call (by assumption) (Hid.out (by assumption))
          | exact HS.out
          | assumption)
        (first
          | (go_at_call 10; refine (KL.out _ (HG_4.out.here HS.out.1)).mono ?_; rintro en w' ⟨rfl, h'⟩; have h' := Lib.hid h')
          | (go_at_call 20; refine (K2.out _ (HVa_4.out.call (And.left (by assumption))).m).mono ?_; rintro en w' ⟨u2, rfl, hu2, h'⟩; obtain ⟨p2, c2, rfl⟩ := hu2.shape; have HI := Lib.hid hu2; clear hu2; have h' := Lib.hid h')
          | (go_at_call 19; refine (K3.out _ _ _ (HU_4.out.call (And.left (by assumption))).m.i HI.out).mono ?_; rintro en w' ⟨rfl, h'⟩; have h' := Lib.hid h')
          | (go_at_call 21; refine (K4.out _ _ (HG_4.out.here (And.left (by assumption))) (HU_4.out.call (And.left (by assumption)))).mono ?_; rintro en w' ⟨rfl, h'⟩; have h' := Lib.hid h')
          | (go_at_call 22; refine (K5.out _ _ (HU_4.out.call (And.left (by assumption)))).mono ?_; rintro en w' ⟨rfl, h'⟩; have h' := Lib.hid h')
          | (go_at_call 16; refine (K6.out _ (HVa_4.out.call (And.left (by assumption)))).mono ?_; rintro en w' ⟨rfl, h'⟩; have h' := Lib.hid h'))
      all_goals
        rename_i hE
        have HE := Lib.hid (below_call HB_4.out hE.1)
        clear hE
        go_wp2_with fail
        go_ret
        exact ⟨by simp, HE.out⟩
end Go.Proofs.YtemhbmcgnmfoaaaGreatDoor
