/- The example of chapter 9, in every state. Conditions: the contracts of package vector, and the fixed value of errors.errorType. -/
import Derived.Test.YtgeggdaokjimjaaDoorPVec
import Derived.Test.YtgeggdaokjimjaaDoorNAlive
namespace Go.Proofs.YtgeggdaokjimjaaDoor
open Go.RowKit
theorem vec_nil9 (w : World) : VecS w (.slice none 0 0) [] :=
  ⟨⟨⟨[], ⟨none, 0, rfl, Nat.zero_le _, fun h => absurd rfl h⟩, rfl, fun i e x h => by simp at h⟩, Nat.zero_le _⟩, sane_nil, fun x hx => by cases hx⟩
theorem vec_one9 {w : World} {b : Nat} {r m : Int} {s : Value} {H : List Iv} (c0 : w.cell? ⟨b, 0, none⟩ = some (.int .u64 r)) (c1 : w.cell? ⟨b, 1, none⟩ = some (.int .u64 m)) (c2 : w.cell? ⟨b, 2, none⟩ = some s) (ha : AnyAt w s m H) (hr : 0 ≤ r ∧ r ≤ 18446744073709551615) : VecS w (.slice (some ⟨b, 0, none⟩) 1 1) [(r, m, H)] := by
  refine ⟨⟨⟨[(r, m, s)], ⟨_, _, rfl, (by show (1 : Nat) ≤ maxLen; decide), fun _ => ⟨b, 0, rfl, fun i e he => ?_⟩⟩, rfl, fun i e x he hx => ?_⟩, by simp⟩, sane_lit _ _ _ (Nat.le_refl _), fun x hx => by rw [List.mem_singleton.1 hx]; exact hr⟩
  · match i, he with
    | 0, he => simp at he; subst he; exact ⟨c0, c1, c2⟩
  · match i, he, hx with
    | 0, he, hx => simp at he hx; subst he; subst hx; exact ⟨rfl, rfl, ha⟩
theorem vec_two9 {w : World} {b : Nat} {r m r' m' : Int} {s s' : Value} {H H' : List Iv} (c0 : w.cell? ⟨b, 0, none⟩ = some (.int .u64 r)) (c1 : w.cell? ⟨b, 1, none⟩ = some (.int .u64 m)) (c2 : w.cell? ⟨b, 2, none⟩ = some s) (c3 : w.cell? ⟨b, 3, none⟩ = some (.int .u64 r')) (c4 : w.cell? ⟨b, 4, none⟩ = some (.int .u64 m')) (c5 : w.cell? ⟨b, 5, none⟩ = some s')
    (ha : AnyAt w s m H) (ha' : AnyAt w s' m' H') (hr : 0 ≤ r ∧ r ≤ 18446744073709551615) (hr' : 0 ≤ r' ∧ r' ≤ 18446744073709551615) : VecS w (.slice (some ⟨b, 0, none⟩) 2 2) [(r, m, H), (r', m', H')] := by
  refine ⟨⟨⟨[(r, m, s), (r', m', s')], ⟨_, _, rfl, (by show (2 : Nat) ≤ maxLen; decide), fun _ => ⟨b, 0, rfl, fun i e he => ?_⟩⟩, rfl, fun i e x he hx => ?_⟩, by simp⟩, sane_lit _ _ _ (Nat.le_refl _), fun x hx => ?_⟩
  · match i, he with
    | 0, he => simp at he; subst he; exact ⟨c0, c1, c2⟩
    | 1, he => simp at he; subst he; exact ⟨c3, c4, c5⟩
  · match i, he, hx with
    | 0, he, hx => simp at he hx; subst he; subst hx; exact ⟨rfl, rfl, ha⟩
    | 1, he, hx => simp at he hx; subst he; subst hx; exact ⟨rfl, rfl, ha'⟩
  · simp at hx
    rcases hx with rfl | rfl
    · exact hr
    · exact hr'
/-- The example's vector. -/
def exV : List (Int × Int × List Iv) := [(7, 5, [(2, 3)])]
theorem ex_good : GoodV exV := ⟨fun x hx => by
  rw [List.mem_singleton.1 hx]
  exact ⟨good_one (by omega) (by omega) (by omega), by decide, by unfold UM; decide, fun y hy => by simp at hy; subst hy; decide⟩, List.pairwise_singleton _ _⟩
theorem ex_chk : chkE9 exV = none := by
  have h := right_of_good ex_good
  unfold rightV at h
  unfold chkE9
  rw [Option.isNone_iff_eq_none.1 h]; rfl
theorem ex_can : (canV exV && rightV exV) = true := by
  rw [right_of_good ex_good, canV_of ex_good (fun y hy => by rw [List.mem_singleton.1 hy]; decide)]; rfl
theorem nil_goodE : GoodE 0 [] := ⟨good_nil, Int.le_refl _, UM_pos, fun y hy => by cases hy⟩
def twoV : List (Int × Int × List Iv) := [(1, 0, []), (1, 0, [])]
theorem two_code : codeE (chkE9 twoV) = 3 := by
  rw [chkE9_code]
  have hc := code_good nil_goodE
  have h0 : badV twoV 0 = 0 := badV_first (r := 1) (m := 0) (H := []) rfl hc
  have h1 : badV twoV 1 = 3 := by rw [badV_next (r := 1) (m := 0) (H := []) (r' := 1) (m' := 0) (H' := []) rfl rfl hc]; rfl
  unfold vCode
  have hj0 : ∀ j, j < 1 → badV twoV j = 0 := by
    intro j hj
    obtain rfl : j = 0 := by omega
    exact h0
  rw [chkVec_some (k := 1) (by decide) hj0 (by rw [h1]; decide), h1]
theorem ex_has4 : hasV exV 7 4 = true := by decide
theorem ex_has3 : hasV exV 7 3 = false := by decide
theorem ex_find : findV exV 8 = -1 := by decide
theorem ex_cmp : cmpL (numsV []) (numsV exV) = -1 := by decide
theorem ex_nums : numsV exV = [1, 7, 5, 1, 2, 3] := by decide
def IsNil9 (w : World) (e : Ending) (w' : World) : Prop := e = .returned .nilIface ∧ Below w.heap.size w w'
theorem six_new (w : World) (a b c d e f : Int) (t : TypeId) : NumR (w.alloc (.cells #[.int .u64 a, .int .u64 b, .int .u64 c, .int .u64 d, .int .u64 e, .int .u64 f] t)) (.slice (some ⟨w.heap.size, 0, none⟩) 6 6) [a, b, c, d, e, f] := by
  refine ⟨_, _, rfl, (by show (6 : Nat) ≤ maxLen; decide), fun _ => ⟨w.heap.size, 0, rfl, fun i x hx => ?_⟩⟩
  match i, hx with
  | 0, hx => simp at hx; subst hx; simp
  | 1, hx => simp at hx; subst hx; simp
  | 2, hx => simp at hx; subst hx; simp
  | 3, hx => simp at hx; subst hx; simp
  | 4, hx => simp at hx; subst hx; simp
  | 5, hx => simp at hx; subst hx; simp
set_option maxRecDepth 100000 in
set_option maxHeartbeats 4000000 in
theorem alive9_any (C : VecC) (w : World) (hg : ErrT w) : Calls Tryd.prog 9 #[] w (IsEnd true w) := by
  have HG_0 := Lib.hid hg; clear hg
  have K1 := Lib.hid (fun B W h => (by have k := C.nums exV (.slice (some ⟨B, 0, none⟩) 1 1) W h; rw [ex_nums] at k; exact k : Calls Tryd.prog 23 #[.slice (some ⟨B, 0, none⟩) 1 1] W (IsNR [1, 7, 5, 1, 2, 3] W)))
  have K2 := Lib.hid (fun B W h h2 => (by have k := C.chk exV (.slice (some ⟨B, 0, none⟩) 1 1) W h h2; rw [ex_chk] at k; exact k : Calls Tryd.prog 10 #[.slice (some ⟨B, 0, none⟩) 1 1] W (IsNil9 W)))
  have K3 := Lib.hid (fun B W h h2 => (ex_can ▸ C.can exV (.slice (some ⟨B, 0, none⟩) 1 1) W h h2 : Calls Tryd.prog 14 #[.slice (some ⟨B, 0, none⟩) 1 1] W (IsEnd true W)))
  have K4 := Lib.hid (fun B W h => (by have k := C.has exV (.slice (some ⟨B, 0, none⟩) 1 1) 7 4 W h ex_good (by decide) (by decide) (by decide) (by decide); rw [ex_has4] at k; exact k : Calls Tryd.prog 19 #[.slice (some ⟨B, 0, none⟩) 1 1, .int .u64 7, .int .u64 4] W (IsEnd true W)))
  have K5 := Lib.hid (fun B W h => (by have k := C.has exV (.slice (some ⟨B, 0, none⟩) 1 1) 7 3 W h ex_good (by decide) (by decide) (by decide) (by decide); rw [ex_has3] at k; exact k : Calls Tryd.prog 19 #[.slice (some ⟨B, 0, none⟩) 1 1, .int .u64 7, .int .u64 3] W (IsEnd false W)))
  have K6 := Lib.hid (fun B W h => (by have k := C.find exV (.slice (some ⟨B, 0, none⟩) 1 1) 8 W h ex_good (by decide) (by decide); rw [ex_find] at k; exact k : Calls Tryd.prog 17 #[.slice (some ⟨B, 0, none⟩) 1 1, .int .u64 8] W (IsInt (-1) W)))
  have K7 := Lib.hid (fun B W h h2 => (by have k := C.cmp [] exV (.slice none 0 0) (.slice (some ⟨B, 0, none⟩) 1 1) W h h2; rw [ex_cmp] at k; exact k : Calls Tryd.prog 21 #[.slice none 0 0, .slice (some ⟨B, 0, none⟩) 1 1] W (IsInt (-1) W)))
  have K8 := Lib.hid (fun B W h h2 => C.chk twoV (.slice (some ⟨B, 0, none⟩) 2 2) W h h2)
  have K9 := Lib.hid (fun W h => (by have k := Code_any (chkE9 twoV) W h; rw [two_code] at k; exact k : Calls Tryd.prog 12 #[errV (chkE9 twoV)] W (IntEnd 3 W)))
  have KE := Lib.hid (fun s t W h h2 => (by have k := equalU_any [1, 7, 5, 1, 2, 3] [1, 7, 5, 1, 2, 3] s t W h h2; rw [show decide ((([1, 7, 5, 1, 2, 3] : List Int)) = [1, 7, 5, 1, 2, 3]) = true from by simp] at k; exact k : Calls Tryd.prog 22 #[s, t] W (IsEnd true W)))
  unfold IsErr at K8
  generalize errV (chkE9 twoV) = ev at *
  clear C
  obtain ⟨w1, hw1⟩ : ∃ w', w.alloc (.cells #[.int .u64 2, .int .u64 3] 49) = w' := ⟨_, rfl⟩
  have h : Below w.heap.size w w1 := hw1 ▸ below_new w _
  have HG_1 := Lib.hid (HG_0.out.here h)
  clear HG_0
  have HB_1 := Lib.hid h
  clear h
  have hI : IvsAt w1 (.slice (some ⟨w.heap.size, 0, none⟩) 1 1) [(2, 3)] := hw1 ▸ iv_one w 2 3 49 _ rfl
  obtain ⟨w2, hw2⟩ : ∃ w', w1.alloc (.cells #[.int .u64 7, .int .u64 5, .slice (some ⟨w.heap.size, 0, none⟩) 1 1] 47) = w' := ⟨_, rfl⟩
  have h : Below w1.heap.size w1 w2 := hw2 ▸ below_new w1 _
  have HG_2 := Lib.hid (HG_1.out.here h)
  clear HG_1
  have HB_2 := Lib.hid (below_call HB_1.out h)
  clear h
  have hV : VecS w2 (.slice (some ⟨w1.heap.size, 0, none⟩) 1 1) exV := vec_one9 (by rw [← hw2]; simp) (by rw [← hw2]; simp) (by rw [← hw2]; simp) ⟨hI.call (hw2 ▸ below_new w1 _), one_all (by omega) (by omega), sane_lit _ _ _ (Nat.le_refl _), by omega, by omega, by simp⟩ (by omega)
  have HV_2 := Lib.hid (hV)
  clear hI hV
  go_enter Tryd.func9, Tryd.ntmps9
  go_wp2_with fail
  clear hw1 hw2
  refine (K1.out _ _ HV_2.out).mono ?_
  rintro e w3 ⟨u, rfl, hu, h⟩
  have HG_3 := Lib.hid (HG_2.out.here h)
  clear HG_2
  have HV_3 := Lib.hid (HV_2.out.call h)
  clear HV_2
  have HB_3 := Lib.hid (below_call HB_2.out h)
  clear h
  have HU_3 := Lib.hid (hu)
  clear hu
  obtain ⟨w4, hw4⟩ : ∃ w', w3.alloc (.cells #[.int .u64 1, .int .u64 7, .int .u64 5, .int .u64 1, .int .u64 2, .int .u64 3] 34) = w' := ⟨_, rfl⟩
  have h : Below w3.heap.size w3 w4 := hw4 ▸ below_new w3 _
  have HG_4 := Lib.hid (HG_3.out.here h)
  clear HG_3
  have HV_4 := Lib.hid (HV_3.out.call h)
  clear HV_3
  have HU_4 := Lib.hid (HU_3.out.call h)
  clear HU_3
  have HB_4 := Lib.hid (below_call HB_3.out h)
  clear h
  have HE_4 := Lib.hid (hw4 ▸ six_new w3 1 7 5 1 2 3 34)
  go_wp2_with fail
  clear hw4
  refine (KE.out _ _ _ HU_4.out HE_4.out).mono ?_
  rintro e w5 ⟨rfl, h⟩
  have HG_5 := Lib.hid (HG_4.out.here h)
  clear HG_4
  have HV_5 := Lib.hid (HV_4.out.call h)
  clear HV_4
  have HU_5 := Lib.hid (HU_4.out.call h)
  clear HU_4
  have HE_5 := Lib.hid (HE_4.out.call h)
  clear HE_4
  have HB_5 := Lib.hid (below_call HB_4.out h)
  clear h
  go_wp2_with fail
  refine (K2.out _ _ HG_5.out HV_5.out).mono ?_
  rintro e w6 ⟨rfl, h⟩
  have HG_6 := Lib.hid (HG_5.out.here h)
  clear HG_5
  have HV_6 := Lib.hid (HV_5.out.call h)
  clear HV_5
  have HB_6 := Lib.hid (below_call HB_5.out h)
  clear h
  go_wp2_with fail
  refine (K3.out _ _ HG_6.out HV_6.out).mono ?_
  rintro e w7 ⟨rfl, h⟩
  have HG_7 := Lib.hid (HG_6.out.here h)
  clear HG_6
  have HV_7 := Lib.hid (HV_6.out.call h)
  clear HV_6
  have HB_7 := Lib.hid (below_call HB_6.out h)
  clear h
  go_wp2_with fail
  refine (K4.out _ _ HV_7.out).mono ?_
  rintro e w8 ⟨rfl, h⟩
  have HG_8 := Lib.hid (HG_7.out.here h)
  clear HG_7
  have HV_8 := Lib.hid (HV_7.out.call h)
  clear HV_7
  have HB_8 := Lib.hid (below_call HB_7.out h)
  clear h
  go_wp2_with fail
  refine (K5.out _ _ HV_8.out).mono ?_
  rintro e w9 ⟨rfl, h⟩
  have HG_9 := Lib.hid (HG_8.out.here h)
  clear HG_8
  have HV_9 := Lib.hid (HV_8.out.call h)
  clear HV_8
  have HB_9 := Lib.hid (below_call HB_8.out h)
  clear h
  go_wp2_with fail
  refine (K6.out _ _ HV_9.out).mono ?_
  rintro e w10 ⟨rfl, h⟩
  have HG_10 := Lib.hid (HG_9.out.here h)
  clear HG_9
  have HV_10 := Lib.hid (HV_9.out.call h)
  clear HV_9
  have HB_10 := Lib.hid (below_call HB_9.out h)
  clear h
  go_wp2_with fail
  refine (K7.out _ _ (vec_nil9 _) HV_10.out).mono ?_
  rintro e w11 ⟨rfl, h⟩
  have HG_11 := Lib.hid (HG_10.out.here h)
  clear HG_10
  have HV_11 := Lib.hid (HV_10.out.call h)
  clear HV_10
  have HB_11 := Lib.hid (below_call HB_10.out h)
  clear h
  obtain ⟨w12, hw12⟩ : ∃ w', w11.alloc (.cells #[.int .u64 1, .int .u64 0, .slice none 0 0, .int .u64 1, .int .u64 0, .slice none 0 0] 47) = w' := ⟨_, rfl⟩
  have h : Below w11.heap.size w11 w12 := hw12 ▸ below_new w11 _
  have HG_12 := Lib.hid (HG_11.out.here h)
  clear HG_11
  have HV_12 := Lib.hid (HV_11.out.call h)
  clear HV_11
  have HB_12 := Lib.hid (below_call HB_11.out h)
  clear h
  have hT : VecS w12 (.slice (some ⟨w11.heap.size, 0, none⟩) 2 2) twoV := vec_two9 (by rw [← hw12]; simp) (by rw [← hw12]; simp) (by rw [← hw12]; simp) (by rw [← hw12]; simp) (by rw [← hw12]; simp) (by rw [← hw12]; simp) ⟨ivs_nil _, (fun x hx => by cases hx), sane_nil, by omega, by omega, by simp⟩ ⟨ivs_nil _, (fun x hx => by cases hx), sane_nil, by omega, by omega, by simp⟩ (by omega) (by omega)
  have HT_12 := Lib.hid (hT)
  clear hT
  go_wp2_with fail
  clear hw12
  refine (K8.out _ _ HG_12.out HT_12.out).mono ?_
  rintro e w13 ⟨rfl, h⟩
  have HG_13 := Lib.hid (HG_12.out.here h)
  clear HG_12
  have HV_13 := Lib.hid (HV_12.out.call h)
  clear HV_12
  have HT_13 := Lib.hid (HT_12.out.call h)
  clear HT_12
  have HB_13 := Lib.hid (below_call HB_12.out h)
  clear h
  go_wp2_with fail
  refine (K9.out _ HG_13.out).mono ?_
  rintro e w14 ⟨rfl, h⟩
  have HG_14 := Lib.hid (HG_13.out.here h)
  clear HG_13
  have HV_14 := Lib.hid (HV_13.out.call h)
  clear HV_13
  have HT_14 := Lib.hid (HT_13.out.call h)
  clear HT_13
  have HB_14 := Lib.hid (below_call HB_13.out h)
  clear h
  go_wp2_with fail
  go_ret
  exact ⟨rfl, HB_14.out⟩
end Go.Proofs.YtgeggdaokjimjaaDoor
