/- The example of layer 7 out of what package entry says. Conditions: the contracts of package entry, and the fixed value of errors.errorType. -/
import Derived.Test.YtjnpcpcgigdngaaDoorNSet
namespace Go.Proofs.YtjnpcpcgigdngaaDoor
open Go.RowKit
theorem iv_two (w : World) (a b c d : Int) (t : TypeId) (k : Nat) (hk : k = w.heap.size) : IvsAt (w.alloc (.cells #[.int .u64 a, .int .u64 b, .int .u64 c, .int .u64 d] t)) (.slice (some ⟨k, 0, none⟩) 2 2) [(a, b), (c, d)] := by
  subst hk
  refine ⟨_, _, rfl, by simp, fun _ => ⟨w.heap.size, 0, rfl, fun i p hp => ?_⟩⟩
  match i, hp with
  | 0, hp => simp at hp; subst hp; simp
  | 1, hp => simp at hp; subst hp; simp
  | i + 2, hp => simp at hp
theorem iv_one (w : World) (a b : Int) (t : TypeId) (k : Nat) (hk : k = w.heap.size) : IvsAt (w.alloc (.cells #[.int .u64 a, .int .u64 b] t)) (.slice (some ⟨k, 0, none⟩) 1 1) [(a, b)] := by
  subst hk
  refine ⟨_, _, rfl, by simp, fun _ => ⟨w.heap.size, 0, rfl, fun i p hp => ?_⟩⟩
  match i, hp with
  | 0, hp => simp at hp; subst hp; simp
  | i + 1, hp => simp at hp
theorem chk_hole : chkN 0 [((0 : Int), (1 : Int))] = some (4, some 0) := by
  have h1 : chkV [((0 : Int), (1 : Int))] = none := by
    have : canon [((0 : Int), (1 : Int))] := ⟨by decide, fun z hz => (by cases hz), trivial⟩
    unfold chkV; rw [(canon_iff _).2 this]; rfl
  unfold chkN
  rw [h1, beyond_some (k := 0) (y := (0, 1)) rfl (by decide) (fun i z hi => absurd hi (Nat.not_lt_zero i))]
  rfl
theorem one_all {a b : Int} (h : 0 ≤ a ∧ a ≤ 18446744073709551615) (h' : 0 ≤ b ∧ b ≤ 18446744073709551615) : All64 [(a, b)] := fun x hx => by rw [List.mem_singleton.1 hx]; exact ⟨h, h'⟩
set_option maxRecDepth 100000 in
set_option maxHeartbeats 4000000 in
theorem alive7_any (C : EntC) (w : World) (hg : ErrT w) : Calls Tryd.prog 9 #[] w (IsEnd true w) := by
  have K1 : Hid (∀ s W, ErrT W → LstAt W s ex7 → Calls Tryd.prog 24 #[.int .u64 7, s] W (fun e w' => ∃ v, e = .returned (.tuple #[.agg #[.int .u64 7, .int .u64 8, v], .bool true]) ∧ IvsAt w' v [(4, 5)] ∧ SaneE v ∧ Below W.heap.size W w')) := Lib.hid fun s W h1 h2 => by
    have k := C.of' 7 ex7 s W h1 h2
    unfold IsEO at k
    rw [ex7_holes, show repE 7 ex7 = 7 from by simp [repE, ex7], show topL ex7 = 8 from rfl, show someE ex7 = true from rfl] at k
    refine k.mono ?_
    rintro e w' ⟨v, h1, h2, h3, _, h4⟩
    exact ⟨v, h1, h2, h3, h4⟩
  have K2 : Hid (∀ s W, ErrT W → EntAt W s 5 [(4, 5)] → Calls Tryd.prog 27 #[.agg #[.int .u64 0, .int .u64 5, s]] W (fun e w' => ∃ v, e = .returned (.tuple #[.agg #[.int .u64 0, .int .u64 3, v], .bool true]) ∧ IvsAt w' v [] ∧ Below W.heap.size W w')) := Lib.hid fun s W h1 h2 => by
    have k := C.canon 0 5 [(4, 5)] s W h1 h2
    unfold IsEO at k
    rw [five_known, three_holes, show repE 0 [((0 : Int), (3 : Int))] = 0 from by simp [repE], show topL [((0 : Int), (3 : Int))] = 3 from rfl, show someE [((0 : Int), (3 : Int))] = true from rfl] at k
    refine k.mono ?_
    rintro e w' ⟨v, h1, h2, _, _, h4⟩
    exact ⟨v, h1, h2, h4⟩
  have K3 : Hid (∀ s W, ErrT W → EntAt W s 8 [(4, 5)] → Calls Tryd.prog 10 #[.agg #[.int .u64 7, .int .u64 8, s]] W (fun e w' => e = .returned .nilIface ∧ Below W.heap.size W w')) := Lib.hid fun s W h1 h2 => by
    have k := C.chk 7 8 [(4, 5)] s W h1 h2.any
    rw [chkN_good eight_good] at k
    exact k
  have K4 : Hid (∀ s W, ErrT W → EntAt W s 8 [(4, 5)] → Calls Tryd.prog 14 #[.agg #[.int .u64 7, .int .u64 8, s]] W (IsEnd true W)) := Lib.hid fun s W h1 h2 => by
    have k := C.canonical 7 8 [(4, 5)] s W h1 h2.any
    rw [okN_good eight_good, show canonB 8 [((4 : Int), (5 : Int))] = true from by simp [canonB, hasL, inI]] at k
    exact k
  have K5 : Hid (∀ s W, ErrT W → EntAt W s 8 [(4, 5)] → Calls Tryd.prog 18 #[.agg #[.int .u64 7, .int .u64 8, s], .int .u64 3] W (IsEnd true W)) := Lib.hid fun s W h1 h2 => by
    have k := C.has 7 8 [(4, 5)] s 3 W h1 h2 (by omega) (by omega)
    rwa [show hasE 8 [((4 : Int), (5 : Int))] 3 = true from by simp [hasE, hasL, inI]] at k
  have K6 : Hid (∀ s W, ErrT W → EntAt W s 8 [(4, 5)] → Calls Tryd.prog 18 #[.agg #[.int .u64 7, .int .u64 8, s], .int .u64 4] W (IsEnd false W)) := Lib.hid fun s W h1 h2 => by
    have k := C.has 7 8 [(4, 5)] s 4 W h1 h2 (by omega) (by omega)
    rwa [show hasE 8 [((4 : Int), (5 : Int))] 4 = false from by simp [hasE, hasL, inI]] at k
  have K7 : Hid (∀ s W, ErrT W → AnyAt W s 0 [(0, 1)] → Calls Tryd.prog 10 #[.agg #[.int .u64 0, .int .u64 0, s]] W (IsErr (some (4, some 0)) W)) := Lib.hid fun s W h1 h2 => by
    have k := C.chk 0 0 [(0, 1)] s W h1 h2
    rwa [chk_hole] at k
  have K8 : Hid (∀ s s' W, IvsAt W s [(4, 5)] → IvsAt W s' [(4, 5)] → Calls Tryd.prog 26 #[.agg #[.int .u64 7, .int .u64 8, s], .agg #[.int .u64 7, .int .u64 8, s']] W (IsEnd true W)) := Lib.hid fun s s' W h1 h2 => by
    have k := refSameE_any 7 8 7 8 _ _ s s' W h1 h2
    rwa [show decide ((7 : Int) = 7 ∧ (8 : Int) = 8 ∧ [((4 : Int), (5 : Int))] = [(4, 5)]) = true from by simp] at k
  have K9 : Hid (∀ s s' W, IvsAt W s [] → IvsAt W s' [] → Calls Tryd.prog 26 #[.agg #[.int .u64 0, .int .u64 3, s], .agg #[.int .u64 0, .int .u64 3, s']] W (IsEnd true W)) := Lib.hid fun s s' W h1 h2 => by
    have k := refSameE_any 0 3 0 3 _ _ s s' W h1 h2
    rwa [show decide ((0 : Int) = 0 ∧ (3 : Int) = 3 ∧ ([] : List Iv) = []) = true from by simp] at k
  have K10 : Hid (∀ W, ErrT W → Calls Tryd.prog 12 #[errV (some (4, some 0))] W (IntEnd 4 W)) := Lib.hid fun W h => Code_any (some (4, some 0)) W h
  clear C
  have HG := Lib.hid hg; clear hg
  go_enter Tryd.func9, Tryd.ntmps9
  go_wp2_with fail
  have hn := below_new w (.cells #[.int .u64 0, .int .u64 3, .int .u64 6, .int .u64 8] 48)
  refine (K1.out _ _ (HG.out.here hn) ⟨iv_two w 0 3 6 8 48 _ rfl, ex7_good, sane_lit _ _ _ (Nat.le_refl _), by simp [ex7]⟩).mono ?_
  rintro e w1 ⟨v1, rfl, hv1, hs1, h⟩
  have HB1 := Lib.hid (below_call hn h); clear hn h
  obtain ⟨pv1, cv1, rfl, _⟩ := hv1.shape
  have HV1 := Lib.hid hv1; clear hv1
  have HS1 := Lib.hid hs1; clear hs1
  have HG1 := Lib.hid (HG.out.here HB1.out)
  go_wp2_with fail
  have hn1 := below_new w1 (.cells #[.int .u64 7, .int .u64 8, .slice pv1 1 cv1] 26)
  have hn := below_alloc hn1 (.cells #[.int .u64 4, .int .u64 5] 48)
  refine (K2.out _ _ (HG1.out.here hn) ⟨⟨iv_one _ 4 5 48 _ (by simp), one_all (by omega) (by omega), sane_lit _ _ _ (Nat.le_refl _), by omega, by omega, by simp⟩, five_good⟩).mono ?_
  rintro e w2 ⟨v2, rfl, hv2, h⟩
  have hb := below_call hn h
  have e0 := keep_cell (p := ⟨w1.heap.size, 0, none⟩) (v := .int .u64 7) (by simp) h
  have e1 := keep_cell (p := ⟨w1.heap.size, 1, none⟩) (v := .int .u64 8) (by simp) h
  have e2 := keep_cell (p := ⟨w1.heap.size, 2, none⟩) (v := .slice pv1 1 cv1) (by simp) h
  obtain ⟨pv2, cv2, rfl, _⟩ := hv2.shape
  have HV1_2 := Lib.hid (HV1.out.call hb)
  have HV2_2 := Lib.hid hv2; clear hv2
  have HG2 := Lib.hid (HG1.out.here hb)
  have HB2 := Lib.hid (below_call HB1.out hb)
  clear hn hn1 h hb
  have hn1 := below_new w2 (.cells #[.int .u64 0, .int .u64 3, .slice pv2 0 cv2] 26)
  have g0 := keep_cell e0 hn1
  have g1 := keep_cell e1 hn1
  have g2 := keep_cell e2 hn1
  go_wp2_with fail
  have hn := below_alloc hn1 (.cells #[.int .u64 4, .int .u64 5] 48)
  refine (K8.out _ _ _ (HV1_2.out.call hn) (iv_one (w2.alloc (.cells #[.int .u64 0, .int .u64 3, .slice pv2 0 cv2] 26)) 4 5 48 (w2.heap.size + 1) (by simp))).mono ?_
  rintro e w3 ⟨rfl, h⟩
  have hb := below_call hn h
  have c0 := keep_cell (p := ⟨w2.heap.size, 0, none⟩) (v := .int .u64 0) (by simp) h
  have c1 := keep_cell (p := ⟨w2.heap.size, 1, none⟩) (v := .int .u64 3) (by simp) h
  have c2 := keep_cell (p := ⟨w2.heap.size, 2, none⟩) (v := .slice pv2 0 cv2) (by simp) h
  have e0 := keep_cell e0 hb
  have e1 := keep_cell e1 hb
  have e2 := keep_cell e2 hb
  have HV1_3 := Lib.hid (HV1_2.out.call hb)
  have HV2_3 := Lib.hid (HV2_2.out.call hb)
  have HG3 := Lib.hid (HG2.out.here hb)
  have HB3 := Lib.hid (below_call HB2.out hb)
  clear hn hn1 h hb g0 g1 g2
  go_wp2_with fail
  refine (K9.out _ _ _ HV2_3.out (ivs_nil _)).mono ?_
  rintro e w4 ⟨rfl, h⟩
  have e0 := keep_cell e0 h
  have e1 := keep_cell e1 h
  have e2 := keep_cell e2 h
  have HV1_4 := Lib.hid (HV1_3.out.call h)
  have HG4 := Lib.hid (HG3.out.here h)
  have HB4 := Lib.hid (below_call HB3.out h)
  clear h
  go_wp2_with fail
  refine (K3.out _ _ HG4.out ⟨⟨HV1_4.out, one_all (by omega) (by omega), HS1.out, by omega, by omega, by simp⟩, eight_good⟩).mono ?_
  rintro e w5 ⟨rfl, h⟩
  have e0 := keep_cell e0 h
  have e1 := keep_cell e1 h
  have e2 := keep_cell e2 h
  have HV1_5 := Lib.hid (HV1_4.out.call h)
  have HG5 := Lib.hid (HG4.out.here h)
  have HB5 := Lib.hid (below_call HB4.out h)
  clear h
  go_wp2_with fail
  refine (K4.out _ _ HG5.out ⟨⟨HV1_5.out, one_all (by omega) (by omega), HS1.out, by omega, by omega, by simp⟩, eight_good⟩).mono ?_
  rintro e w6 ⟨rfl, h⟩
  have e0 := keep_cell e0 h
  have e1 := keep_cell e1 h
  have e2 := keep_cell e2 h
  have HV1_6 := Lib.hid (HV1_5.out.call h)
  have HG6 := Lib.hid (HG5.out.here h)
  have HB6 := Lib.hid (below_call HB5.out h)
  clear h
  go_wp2_with fail
  refine (K5.out _ _ HG6.out ⟨⟨HV1_6.out, one_all (by omega) (by omega), HS1.out, by omega, by omega, by simp⟩, eight_good⟩).mono ?_
  rintro e w7 ⟨rfl, h⟩
  have e0 := keep_cell e0 h
  have e1 := keep_cell e1 h
  have e2 := keep_cell e2 h
  have HV1_7 := Lib.hid (HV1_6.out.call h)
  have HG7 := Lib.hid (HG6.out.here h)
  have HB7 := Lib.hid (below_call HB6.out h)
  clear h
  go_wp2_with fail
  refine (K6.out _ _ HG7.out ⟨⟨HV1_7.out, one_all (by omega) (by omega), HS1.out, by omega, by omega, by simp⟩, eight_good⟩).mono ?_
  rintro e w8 ⟨rfl, h⟩
  have e0 := keep_cell e0 h
  have e1 := keep_cell e1 h
  have e2 := keep_cell e2 h
  have HV1_8 := Lib.hid (HV1_7.out.call h)
  have HG8 := Lib.hid (HG7.out.here h)
  have HB8 := Lib.hid (below_call HB7.out h)
  clear h
  go_wp2_with fail
  have hn := below_new w8 (.cells #[.int .u64 0, .int .u64 1] 48)
  refine (K7.out _ _ (HG8.out.here hn) ⟨iv_one _ 0 1 48 _ rfl, one_all (by omega) (by omega), sane_lit _ _ _ (Nat.le_refl _), by omega, by omega, by simp⟩).mono ?_
  rintro e w9 ⟨rfl, h⟩
  have hb := below_call hn h
  have HG9 := Lib.hid (HG8.out.here hb)
  have HB9 := Lib.hid (below_call HB8.out hb)
  clear hn h hb e0 e1 e2
  go_wp2_with fail
  refine (K10.out _ HG9.out).mono ?_
  rintro e w10 ⟨rfl, h⟩
  have HB10 := Lib.hid (below_call HB9.out h)
  clear h
  go_wp2_with fail
  go_ret
  exact ⟨rfl, HB10.out⟩
end Go.Proofs.YtjnpcpcgigdngaaDoor
