/- The laws' example holds in every state. Conditions: the tied variables hold what they do. -/
import Derived.Test.YtgkdjbdcmmegiaaGreatDoorRRefDig
import Derived.Test.YtgkdjbdcmmegiaaGreatDoorRIdx
import Derived.Test.YtgkdjbdcmmegiaaGreatDoorRFind
import Derived.Test.YtgkdjbdcmmegiaaGreatDoorRIv
import Derived.Test.YtgkdjbdcmmegiaaGreatDoorRRef2
namespace Go.Proofs.YtgkdjbdcmmegiaaGreatDoor
open Go.RowKit Go.Shelf

theorem dec_small (n : Nat) (h : n < 10) : decText n = [UInt8.ofNat (48 + n)] := by rw [← dec_text, Lib.decDigits, dif_pos h]
theorem ex_text : listText [(1, 3), (5, 9)] = [49, 45, 51, 44, 53, 45, 57] := by
  have e1 : ivText (1, 3) = [49, 45, 51] := by
    unfold ivText
    rw [if_neg (by decide)]
    show decText 1 ++ 45 :: decText 3 = _
    rw [dec_small 1 (by omega), dec_small 3 (by omega)]; rfl
  have e2 : ivText (5, 9) = [53, 45, 57] := by
    unfold ivText
    rw [if_neg (by decide)]
    show decText 5 ++ 45 :: decText 9 = _
    rw [dec_small 5 (by omega), dec_small 9 (by omega)]; rfl
  unfold listText
  rw [if_neg (by simp), List.map_cons, List.map_cons, e1, e2]
  rfl
theorem ex_chk : chkV [(1, 3), (5, 9)] = none := by decide
theorem ex_canon : canon [(1, 3), (5, 9)] := (canon_iff _).1 (by decide)
theorem ex_norm : normL [(5, 9), (1, 2), (3, 3)] = [(1, 3), (5, 9)] := by
  have h := merge_norm (d := [(1, 2), (3, 3), (5, 9)]) (l := [(5, 9), (1, 2), (3, 3)]) (by decide) (by unfold sortedL; decide) (by decide)
  rw [← h]
  decide
theorem ex_parse : parseV [49, 45, 51, 44, 53, 45, 57] = ([(1, 3), (5, 9)], none) := by
  rw [← ex_text, parse_text _ (by intro x hx; simp at hx; rcases hx with rfl | rfl <;> exact ⟨⟨by decide, by decide⟩, by decide, by decide⟩), ex_chk]
theorem ex_has : hasL [(1, 3), (5, 9)] 7 = true := by decide
theorem ex_find : findL [(1, 3), (5, 9)] 4 = -1 := by decide
theorem ex_bad : chkV [(1, 2), (3, 3)] = some (3, some 1) := by decide
theorem ex_64 : All64 [(1, 3), (5, 9)] := by intro x hx; simp at hx; rcases hx with rfl | rfl <;> exact ⟨⟨by decide, by decide⟩, by decide, by decide⟩

set_option maxRecDepth 100000 in
set_option maxHeartbeats 4000000 in
theorem alive_any (w : World) (hg : ErrT w) (hp : PowT w) (hr : RngT w) : Calls Tryz.prog 9 #[] w (IsEnd true w) := by
  have hn := below_new w (.cells #[.int .u64 5, .int .u64 9, .int .u64 1, .int .u64 2, .int .u64 3, .int .u64 3] 38)
  have hl : IvsAt (w.alloc (.cells #[.int .u64 5, .int .u64 9, .int .u64 1, .int .u64 2, .int .u64 3, .int .u64 3] 38)) (.slice (some ⟨w.heap.size, 0, none⟩) 3 3) [(5, 9), (1, 2), (3, 3)] :=
    ⟨_, _, rfl, by simp, fun _ => ⟨w.heap.size, 0, rfl, fun i x hx => by
      match i, hx with
      | 0, hx => simp at hx; subst hx; simp
      | 1, hx => simp at hx; subst hx; simp
      | 2, hx => simp at hx; subst hx; simp
      | i + 3, hx => simp at hx⟩⟩
  have k1 := normal_ok _ _ _ hl (by intro x hx; simp at hx; rcases hx with rfl | rfl | rfl <;> exact ⟨⟨by decide, by decide⟩, by decide, by decide⟩) (by decide)
  rw [ex_norm] at k1
  have K1 := Lib.hid k1
  have K2 : Hid (∀ W, ErrT W → RngT W → Calls Tryz.prog 26 #[.string ⟨#[49, 45, 51, 44, 53, 45, 57]⟩] W (ParseEnd ([(1, 3), (5, 9)], none) W)) := Lib.hid fun W h1 h2 => by
    have h := parse_any [49, 45, 51, 44, 53, 45, 57] (by simp) W h1 h2
    rw [ex_parse] at h
    exact h
  have HN := Lib.hid hn
  have Hg := Lib.hid hg
  have Hp := Lib.hid hp
  have Hr := Lib.hid hr
  clear hn hl k1 hg hp hr
  go_enter Tryz.func9, Tryz.ntmps9
  go_wp2_with fail
  refine K1.out.mono ?_
  rintro e w1 ⟨v1, rfl, hv1, h1⟩
  have H1 := Lib.hid (below_call HN.out h1); clear h1
  have I1 := Lib.hid (hv1.ivs (by simp)); clear hv1
  obtain ⟨p1, c1, rfl, _⟩ := I1.out.shape
  go_wp2_with fail
  refine (K2.out _ (Hg.out.here H1.out) (Hr.out.here H1.out)).mono ?_
  rintro e w2 ⟨v2, rfl, hv2, h2⟩
  have H2 := Lib.hid (below_call H1.out h2)
  have I12 := Lib.hid (I1.out.call h2)
  have I2 := Lib.hid hv2; clear hv2 h2
  rw [show errV (([(1, 3), (5, 9)], none) : List Iv × Option (Int × Option Int)).2 = .nilIface from rfl]
  have K3 : Hid (∀ W, IvsAt W (.slice p1 2 c1) [(1, 3), (5, 9)] → PowT W → Calls Tryz.prog 23 #[.slice p1 2 c1] W (IsStr [49, 45, 51, 44, 53, 45, 57] W)) := Lib.hid fun W h1 h2 => by
    have h := text_any _ _ W h1 ex_64 h2
    rw [ex_text] at h
    exact h
  go_wp2_with fail
  refine (K3.out _ I12.out (Hp.out.here H2.out)).mono ?_
  rintro e w3 ⟨rfl, h3⟩
  have H3 := Lib.hid (below_call H2.out h3)
  have I13 := Lib.hid (I12.out.call h3)
  have I23 := Lib.hid (I2.out.call h3); clear h3
  have K4 : Hid (Calls Tryz.prog 25 #[.slice p1 2 c1, v2] w3 (IsEnd true w3)) := Lib.hid (by
    have h := same_any _ _ _ _ w3 I13.out I23.out
    rw [show decide (([(1, 3), (5, 9)] : List Iv) = [(1, 3), (5, 9)]) = true from by decide] at h
    exact h)
  go_wp2_with fail
  refine K4.out.mono ?_
  rintro e w4 ⟨rfl, h4⟩
  have H4 := Lib.hid (below_call H3.out h4)
  have I14 := Lib.hid (I13.out.call h4); clear h4
  have k5 := rcheck_any _ _ w4 (Hg.out.here H4.out) I14.out ex_64
  rw [ex_chk] at k5
  have K5 := Lib.hid k5; clear k5
  go_wp2_with fail
  refine K5.out.mono ?_
  rintro e w5 ⟨rfl, h5⟩
  have H5 := Lib.hid (below_call H4.out h5)
  have I15 := Lib.hid (I14.out.call h5); clear h5
  rw [show errV none = .nilIface from rfl]
  have k6 := rhas_any _ _ 7 w5 I15.out ex_canon
  rw [ex_has] at k6
  have K6 := Lib.hid k6; clear k6
  go_wp2_with fail
  refine K6.out.mono ?_
  rintro e w6 ⟨rfl, h6⟩
  have H6 := Lib.hid (below_call H5.out h6)
  have I16 := Lib.hid (I15.out.call h6); clear h6
  have k7 := find_any _ _ 4 w6 I16.out ex_canon
  rw [ex_find] at k7
  have K7 := Lib.hid k7; clear k7
  go_wp2_with fail
  refine K7.out.mono ?_
  rintro e w7 ⟨rfl, h7⟩
  have H7 := Lib.hid (below_call H6.out h7); clear h7
  have HN8 := Lib.hid (below_alloc H7.out (.cells #[.int .u64 1, .int .u64 2, .int .u64 3, .int .u64 3] 38))
  have hl : IvsAt (w7.alloc (.cells #[.int .u64 1, .int .u64 2, .int .u64 3, .int .u64 3] 38)) (.slice (some ⟨w7.heap.size, 0, none⟩) 2 2) [(1, 2), (3, 3)] :=
    ⟨_, _, rfl, by simp, fun _ => ⟨w7.heap.size, 0, rfl, fun i x hx => by
      match i, hx with
      | 0, hx => simp at hx; subst hx; simp
      | 1, hx => simp at hx; subst hx; simp
      | i + 2, hx => simp at hx⟩⟩
  have k8 := rcheck_any _ _ _ (Hg.out.here HN8.out) hl (by intro x hx; simp at hx; rcases hx with rfl | rfl <;> exact ⟨⟨by decide, by decide⟩, by decide, by decide⟩)
  rw [ex_bad] at k8
  have K8 := Lib.hid k8; clear k8 hl
  go_wp2_with fail
  refine K8.out.mono ?_
  rintro e w8 ⟨rfl, h8⟩
  have H8 := Lib.hid (below_call HN8.out h8); clear h8
  have K9 := Lib.hid (Code_any (some (3, some 1)) w8 (Hg.out.here H8.out))
  go_wp2_with fail
  refine K9.out.mono ?_
  rintro e w9 ⟨rfl, h9⟩
  have H9 := Lib.hid (below_call H8.out h9); clear h9
  rw [show codeE (some (3, some 1)) = 3 from rfl]
  go_wp2_with fail
  go_ret
  exact ⟨rfl, H9.out⟩
end Go.Proofs.YtgkdjbdcmmegiaaGreatDoor
