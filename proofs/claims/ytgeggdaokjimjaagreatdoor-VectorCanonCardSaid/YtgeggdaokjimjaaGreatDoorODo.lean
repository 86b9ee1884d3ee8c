/- The reference's operations on two lists. Conditions: the ends are numbers of 64 bits, each interval is in order, at most 1048576 intervals. -/
import Derived.Test.YtgeggdaokjimjaaGreatDoorRStartsG
import Derived.Test.YtgeggdaokjimjaaGreatDoorRRef2
import Derived.Test.YtgeggdaokjimjaaGreatDoorOAlg
namespace Go.Proofs.YtgeggdaokjimjaaGreatDoor
open Go.RowKit
theorem UM_UU : UM = UU := rfl
theorem take_sub (p q : Bool) (w : World) : Calls Tryz.prog 79 #[.bool p, .bool q, .int .i64 2] w (fun e w' => e = .returned (.bool (fSub p q)) ∧ w' = w) := by
  go_enter Tryz.func79, Tryz.ntmps79
  cases p <;> cases q <;> (go_wp2_with fail; go_ret; exact ⟨rfl, rfl⟩)
/-- Starts of two lists that lie side by side. -/
theorem starts_two (a b : List Iv) (s t : Value) (bl : Nat) (w : World) (ha : IvsAt w s a) (hb : IvsAt w t b) (h64 : All64 a) (h64b : All64 b) (hl : a.length + b.length ≤ 1048576)
    (h0 : w.cell? ⟨bl, 0, none⟩ = some s) (h1 : w.cell? ⟨bl, 1, none⟩ = some t) :
    Calls Tryz.prog 78 #[.slice (some ⟨bl, 0, none⟩) 2 2] w (IsNums (startsL UU (a ++ b)) w) := by
  have h := starts_all [a, b] (fun i => if i = 0 then s else t) bl 2 w (fun i l hl => by
    match i, hl with
    | 0, hl => cases hl; exact ⟨ha, h0⟩
    | 1, hl => cases hl; exact ⟨hb, h1⟩) (fun l hl => by
      rcases List.mem_cons.1 hl with rfl | hl
      · exact h64
      · rw [List.mem_singleton.1 hl]; exact h64b) (by simpa using hl) (by simp)
  rw [show [a, b].flatten = a ++ b by simp] at h
  exact h
theorem okL_64 {l : List Iv} (h : okL UU l) : All64 l := fun x hx => by
  have := h x hx
  unfold UU at this
  exact ⟨by omega, by omega⟩
theorem okL_of {l : List Iv} (h : All64 l) (ho : ∀ y ∈ l, y.1 ≤ y.2) : okL UU l := fun y hy => ⟨(h y hy).1.1, ho y hy, (h y hy).2.2⟩
theorem okIv_64 {x : Iv} (h : 0 ≤ x.1 ∧ x.1 ≤ x.2 ∧ x.2 ≤ UU) : In64 x := by
  unfold UU at h
  exact ⟨by omega, by omega⟩
theorem UU_pos : 0 ≤ UU := by decide
set_option maxRecDepth 100000 in
set_option maxHeartbeats 4000000 in
theorem refDo_any (op : Int) (f : Bool → Bool → Bool) (ht : ∀ p q w, Calls Tryz.prog 79 #[.bool p, .bool q, .int .i64 op] w (fun e w' => e = .returned (.bool (f p q)) ∧ w' = w))
    (a b : List Iv) (s t : Value) (w : World) (hl : IvsAt w s a) (hm : IvsAt w t b) (h64 : All64 a) (h64b : All64 b) (ho : ∀ y ∈ a, y.1 ≤ y.2) (hob : ∀ y ∈ b, y.1 ≤ y.2) (hle : a.length + b.length ≤ 1048576) :
    Calls Tryz.prog 70 #[s, t, .int .i64 op] w (IsOwnR (opL UM f a b) w) := by
  rw [UM_UU]
  obtain ⟨p, cap, rfl, hlen⟩ := hl.shape
  obtain ⟨q, cbp, rfl, hlenb⟩ := hm.shape
  have hoa := okL_of h64 ho
  have hobb := okL_of h64b hob
  have hr := starts_range UU_pos (okL_app hoa hobb)
  have hasc := starts_asc UU (a ++ b)
  have hsl := starts_len UU (a ++ b)
  rw [List.length_append] at hsl
  have hfacts := fun k hk => okL_64 (goP_ok (opP f a b) hasc hr k hk)
  have hlens := fun k => goP_len (U := UU) (opP f a b) (startsL UU (a ++ b)) k
  have hpin := fun k hk => okIv_64 (pieceS_ok hasc hr k hk)
  have hsin := fun (i : Nat) (x : Int) (h : (startsL UU (a ++ b))[i]? = some x) => hr x (List.mem_of_getElem? h)
  have hlo : ∀ (k : Nat) (x : Int), (startsL UU (a ++ b))[k + 1]? = some x → 1 ≤ x := by
    intro k x hx
    have hlt := (List.getElem?_eq_some_iff.1 hx).1
    have h1 : (startsL UU (a ++ b))[0] < (startsL UU (a ++ b))[k + 1] := (List.pairwise_iff_getElem.1 hasc) 0 (k + 1) (by omega) hlt (by omega)
    have h2 := (hsin 0 _ (show (startsL UU (a ++ b))[0]? = some (startsL UU (a ++ b))[0] by simp [show 0 < (startsL UU (a ++ b)).length by omega])).1
    have h3 := (List.getElem?_eq_some_iff.1 hx).2
    omega
  have I := Lib.hid hl
  have J := Lib.hid hm
  have KS := Lib.hid (fun bl W h1 h2 h3 h4 => starts_two a b (.slice p a.length cap) (.slice q b.length cbp) bl W h1 h2 h64 h64b hle h3 h4)
  have KH := Lib.hid (hasLR)
  have KT := Lib.hid ht
  have KP := Lib.hid piece_any
  have KU := Lib.hid put_any
  have hstep : ∀ k, goP UU (opP f a b) (startsL UU (a ++ b)) (k + 1) = if f (hasL a ((startsL UU (a ++ b)).getD k 0)) (hasL b ((startsL UU (a ++ b)).getD k 0)) then putL (goP UU (opP f a b) (startsL UU (a ++ b)) k) (pieceS UU (startsL UU (a ++ b)) k) else goP UU (opP f a b) (startsL UU (a ++ b)) k := fun k => rfl
  have hres : opL UU f a b = goP UU (opP f a b) (startsL UU (a ++ b)) (startsL UU (a ++ b)).length := rfl
  rw [hres]
  clear hres hasc hr hoa hobb
  generalize opP f a b = PP at *
  generalize startsL UU (a ++ b) = S at *
  have HF := Lib.hid hfacts
  have HL := Lib.hid hlens
  have HPin := Lib.hid hpin
  have HSin := Lib.hid hsin
  have HLo := Lib.hid hlo
  have HStep := Lib.hid hstep
  clear hl hm h64 h64b ho hob hfacts hlens hpin hsin hlo hstep ht
  go_enter Tryz.func70, Tryz.ntmps70
  go_wp2_with fail
  refine (KS.out w.heap.size _ (I.out.call (below_new _ _)) (J.out.call (below_new _ _)) (by simp) (by simp)).mono ?_
  rintro e w1 ⟨v, rfl, hv, hb1⟩
  have HB1 := Lib.hid (below_call (below_new w _) hb1); clear hb1
  have HN := Lib.hid (hv.nums (by omega))
  obtain ⟨ps, cs, rfl, _⟩ := own_shape hv
  clear hv
  go_wp2_with fail
  go_loopw [8, 9] (fun v i wr => ∃ k : Nat, k ≤ S.length ∧ i = .int .i64 k ∧ OwnL wr w1.heap.size v (goP UU PP S k) ∧ Below w1.heap.size w1 wr) (fun _ i _ => S.length - (intOf i).toNat)
  case atStart => exact ⟨0, Nat.zero_le _, rfl, OwnL.nil _ _, Below.refl _ _⟩
  case round =>
    obtain ⟨k, hk, rfl, hown, hb⟩ := hrel
    have HB := Lib.hid hb; clear hb
    by_cases hlt : k < S.length
    · obtain ⟨x, hx⟩ : ∃ x, S[k]? = some x := ⟨S[k], by simp [hlt]⟩
      obtain ⟨bs, os, cs', e0, c0⟩ := (HN.out.call HB.out).elem hx
      cases e0
      have hgd : S.getD k 0 = x := by rw [List.getD_eq_getElem?_getD, hx]; rfl
      have hst := HStep.out k
      rw [hgd] at hst
      have hf := HF.out k hk
      have hgl := HL.out k
      have hp := HPin.out k hlt
      have KPx := Lib.hid (fun w h => KP.out S (.slice (some ⟨bs, os, none⟩) S.length cs) k w h hlt (fun i x h => HSin.out i x h) (fun x h => HLo.out k x h))
      clear hx hgd
      rw [UU_eq] at KPx
      generalize hL : goP UU PP S k = L at *
      generalize hP : pieceS UU S k = P at *
      obtain ⟨pv, cv, rfl, _⟩ := own_shape hown
      have HOW := Lib.hid hown
      have HBw := Lib.hid (HB1.out.trans (HB.out.mono HB1.out.size))
      have KHab := Lib.hid (show ∀ (s : Value) (r : Bool), (s = .slice p a.length cap ∧ r = hasL a x) ∨ (s = .slice q b.length cbp ∧ r = hasL b x) → ∀ W, (Below wr.heap.size wr W ∧ W.cell? ⟨bs, os + k, none⟩ = some (.int .u64 x)) → Calls Tryz.prog 44 #[s, .int .u64 x] W (IsEnd r W) from fun s r h W hW => by
        rcases h with ⟨rfl, rfl⟩ | ⟨rfl, rfl⟩
        · exact KH.out a _ x _ W (I.out.call (below_call HBw.out hW.1)) rfl
        · exact KH.out b _ x _ W (J.out.call (below_call HBw.out hW.1)) rfl)
      generalize hasL a x = ra at *
      generalize hasL b x = rb at *
      obtain ⟨r, hr⟩ : ∃ r, f ra rb = r := ⟨_, rfl⟩
      have ktx := KT.out ra rb
      rw [hr] at ktx hst
      have KTx := Lib.hid ktx
      have HST := Lib.hid hst
      have hj0 : (0 : Int) ≤ (k : Int) := by omega
      have hj1 : (k : Int) < (S.length : Int) := by omega
      have hs : Below wr.heap.size wr wr ∧ wr.cell? ⟨bs, os + k, none⟩ = some (.int .u64 x) := ⟨Below.refl _ _, c0⟩
      clear hst hr hown hL hP ktx c0
      cases r with
      | false =>
        go_wp2_with fail
        go_region_held3 (fun w' => Below wr.heap.size wr w' ∧ w'.cell? ⟨bs, os + k, none⟩ = some (.int .u64 x))
          (first
            | exact keep1 (by assumption) (Hid.out (by assumption))
            | exact keep1 hs (Below.refl _ _).drew
            | exact hs
            | assumption)
          (first
            | (go_at_call 44; refine (KHab.out _ _ (by first | exact .inl ⟨rfl, rfl⟩ | exact .inr ⟨rfl, rfl⟩) _ (by assumption)).mono ?_; rintro en w' ⟨rfl, hb4'⟩; have hb4 := Lib.hid hb4'; clear hb4')
            | (go_at_call 79; refine (KTx.out _).mono ?_; rintro en w' ⟨rfl, rfl⟩))
        all_goals
          have hE : Below wr.heap.size wr w' ∧ w'.cell? ⟨bs, os + k, none⟩ = some (.int .u64 x) := by assumption
          have HO2 := Lib.hid (HOW.out.below hE.1)
          have HB2 := Lib.hid (HB.out.trans (hE.1.mono HB.out.size))
          clear hE hs
          go_wp2_with fail
          go_roundw
          case rel => exact ⟨k + 1, by omega, by go_num, by rw [HST.out]; exact HO2.out, HB2.out⟩
          case measure => simp [intOf]; omega
      | true =>
        go_wp2_with fail
        go_region_held3 (fun w' => Below wr.heap.size wr w' ∧ w'.cell? ⟨bs, os + k, none⟩ = some (.int .u64 x))
          (first
            | exact keep1 (by assumption) (Hid.out (by assumption))
            | exact keep1 hs (Below.refl _ _).drew
            | exact hs
            | assumption)
          (first
            | (go_at_call 44; refine (KHab.out _ _ (by first | exact .inl ⟨rfl, rfl⟩ | exact .inr ⟨rfl, rfl⟩) _ (by assumption)).mono ?_; rintro en w' ⟨rfl, hb4'⟩; have hb4 := Lib.hid hb4'; clear hb4')
            | (go_at_call 79; refine (KTx.out _).mono ?_; rintro en w' ⟨rfl, rfl⟩))
        all_goals
          have hE : Below wr.heap.size wr w' ∧ w'.cell? ⟨bs, os + k, none⟩ = some (.int .u64 x) := by assumption
          have HO2 := Lib.hid (HOW.out.below hE.1)
          have HB2 := Lib.hid (HB.out.trans (hE.1.mono HB.out.size))
          have KPy := Lib.hid (KPx.out w' (HN.out.call HB2.out))
          clear hE hs KPx
          go_wp2_with fail
          refine KPy.out.mono ?_
          rintro e w3 ⟨rfl, h3⟩
          have HB3 := Lib.hid (HB2.out.trans (h3.mono HB2.out.size))
          have KUx := Lib.hid (KU.out L P _ w1.heap.size w3 (HO2.out.below h3) HB3.out.size (by omega) hf hp)
          clear h3
          go_wp2_with fail
          refine KUx.out.mono ?_
          rintro e w4 ⟨v4, rfl, hv4, h4⟩
          have HB4 := Lib.hid (HB3.out.trans h4); clear h4
          obtain ⟨pv4, cv4, rfl, _⟩ := own_shape hv4
          have HV4 := Lib.hid hv4; clear hv4
          go_wp2_with fail
          go_roundw
          case rel => exact ⟨k + 1, by omega, by go_num, by rw [HST.out]; exact HV4.out, HB4.out⟩
          case measure => simp [intOf]; omega
    · obtain rfl : k = S.length := by omega
      obtain ⟨pv, cv, rfl, _⟩ := own_shape hown
      have HOW := Lib.hid hown; clear hown
      go_wp2_with fail
      go_ret
      exact ⟨_, rfl, own_base HOW.out HB1.out.size, HB1.out.trans (HB.out.mono HB1.out.size)⟩
end Go.Proofs.YtgeggdaokjimjaaGreatDoor
