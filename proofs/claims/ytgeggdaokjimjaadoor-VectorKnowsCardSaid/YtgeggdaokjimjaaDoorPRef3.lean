/- The reference's vectors: correct, known, canonical, the same. Conditions: as each theorem says. -/
import Derived.Test.YtgeggdaokjimjaaDoorPRef2
import Derived.Test.YtgeggdaokjimjaaDoorNLaws
import Derived.Deep.RegionHeld3
namespace Go.Proofs.YtgeggdaokjimjaaDoor
open Go.RowKit
def rightV (V : List (Int × Int × List Iv)) : Bool := (chkVec V).isNone
theorem badV_small {V : List (Int × Int × List Iv)} {x : Int × Nat} (h : chkVec V = some x) : x.1 ≠ 0 := by
  unfold chkVec at h
  obtain ⟨i, _, hi⟩ := List.exists_of_findSome?_eq_some h
  split at hi
  · cases hi
  · rename_i hn
    obtain rfl := Option.some.inj hi
    exact hn
theorem vCode_right (V : List (Int × Int × List Iv)) : (vCode V == 0) = rightV V := by
  unfold vCode rightV
  cases h : chkVec V with
  | none => rfl
  | some x => have := badV_small h; simp [this]
set_option maxRecDepth 100000 in
theorem refRight9_any (V : List (Int × Int × List Iv)) (v : Value) (w : World) (hv : VecM w v V) : Calls Tryd.prog 16 #[v] w (IsEnd (rightV V) w) := by
  obtain ⟨p, cap, rfl⟩ := hv.shape
  have K := Lib.hid (refCheck9_any V _ w hv)
  have hq := vCode_right V
  clear hv
  generalize rightV V = b at *
  generalize vCode V = cd at *
  generalize vAt V = at9 at *
  go_enter Tryd.func16, Tryd.ntmps16
  go_wp2_with fail
  refine K.out.mono ?_
  rintro e w1 ⟨rfl, h⟩
  have H1 := Lib.hid h; clear h
  go_wp2_with fail
  go_ret
  exact ⟨by first | rw [hq] | rfl, H1.out⟩
/-- Whether a version is known. -/
def hasV (V : List (Int × Int × List Iv)) (r c : Int) : Bool := match V.findIdx? (fun x => decide (x.1 = r)) with
  | none => false
  | some k => match V[k]? with
    | none => false
    | some x => hasE x.2.1 x.2.2 c
set_option maxRecDepth 100000 in
theorem refHas9_any (V : List (Int × Int × List Iv)) (v : Value) (r c : Int) (w : World) (hv : VecM w v V) : Calls Tryd.prog 20 #[v, .int .u64 r, .int .u64 c] w (IsEnd (hasV V r c) w) := by
  obtain ⟨p, cap, rfl⟩ := hv.shape
  have hlen := hv.len
  have K := Lib.hid (refFind9_any V _ r w hv.i)
  have HV := Lib.hid hv; clear hv
  have KH := Lib.hid refHasE_any
  cases hf : V.findIdx? (fun x => decide (x.1 = r)) with
  | none =>
    have HZ : Hid (hasV V r c = false) := Lib.hid (by unfold hasV; rw [hf])
    rw [show findV V r = -1 from by unfold findV; rw [hf]] at K
    clear hf
    go_enter Tryd.func20, Tryd.ntmps20
    go_wp2_with fail
    refine K.out.mono ?_
    rintro e w1 ⟨rfl, h⟩
    have H1 := Lib.hid h; clear h
    go_wp2_with fail
    go_ret
    exact ⟨by rw [HZ.out]; rfl, H1.out⟩
  | some k =>
    have hk : k < V.length := (List.findIdx?_eq_some_iff_getElem.1 hf).1
    obtain ⟨⟨x, m, H⟩, hx⟩ : ∃ x, V[k]? = some x := ⟨V[k], by simp [hk]⟩
    have HZ : Hid (hasV V r c = hasE m H c) := Lib.hid (by unfold hasV; rw [hf]; simp only; rw [hx])
    rw [show findV V r = (k : Int) from by unfold findV; rw [hf]] at K
    clear hf
    have i0 : (0 : Int) ≤ (k : Int) := by omega
    have i2 : (k : Int) < (V.length : Int) := by omega
    obtain ⟨bb, hbb⟩ : ∃ bb, hasE m H c = bb := ⟨_, rfl⟩
    have HBB := Lib.hid hbb
    obtain ⟨b, o, cap', q, n, cc, e, _⟩ := HV.out.elem hx
    cases e
    have HX := Lib.hid hx; clear hx
    clear hbb
    go_enter Tryd.func20, Tryd.ntmps20
    go_wp2_with fail
    refine K.out.mono ?_
    rintro e w1 ⟨rfl, h⟩
    obtain ⟨b', o', cap2, q', n', c', e', c0, c1, c2, ha⟩ := (HV.out.call h).elem HX.out
    cases e'
    have HK := Lib.hid (HBB.out ▸ KH.out x m H (.slice q' n' c') c w1 ha.at')
    have H1 := Lib.hid h; clear h ha
    go_wp2_with fail
    refine HK.out.mono ?_
    rintro e w2 ⟨rfl, h⟩
    have H2 := Lib.hid (below_call H1.out h); clear h
    go_wp2_with fail
    go_ret
    exact ⟨by rw [HZ.out, HBB.out]; rfl, H2.out⟩
/-- Every entry is correct and canonical. -/
def canV (V : List (Int × Int × List Iv)) : Bool := V.all fun x => okN x.2.1 x.2.2 && canonB x.2.1 x.2.2
set_option maxRecDepth 100000 in
set_option maxHeartbeats 2000000 in
theorem refCanonical9_any (V : List (Int × Int × List Iv)) (v : Value) (w : World) (hv : VecM w v V) : Calls Tryd.prog 15 #[v] w (IsEnd (canV V && rightV V) w) := by
  obtain ⟨p, cap, rfl⟩ := hv.shape
  have hlen := hv.len
  have HV := Lib.hid hv; clear hv
  have KC := Lib.hid refCanonical_any
  have KR := Lib.hid (fun W h => refRight9_any V (.slice p V.length cap) W h)
  go_enter Tryd.func15, Tryd.ntmps15
  go_wp2_with fail
  go_loopw [3] (fun i wr => ∃ k : Nat, i = .int .i64 k ∧ k ≤ V.length ∧ (∀ j x, j < k → V[j]? = some x → (okN x.2.1 x.2.2 && canonB x.2.1 x.2.2) = true) ∧ Below w.heap.size w wr) (fun i _ => V.length - (intOf i).toNat)
  case atStart => exact ⟨0, rfl, Nat.zero_le _, fun j x hj => absurd hj (Nat.not_lt_zero j), Below.refl _ _⟩
  case round =>
    obtain ⟨k, rfl, hk, hbef, hb⟩ := hrel
    have HBF := Lib.hid hbef; clear hbef
    have HB := Lib.hid hb; clear hb
    by_cases hlt : k < V.length
    · obtain ⟨⟨x, m, H⟩, hx⟩ : ∃ x, V[k]? = some x := ⟨V[k], by simp [hlt]⟩
      obtain ⟨b, o, cap', q, n, c, e, c0, c1, c2, ha⟩ := (HV.out.call HB.out).elem hx
      cases e
      have K := Lib.hid (KC.out x m H (.slice q n c) wr ha.at' ha.all)
      have HX := Lib.hid hx; clear hx ha
      have i1 : (0 : Int) ≤ (k : Int) := by omega
      have i2 : (k : Int) < (V.length : Int) := by omega
      cases hcb : okN m H && canonB m H with
      | true =>
        rw [hcb] at K
        have HCB := Lib.hid hcb; clear hcb
        go_wp2_with fail
        refine K.out.mono ?_
        rintro e w1 ⟨rfl, h⟩
        have H1 := Lib.hid (below_call HB.out h); clear h c0 c1 c2
        go_wp2_with fail
        go_roundw
        case rel => exact ⟨k + 1, by go_num, by omega, fun j y hj hy => by
          rcases Nat.lt_or_eq_of_le (Nat.le_of_lt_succ hj) with h | h
          · exact HBF.out j y h hy
          · subst h
            obtain rfl := Option.some.inj (HX.out.symm.trans hy)
            exact HCB.out, H1.out⟩
        case measure => simp [intOf]; omega
      | false =>
        rw [hcb] at K
        have HZ : Hid (canV V = false) := Lib.hid (by
          unfold canV
          rw [List.all_eq_false]
          exact ⟨_, List.mem_of_getElem? HX.out, by rw [hcb]; simp⟩)
        clear hcb
        go_wp2_with fail
        refine K.out.mono ?_
        rintro e w1 ⟨rfl, h⟩
        have H1 := Lib.hid (below_call HB.out h); clear h c0 c1 c2
        go_wp2_with fail
        go_ret
        exact ⟨by rw [HZ.out]; rfl, H1.out⟩
    · obtain rfl : k = V.length := by omega
      have HZ : Hid (canV V = true) := Lib.hid (by
        unfold canV
        rw [List.all_eq_true]
        intro x hx
        obtain ⟨i, hi⟩ := List.mem_iff_getElem?.1 hx
        exact HBF.out i x (List.getElem?_eq_some_iff.1 hi).1 hi)
      have K := Lib.hid (KR.out _ (HV.out.call HB.out))
      obtain ⟨bb, hbb⟩ : ∃ bb, rightV V = bb := ⟨_, rfl⟩
      rw [hbb] at K
      have HBB := Lib.hid hbb; clear hbb
      go_wp2_with fail
      refine K.out.mono ?_
      rintro e w1 ⟨rfl, h⟩
      have H1 := Lib.hid (below_call HB.out h); clear h
      go_wp2_with fail
      go_ret
      exact ⟨by rw [HZ.out, HBB.out]; rfl, H1.out⟩
set_option maxRecDepth 100000 in
set_option maxHeartbeats 4000000 in
theorem refSame9_any (V V' : List (Int × Int × List Iv)) (v v' : Value) (w : World) (hv : VecI w v V) (hv' : VecI w v' V') : Calls Tryd.prog 26 #[v, v'] w (IsEnd (decide (V = V')) w) := by
  obtain ⟨p, cap, rfl⟩ := hv.shape
  obtain ⟨p', cap', rfl⟩ := hv'.shape
  have hlen := hv.len
  have hlen' := hv'.len
  by_cases hl : V.length = V'.length
  · have HV := Lib.hid hv; clear hv
    have HV' := Lib.hid hv'; clear hv'
    have KS := Lib.hid refSameE_any
    obtain ⟨n9, hn9⟩ : ∃ n9, V.length = n9 := ⟨_, rfl⟩
    rw [← hl, hn9]
    have HL := Lib.hid hl; have HN := Lib.hid hn9
    rw [hn9] at hlen
    clear hl hn9 hlen'
    go_enter Tryd.func26, Tryd.ntmps26
    go_wp2_with fail
    go_loopw [5] (fun i wr => ∃ k : Nat, i = .int .i64 k ∧ k ≤ n9 ∧ (∀ j, j < k → V[j]? = V'[j]?) ∧ Below w.heap.size w wr) (fun i _ => n9 - (intOf i).toNat)
    case atStart => exact ⟨0, rfl, Nat.zero_le _, fun j hj => absurd hj (Nat.not_lt_zero j), Below.refl _ _⟩
    case round =>
      obtain ⟨k, rfl, hk, hbef, hb⟩ := hrel
      have HBF := Lib.hid hbef; clear hbef
      have HB := Lib.hid hb; clear hb
      by_cases hlt : k < n9
      · obtain ⟨⟨x, m, H⟩, hx⟩ : ∃ x, V[k]? = some x := ⟨V[k]'(by rw [HN.out]; exact hlt), by simp⟩
        obtain ⟨⟨x', m', H'⟩, hx'⟩ : ∃ x, V'[k]? = some x := ⟨V'[k]'(by rw [← HL.out, HN.out]; exact hlt), by simp⟩
        obtain ⟨b, o, cp, q, n, c, e, c0, c1, c2, ha⟩ := (HV.out.call HB.out).elem hx
        obtain ⟨b', o', cp', q', n', c', e', d0, d1, d2, ha'⟩ := (HV'.out.call HB.out).elem hx'
        rw [HN.out] at e
        rw [← HL.out, HN.out] at e'
        cases e; cases e'
        have HX := Lib.hid (And.intro hx hx'); clear hx hx'
        have HA := Lib.hid (And.intro ha ha'); clear ha ha'
        have K := Lib.hid (fun W h h' => KS.out x m x' m' H H' (.slice q n c) (.slice q' n' c') W h h')
        have i1 : (0 : Int) ≤ (k : Int) := by omega
        have i2 : (k : Int) < (n9 : Int) := by omega
        obtain ⟨bb, hbb⟩ : ∃ bb, decide (x = x' ∧ m = m' ∧ H = H') = bb := ⟨_, rfl⟩
        rw [hbb] at K
        have HBB := Lib.hid hbb; clear hbb
        have HS := Lib.hid (r6_drew ⟨Below.refl wr.heap.size wr, c0, c1, c2, d0, d1, d2⟩)
        go_wp2_with fail
        clear c0 c1 c2 d0 d1 d2
        go_region_held3 (fun w' => Below wr.heap.size wr w' ∧ w'.cell? ⟨b, o + k * 3, none⟩ = some (.int .u64 x) ∧ w'.cell? ⟨b, o + k * 3 + 1, none⟩ = some (.int .u64 m) ∧ w'.cell? ⟨b, o + k * 3 + 2, none⟩ = some (.slice q n c) ∧ w'.cell? ⟨b', o' + k * 3, none⟩ = some (.int .u64 x') ∧ w'.cell? ⟨b', o' + k * 3 + 1, none⟩ = some (.int .u64 m') ∧ w'.cell? ⟨b', o' + k * 3 + 2, none⟩ = some (.slice q' n' c'))
          (first
            | exact r6_call (by assumption) (by assumption)
            | exact HS.out
            | exact r6_drew (by assumption)
            | assumption)
          (first
            | (go_at_call 44; refine (K.out _ (HA.out.1.call (r6_below (by assumption))) (HA.out.2.call (r6_below (by assumption)))).mono ?_; rintro en w' ⟨rfl, h'⟩; have h' := Lib.hid h'))
        all_goals
          rename_i hE
          have HE := Lib.hid (below_call HB.out hE.1)
          clear hE
          cases bb with
          | false =>
            have HZ : Hid (decide (V = V') = false) := Lib.hid (by
              rw [decide_eq_false_iff_not]
              intro e
              have h1 := HX.out.1
              rw [e, HX.out.2] at h1
              have h2 := HBB.out
              cases h1
              simp at h2)
            go_wp2_with fail
            go_ret
            exact ⟨by rw [HZ.out]; rfl, HE.out⟩
          | true =>
            go_wp2_with fail
            go_roundw
            case rel => exact ⟨k + 1, by go_num, by omega, fun j hj => by
              rcases Nat.lt_or_eq_of_le (Nat.le_of_lt_succ hj) with h | h
              · exact HBF.out j h
              · subst h
                have h2 := HBB.out
                simp at h2
                rw [HX.out.1, HX.out.2, h2.1, h2.2.1, h2.2.2], HE.out⟩
            case measure => simp [intOf]; omega
      · obtain rfl : k = n9 := by omega
        have HZ : Hid (decide (V = V') = true) := Lib.hid (by
          rw [decide_eq_true_eq]
          refine List.ext_getElem? fun i => ?_
          by_cases hi : i < k
          · exact HBF.out i hi
          · rw [List.getElem?_eq_none_iff.2 (by rw [HN.out]; omega), List.getElem?_eq_none_iff.2 (by rw [← HL.out, HN.out]; omega)])
        go_wp2_with fail
        go_ret
        exact ⟨by rw [HZ.out]; rfl, HB.out⟩
  · have HZ : Hid (decide (V = V') = false) := Lib.hid (by rw [decide_eq_false_iff_not]; intro e; exact hl (by rw [e]))
    have e1 : ((V.length : Int) != (V'.length : Int)) = true := by simp; omega
    clear hv hv' hl
    go_enter Tryd.func26, Tryd.ntmps26
    go_wp2_with fail
    go_ret
    exact ⟨by rw [HZ.out]; rfl, Below.refl _ _⟩
end Go.Proofs.YtgeggdaokjimjaaDoor
