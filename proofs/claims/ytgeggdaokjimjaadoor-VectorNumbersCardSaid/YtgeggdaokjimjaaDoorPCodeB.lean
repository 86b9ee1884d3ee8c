/- Package vector: Has, Check, Canonical. Conditions: as each theorem says. -/
import Derived.Test.YtgeggdaokjimjaaDoorPCodeA
import Derived.Test.YtgeggdaokjimjaaDoorNCheck
namespace Go.Proofs.YtgeggdaokjimjaaDoor
open Go.RowKit
theorem has_none9 {V : List (Int × Int × List Iv)} {r : Int} (c : Int) (h : findV V r = -1) : hasV V r c = false := by
  unfold findV at h
  unfold hasV
  cases hf : V.findIdx? (fun x => decide (x.1 = r)) with
  | none => rfl
  | some k => rw [hf] at h; simp only at h; omega
theorem has_some9 {V : List (Int × Int × List Iv)} {r : Int} {k : Nat} {x : Int × Int × List Iv} (c : Int) (h : findV V r = (k : Int)) (hx : V[k]? = some x) : hasV V r c = hasE x.2.1 x.2.2 c := by
  unfold findV at h
  unfold hasV
  cases hf : V.findIdx? (fun x => decide (x.1 = r)) with
  | none => rw [hf] at h; simp only at h; omega
  | some j =>
    rw [hf] at h
    simp only at h
    obtain rfl : j = k := by omega
    simp only [hx]
theorem find_ways (V : List (Int × Int × List Iv)) (r : Int) : findV V r = -1 ∨ ∃ (k : Nat) (x : Int × Int × List Iv), findV V r = (k : Int) ∧ V[k]? = some x := by
  unfold findV
  cases hf : V.findIdx? (fun x => decide (x.1 = r)) with
  | none => exact .inl rfl
  | some k =>
    obtain ⟨hlt, _⟩ := List.findIdx?_eq_some_iff_getElem.1 hf
    exact .inr ⟨k, V[k], rfl, by simp [hlt]⟩
set_option maxRecDepth 100000 in
set_option maxHeartbeats 2000000 in
theorem vHas_any (V : List (Int × Int × List Iv)) (v : Value) (r c : Int) (w : World) (hv : VecM w v V) (hg : GoodV V) (h0 : 0 ≤ c) (h1 : c ≤ 18446744073709551615) : Calls Tryd.prog 19 #[v, .int .u64 r, .int .u64 c] w (IsEnd (hasV V r c) w) := by
  obtain ⟨p, cap, rfl⟩ := hv.shape
  have K := Lib.hid (vFind_any V _ r w hv hg.asc)
  have hlen := hv.len
  have HV := Lib.hid hv; clear hv
  rcases find_ways V r with hf | ⟨k, ⟨x, m, H⟩, hf, hx⟩
  · rw [has_none9 c hf]
    rw [hf] at K
    clear hf hg h0 h1
    go_enter Tryd.func19, Tryd.ntmps19
    go_wp2_with fail
    refine K.out.mono ?_
    rintro e w1 ⟨rfl, h⟩
    have H1 := Lib.hid h; clear h
    go_wp2_with fail
    go_ret
    exact ⟨rfl, H1.out⟩
  · rw [has_some9 c hf hx]
    rw [hf] at K
    obtain ⟨b, o, cp, q, n, ce, e, _⟩ := HV.out.elem hx
    cases e
    have hlt := (List.getElem?_eq_some_iff.1 hx).1
    have HX := Lib.hid hx
    have HGE := Lib.hid (hg.ent _ (List.mem_iff_getElem?.2 ⟨k, hx⟩)); clear hg hx hf
    have HC := Lib.hid (And.intro h0 h1); clear h0 h1
    have KH := Lib.hid eHas_any
    have i1 : (0 : Int) ≤ (k : Int) := by omega
    have i2 : (k : Int) < (V.length : Int) := by omega
    have e1 : ((k : Int) != -1) = true := bne_iff_ne.2 (by omega)
    dsimp only
    obtain ⟨bb, hbb⟩ : ∃ bb, hasE m H c = bb := ⟨_, rfl⟩
    rw [hbb]
    have HBB := Lib.hid hbb; clear hbb
    clear hlt
    go_enter Tryd.func19, Tryd.ntmps19
    go_wp2_with fail
    refine K.out.mono ?_
    rintro e w1 ⟨rfl, h⟩
    have H1 := Lib.hid h; clear h
    obtain ⟨b', o', cp', q', n', ce', ee, c0, c1, c2, ha⟩ := (HV.out.call H1.out).elem HX.out
    cases ee
    have HE := Lib.hid (show EntAt w1 (.slice q' n' ce') m H from ⟨ha, HGE.out⟩); clear ha
    go_wp2_with fail
    refine (KH.out x m H _ c _ HE.out HC.out.1 HC.out.2).mono ?_
    rintro e w2 ⟨rfl, h⟩
    have H2 := Lib.hid (below_call H1.out h); clear h
    rw [HBB.out]
    go_wp2_with fail
    go_ret
    exact ⟨rfl, H2.out⟩
theorem code_of {m : Int} {H : List Iv} {e : Int × Option Int} (h : chkN m H = some e) : codeE (some e) = codeE (chkN m H) := by rw [h]
theorem chkE_at9 {V : List (Int × Int × List Iv)} {k : Nat} (hk : k < V.length) (h : ∀ j, j < k → badV V j = 0) {c : Int} (hb : badV V k = c) (hc : c ≠ 0) : chkE9 V = some (c, some (k : Int)) := by
  unfold chkE9
  rw [chkVec_some hk h (by rw [hb]; exact hc), hb]
  rfl
theorem chkE_none9 {V : List (Int × Int × List Iv)} (h : ∀ j, j < V.length → badV V j = 0) : chkE9 V = none := by unfold chkE9; rw [chkVec_none h]; rfl
theorem bef_snoc {V : List (Int × Int × List Iv)} {k : Nat} (h : ∀ j, j < k → badV V j = 0) (hk : badV V k = 0) : ∀ j, j < k + 1 → badV V j = 0 := fun j hj => by
  rcases Nat.lt_or_eq_of_le (Nat.le_of_lt_succ hj) with h1 | h1
  · exact h j h1
  · rw [h1]; exact hk
theorem k5_call {W w1 w2 : World} {a0 b0 b1 b2 : Addr} {u0 v0 v1 v2 : Value} (h : Below W.heap.size W w1 ∧ w1.cell? a0 = some u0 ∧ w1.cell? b0 = some v0 ∧ w1.cell? b1 = some v1 ∧ w1.cell? b2 = some v2) (hb : Below w1.heap.size w1 w2) :
    Below W.heap.size W w2 ∧ w2.cell? a0 = some u0 ∧ w2.cell? b0 = some v0 ∧ w2.cell? b1 = some v1 ∧ w2.cell? b2 = some v2 :=
  ⟨below_call h.1 hb, keep_cell h.2.1 hb, keep_cell h.2.2.1 hb, keep_cell h.2.2.2.1 hb, keep_cell h.2.2.2.2 hb⟩
set_option maxRecDepth 100000 in
set_option maxHeartbeats 4000000 in
theorem vCheck_any (V : List (Int × Int × List Iv)) (v : Value) (w : World) (hg : ErrT w) (hv : VecM w v V) : Calls Tryd.prog 10 #[v] w (IsErr (chkE9 V) w) := by
  obtain ⟨p, cap, rfl⟩ := hv.shape
  have hlen := hv.len
  have HV := Lib.hid hv; clear hv
  have HG := Lib.hid hg; clear hg
  have KC := Lib.hid eCheck_any
  have KF := Lib.hid Code_any
  have KN := Lib.hid new_ok
  have KB := Lib.hid behind_any
  go_enter Tryd.func10, Tryd.ntmps10
  go_wp2_with fail
  go_loopw [8] (fun i wr => ∃ k : Nat, i = .int .i64 k ∧ k ≤ V.length ∧ (∀ j, j < k → badV V j = 0) ∧ Below w.heap.size w wr) (fun i _ => V.length - (intOf i).toNat)
  case atStart => exact ⟨0, rfl, Nat.zero_le _, fun j hj => absurd hj (Nat.not_lt_zero j), Below.refl _ _⟩
  case round =>
    obtain ⟨k, rfl, hk, hbef, hb⟩ := hrel
    have HBF := Lib.hid hbef; clear hbef
    have HB := Lib.hid hb; clear hb
    by_cases hlt : k < V.length
    · obtain ⟨⟨x, m, H⟩, hx⟩ : ∃ x, V[k]? = some x := ⟨V[k], by simp [hlt]⟩
      obtain ⟨b, o, cap', q, n, c, e, c0, c1, c2, ha⟩ := (HV.out.call HB.out).elem hx
      cases e
      have hbw := below_new wr (.cells #[.int .u64 x, .int .u64 m, .slice q n c] 47)
      have t0 : (wr.alloc (.cells #[.int .u64 x, .int .u64 m, .slice q n c] 47)).cell? ⟨wr.heap.size, 0, none⟩ = some (.int .u64 x) := by simp
      have HT := Lib.hid t0; clear t0
      have HA := Lib.hid (And.intro (HG.out.here (below_call HB.out hbw)) (ha.call hbw)); clear ha
      have HBW := Lib.hid (below_call HB.out hbw); clear hbw
      have HX := Lib.hid hx; clear hx
      have i1 : (0 : Int) ≤ (k : Int) := by omega
      have i2 : (k : Int) < (V.length : Int) := by omega
      have HLT := Lib.hid hlt
      cases hc : chkN m H with
      | some x1 =>
        have hcd : codeE (chkN m H) ≠ 0 := by rw [hc]; exact code_some hc
        have HZ := Lib.hid (chkE_at9 hlt HBF.out (badV_code HX.out hcd) hcd)
        obtain ⟨t, u, hu⟩ := errV_some (x := some x1) (by simp)
        have HCD := Lib.hid (code_of hc)
        have h00 : (codeE (chkN m H) == 0) = false := by simpa using hcd
        have H00 := Lib.hid h00; clear h00
        have kc := KC.out x m H _ _ HA.out.1 HA.out.2
        have kf := fun W h => KF.out (some x1) W h
        rw [hc] at kc
        unfold IsErr at kc
        rw [hu] at kc kf
        rw [code_of hc] at kf
        have K := Lib.hid kc; clear kc
        have KF1 := Lib.hid kf; clear kf hcd hu HCD
        generalize codeE (chkN m H) = cd at *
        go_wp2_with fail
        refine K.out.mono ?_
        rintro e w1 ⟨rfl, h⟩
        have H1 := Lib.hid (below_call HBW.out h); clear h
        go_wp2_with fail
        refine (KF1.out _ (HG.out.here H1.out)).mono ?_
        rintro e w2 ⟨rfl, h⟩
        have H2 := Lib.hid (below_call H1.out h); clear h
        go_wp2_with fail
        refine (KN.out cd (k : Int) _ H00.out).mono ?_
        rintro e w3 ⟨rfl, rfl⟩
        go_wp2_with fail
        go_ret
        exact ⟨by rw [HZ.out]; rfl, H2.out⟩
      | none =>
        have hcd : codeE (chkN m H) = 0 := by rw [hc]; rfl
        have kc := KC.out x m H _ _ HA.out.1 HA.out.2
        rw [hc] at kc
        have K := Lib.hid kc; clear kc hc
        by_cases hk0 : k = 0
        · subst hk0
          simp only [Nat.zero_mul, Nat.add_zero] at c0 c1 c2
          have HN := Lib.hid (bef_snoc HBF.out (badV_first HX.out hcd)); clear hcd
          go_wp2_with fail
          refine K.out.mono ?_
          rintro e w1 ⟨rfl, h⟩
          have H1 := Lib.hid (below_call HBW.out h); clear h
          rw [show errV none = .nilIface from rfl]
          go_wp2_with fail
          go_quiet (fail)
          go_wp2_with fail
          go_roundw
          case rel => exact ⟨1, by go_num, by omega, HN.out, below_drewN H1.out _⟩
          case measure => simp [intOf]; omega
        · obtain ⟨j, rfl⟩ : ∃ j, k = j + 1 := ⟨k - 1, by omega⟩
          obtain ⟨⟨y, my, Hy⟩, hy⟩ : ∃ y, V[j]? = some y := ⟨V[j], by simp [show j < V.length by omega]⟩
          have HN := Lib.hid (badV_next HX.out hy hcd); clear hcd
          have HY := Lib.hid hy; clear hy
          have j1 : (0 : Int) ≤ (j : Int) := by omega
          have j2 : (j : Int) < (V.length : Int) := by omega
          have j3 : IntKind.i64.wrap ((j : Int) + 1 - 1) = (j : Int) := (IntWalk.i64_in _ (by omega)).trans (by omega)
          have j6 : IntKind.i64.wrap (j : Int) = (j : Int) := IntWalk.i64_in _ (by omega)
          have j4 : decide ((0 : Int) < (j : Int) + 1) = true := decide_eq_true (by omega)
          have j5 : ((j + 1 : Nat) : Int) = (j : Int) + 1 := by omega
          rw [j5] at i1 i2
          obtain ⟨d, hd⟩ : ∃ d, decide (y < x) = d := ⟨_, rfl⟩
          have KB1 := Lib.hid (show ∀ (p : Option Addr) (n c : Nat) (w : World), Calls Tryd.prog 31 #[.int .u64 x, .agg #[.int .u64 y, .int .u64 my, .slice p n c]] w (fun e w' => e = .returned (.bool d) ∧ w' = w.alloc (.cells #[.int .u64 y, .int .u64 my, .slice p n c] 47)) from fun p n c w => hd ▸ behind_any x y my p n c w)
          have HD := Lib.hid hd; clear hd hlt hk0
          rw [j5]
          go_wp2_with fail
          refine K.out.mono ?_
          rintro e w1 ⟨rfl, h⟩
          have T0 := keep_cell HT.out h
          have H1 := Lib.hid (below_call HBW.out h); clear h
          rw [show errV none = .nilIface from rfl]
          obtain ⟨b', o', cp', q', n', ce', ee, d0, d1, d2, _⟩ := (HV.out.call H1.out).elem HY.out
          cases ee
          have HS := Lib.hid (show Below w1.heap.size w1 w1 ∧ _ ∧ _ ∧ _ ∧ _ from ⟨Below.refl _ _, T0, d0, d1, d2⟩)
          clear T0 d0 d1 d2 c0 c1 c2
          go_wp2_with fail
          go_region_held3 (fun w' => Below w1.heap.size w1 w' ∧ w'.cell? ⟨wr.heap.size, 0, none⟩ = some (.int .u64 x) ∧ w'.cell? ⟨b, o + j * 3, none⟩ = some (.int .u64 y) ∧ w'.cell? ⟨b, o + j * 3 + 1, none⟩ = some (.int .u64 my) ∧ w'.cell? ⟨b, o + j * 3 + 2, none⟩ = some (.slice q' n' ce'))
            (first
              | exact k5_call HS.out (Below.refl _ _).drew
              | exact k5_call (by assumption) (below_new _ _))
            ((go_at_call 31; refine (KB1.out _ _ _ _).mono ?_; rintro en w3 ⟨rfl, hw⟩; obtain rfl := hw; have HW3 := Lib.hid (below_call H1.out (below_call (Below.refl _ _).drew (below_new w1.drew (.cells #[.int .u64 y, .int .u64 my, .slice q' n' ce'] 47))))))
          by_cases hle : x ≤ y
          · have hdd : d = false := by rw [← HD.out]; exact decide_eq_false (by omega)
            subst hdd
            have HZ := Lib.hid (chkE_at9 HLT.out HBF.out (HN.out.trans (if_pos hle)) (by decide)); clear HN hle
            go_wp2_with fail
            refine (KN.out 3 _ _ (by decide)).mono ?_
            rintro e w4 ⟨rfl, rfl⟩
            go_wp2_with fail
            go_ret
            exact ⟨by rw [HZ.out]; rfl, HW3.out⟩
          · have hdd : d = true := by rw [← HD.out]; exact decide_eq_true (by omega)
            subst hdd
            have HZ := Lib.hid (bef_snoc HBF.out (HN.out.trans (if_neg hle))); clear HN hle
            go_wp2_with fail
            go_roundw
            case rel => exact ⟨j + 1 + 1, by go_num, by omega, HZ.out, HW3.out⟩
            case measure => simp [intOf]; omega
    · obtain rfl : k = V.length := by omega
      have HZ := Lib.hid (chkE_none9 HBF.out)
      go_wp2_with fail
      go_ret
      exact ⟨by rw [HZ.out]; rfl, HB.out⟩
end Go.Proofs.YtgeggdaokjimjaaDoor
