/- SpanCuts returns true for all intervals of numbers of 64 bits. Condition: the variable errors.errorType holds the type error. -/
import Derived.Test.YtciinnkcjiibfaaDoorSRelates
import Derived.Test.YtciinnkcjiibfaaDoorSRefCut
import Derived.Test.YtciinnkcjiibfaaDoorIvs
namespace Go.Proofs.YtciinnkcjiibfaaDoor
open Go.RowKit Go.ChangeShapes Go.WideShapes

theorem hasR (a b x : Int) (r : Bool) (w : World) (h : hasB a b x = r) :
    Calls Tryd.prog 15 #[.agg #[.int .u64 a, .int .u64 b], .int .u64 x] w (IsEnd r w) := by
  subst h; exact refHas_any a b x w
theorem cut_has {a b c d : Int} (x : Int) (h1 : a ≤ b) (h2 : c ≤ d) : (cutL a b c d).any (fun y => hasB y.1 y.2 x) = (hasB a b x && !hasB c d x) := by
  unfold cutL frontL backL hasB
  rw [Bool.eq_iff_iff]
  by_cases k1 : a < c
  · by_cases k2 : d < b
    · rw [if_pos k1, if_pos k2]; simp; split <;> split <;> omega
    · rw [if_pos k1, if_neg k2]; simp; split <;> omega
  · by_cases k2 : d < b
    · rw [if_neg k1, if_pos k2]; simp; split <;> omega
    · rw [if_neg k1, if_neg k2]; simp; omega
theorem cutL_len (a b c d : Int) : (cutL a b c d).length ≤ 8796093022208 := by
  unfold cutL frontL backL
  by_cases h1 : a < c <;> by_cases h2 : d < b <;> simp [h1, h2]
def IvsEnd (l : List Iv) (w : World) (e : Ending) (w' : World) : Prop := ∃ s, e = .returned s ∧ IvsAt w' s l ∧ Below w.heap.size w w'
theorem ivsEnd_of {l : List Iv} {w w' : World} {e : Ending} (hl : l.length ≤ 8796093022208) (h : OwnIvs l w e w') : IvsEnd l w e w' := by
  obtain ⟨v, h1, h2, h3⟩ := h
  exact ⟨v, h1, ivs_of_own h2 hl, h3⟩
theorem any_take_snoc (l : List Iv) (f : Iv → Bool) (k : Nat) (y : Iv) (h : l[k]? = some y) : (l.take (k + 1)).any f = ((l.take k).any f || f y) := by
  rw [List.take_add_one, h]
  simp

set_option maxRecDepth 100000 in
theorem cuts_wrong1 (a b c d x : Int) (w : World) (hg : ErrT w) (h : ¬ a ≤ b) :
    Calls Tryd.prog 7 #[.agg #[.int .u64 a, .int .u64 b], .agg #[.int .u64 c, .int .u64 d], .int .u64 x] w (IsEnd true w) := by
  have k1 := fun w => right_any a b w
  rw [show decide (a ≤ b) = false from by simpa using h] at k1
  have K1 := Lib.hid k1; clear k1
  have K5 := Lib.hid alive_any
  have Hg := Lib.hid hg; clear hg h
  go_enter Tryd.func7, Tryd.ntmps7
  go_wp2_with fail
  refine (K1.out _).mono ?_
  rintro e w1 ⟨rfl, h1⟩
  have S1 := Lib.hid ((Kp.two w _ _ _ _ _ _).call h1); clear h1
  go_wp2_with fail
  refine (K5.out _ (Hg.out.here S1.out.1)).mono ?_
  rintro e w3 ⟨rfl, h3⟩
  have S3 := Lib.hid (S1.out.call h3); clear h3 S1
  go_wp2_with fail
  go_ret
  exact ⟨rfl, S3.out.1⟩

set_option maxRecDepth 100000 in
theorem cuts_wrong2 (a b c d x : Int) (w : World) (hg : ErrT w) (h1 : a ≤ b) (h : ¬ c ≤ d) :
    Calls Tryd.prog 7 #[.agg #[.int .u64 a, .int .u64 b], .agg #[.int .u64 c, .int .u64 d], .int .u64 x] w (IsEnd true w) := by
  have k1 := fun w => right_any a b w
  rw [show decide (a ≤ b) = true from by simpa using h1] at k1
  have K1 := Lib.hid k1; clear k1
  have k2 := fun w => right_any c d w
  rw [show decide (c ≤ d) = false from by simpa using h] at k2
  have K2 := Lib.hid k2; clear k2
  have K5 := Lib.hid alive_any
  have Hg := Lib.hid hg; clear hg h h1
  go_enter Tryd.func7, Tryd.ntmps7
  go_wp2_with fail
  refine (K1.out _).mono ?_
  rintro e w1 ⟨rfl, h1⟩
  have S1 := Lib.hid ((Kp.two w _ _ _ _ _ _).call h1); clear h1
  obtain ⟨_, c0, c1, a0, a1, _⟩ := S1.out
  go_wp2_with fail
  refine (K2.out _).mono ?_
  rintro e w2 ⟨rfl, h2⟩
  have S2 := Lib.hid (S1.out.call h2); clear h2 S1 c0 c1 a0 a1
  go_wp2_with fail
  refine (K5.out _ (Hg.out.here S2.out.1)).mono ?_
  rintro e w3 ⟨rfl, h3⟩
  have S3 := Lib.hid (S2.out.call h3); clear h3 S2
  go_wp2_with fail
  go_ret
  exact ⟨rfl, S3.out.1⟩

set_option maxRecDepth 100000 in
set_option maxHeartbeats 4000000 in
theorem cuts_yes (a b c d x : Int) (w : World) (hg : ErrT w) (ha : 0 ≤ a ∧ a ≤ 18446744073709551615) (hb : 0 ≤ b ∧ b ≤ 18446744073709551615) (hc : 0 ≤ c ∧ c ≤ 18446744073709551615) (hd : 0 ≤ d ∧ d ≤ 18446744073709551615) (h1 : a ≤ b) (h2 : c ≤ d) (hp : hasB a b x = true) :
    Calls Tryd.prog 7 #[.agg #[.int .u64 a, .int .u64 b], .agg #[.int .u64 c, .int .u64 d], .int .u64 x] w (IsEnd true w) := by
  have k1 := fun w => right_any a b w
  rw [show decide (a ≤ b) = true from by simpa using h1] at k1
  have K1 := Lib.hid k1; clear k1
  have k2 := fun w => right_any c d w
  rw [show decide (c ≤ d) = true from by simpa using h2] at k2
  have K2 := Lib.hid k2; clear k2
  have K5 := Lib.hid alive_any
  obtain ⟨q, hq⟩ : ∃ q, hasB c d x = q := ⟨_, rfl⟩
  have hh := cut_has x h1 h2
  rw [hp, hq] at hh
  have K3 := Lib.hid (fun w => (cut_any a b c d w hd hc ha.1 hb.2).mono fun e w' h => ivsEnd_of (cutL_len a b c d) h)
  have K4 := Lib.hid (fun w => (refCut_any a b c d w hd hc ha.1 hb.2).mono fun e w' h => ivsEnd_of (cutL_len a b c d) h)
  have K6 := Lib.hid hasR
  have K7 := Lib.hid equal_any
  obtain ⟨l, hl⟩ : ∃ l, cutL a b c d = l := ⟨_, rfl⟩
  rw [hl] at K3 K4 hh
  have HH := Lib.hid hh
  have Hg := Lib.hid hg
  clear hg h1 h2 ha hb hc hd hl hh
  go_enter Tryd.func7, Tryd.ntmps7
  go_wp2_with fail
  refine (K1.out _).mono ?_
  rintro e w1 ⟨rfl, h1⟩
  have S1 := Lib.hid ((Kp.two w _ _ _ _ _ _).call h1); clear h1
  obtain ⟨_, c0, c1, a0, a1, _⟩ := S1.out
  go_wp2_with fail
  refine (K2.out _).mono ?_
  rintro e w2 ⟨rfl, h2⟩
  have S2 := Lib.hid (S1.out.call h2); clear h2 S1 c0 c1 a0 a1
  obtain ⟨_, c0, c1, a0, a1, _⟩ := S2.out
  go_wp2_with fail
  refine (K3.out _).mono ?_
  rintro e w3 ⟨s, rfl, hs, h3⟩
  have S3 := Lib.hid (S2.out.call h3); clear h3 S2 c0 c1 a0 a1
  have I3 := Lib.hid hs
  obtain ⟨ps, cap, rfl, hlen, hcells⟩ := hs
  have HC := Lib.hid hcells; clear hcells
  go_wp2_with fail
  go_loopw [8, 25] (fun v i wr => ∃ k : Nat, k ≤ l.length ∧ i = .int .i64 k ∧ v = .bool ((l.take k).any fun y => hasB y.1 y.2 x) ∧ Below w3.heap.size w3 wr) (fun _ i _ => l.length - (intOf i).toNat)
  case atStart => exact ⟨0, Nat.zero_le _, rfl, by simp, Below.refl _ _⟩
  case round =>
    obtain ⟨k, hk, rfl, rfl, hbk⟩ := hrel
    have HB := Lib.hid hbk; clear hbk
    by_cases hlt : k < l.length
    · obtain ⟨bb, oo, rfl, hcl⟩ := HC.out (by intro h; subst h; simp at hlt)
      have hgl : l[k]? = some l[k] := by simp [hlt]
      generalize hX : l[k] = X at *
      have hst := any_take_snoc l (fun y => hasB y.1 y.2 x) k X hgl
      have e0 : wr.cell? ⟨bb, oo + k * 2, none⟩ = some (.int .u64 X.1) := keep_cell (hcl k X hgl).1 HB.out
      have e1 : wr.cell? ⟨bb, oo + k * 2 + 1, none⟩ = some (.int .u64 X.2) := keep_cell (hcl k X hgl).2 HB.out
      clear hcl hgl
      have HX := Lib.hid hX; clear hX
      have HST := Lib.hid hst; clear hst
      have HBn := Lib.hid (HB.out.trans ((below_new wr (.cells #[.int .u64 X.1, .int .u64 X.2] 24)).mono HB.out.size))
      cases hu : (l.take k).any fun y => hasB y.1 y.2 x with
      | true =>
        have HU := Lib.hid hu; clear hu
        go_wp2_with fail
        go_roundw
        case rel => exact ⟨k + 1, by omega, by go_num, by rw [HST.out, HU.out]; rfl, HBn.out⟩
        case measure => simp [intOf]; omega
      | false =>
        have HU := Lib.hid hu; clear hu
        go_wp2_with fail
        refine (K6.out _ _ _ _ _ rfl).mono ?_
        rintro e w4 ⟨rfl, h4⟩
        have HB4 := Lib.hid (HBn.out.trans (h4.mono HBn.out.size)); clear h4
        go_wp2_with fail
        go_roundw
        case rel => exact ⟨k + 1, by omega, by go_num, by rw [HST.out, HU.out]; rfl, HB4.out⟩
        case measure => simp [intOf]; omega
    · obtain rfl : k = l.length := by omega
      rw [List.take_length]
      rw [HH.out]
      have S4 := Lib.hid (S3.out.call HB.out)
      have I4 := Lib.hid (I3.out.call HB.out)
      clear HB
      go_wp2_with fail
      refine (K5.out _ (Hg.out.here S4.out.1)).mono ?_
      rintro e w5 ⟨rfl, h5⟩
      have S5 := Lib.hid (S4.out.call h5)
      have I5 := Lib.hid (I4.out.call h5); clear h5 S4 I4
      obtain ⟨_, c0, c1, a0, a1, _⟩ := S5.out
      go_wp2_with fail
      refine (K4.out _).mono ?_
      rintro e w6 ⟨t, rfl, ht, h6⟩
      have S6 := Lib.hid (S5.out.call h6)
      have I6 := Lib.hid (I5.out.call h6); clear h6 S5 I5 c0 c1 a0 a1
      have J6 := Lib.hid ht
      obtain ⟨pt, capt, rfl, _, _⟩ := ht
      go_wp2_with fail
      refine (K7.out l l _ _ _ I6.out J6.out).mono ?_
      rintro e w7 ⟨rfl, h7⟩
      have S7 := Lib.hid (S6.out.call h7); clear h7 S6 I6 J6
      obtain ⟨_, c0, c1, a0, a1, _⟩ := S7.out
      go_wp2_with fail
      refine (K6.out _ _ _ _ _ hp).mono ?_
      rintro e w8 ⟨rfl, h8⟩
      have S8 := Lib.hid (S7.out.call h8); clear h8 S7 c0 c1 a0 a1
      obtain ⟨_, c0, c1, a0, a1, _⟩ := S8.out
      go_wp2_with fail
      refine (K6.out _ _ _ _ _ hq).mono ?_
      rintro e w9 ⟨rfl, h9⟩
      have S9 := Lib.hid (S8.out.call h9); clear h9 S8 c0 c1 a0 a1
      go_wp2_with fail
      go_ret
      exact ⟨rfl, S9.out.1⟩

set_option maxRecDepth 100000 in
set_option maxHeartbeats 4000000 in
theorem cuts_no (a b c d x : Int) (w : World) (hg : ErrT w) (ha : 0 ≤ a ∧ a ≤ 18446744073709551615) (hb : 0 ≤ b ∧ b ≤ 18446744073709551615) (hc : 0 ≤ c ∧ c ≤ 18446744073709551615) (hd : 0 ≤ d ∧ d ≤ 18446744073709551615) (h1 : a ≤ b) (h2 : c ≤ d) (hp : hasB a b x = false) :
    Calls Tryd.prog 7 #[.agg #[.int .u64 a, .int .u64 b], .agg #[.int .u64 c, .int .u64 d], .int .u64 x] w (IsEnd true w) := by
  have k1 := fun w => right_any a b w
  rw [show decide (a ≤ b) = true from by simpa using h1] at k1
  have K1 := Lib.hid k1; clear k1
  have k2 := fun w => right_any c d w
  rw [show decide (c ≤ d) = true from by simpa using h2] at k2
  have K2 := Lib.hid k2; clear k2
  have K5 := Lib.hid alive_any
  obtain ⟨q, hq⟩ : ∃ q, hasB c d x = q := ⟨_, rfl⟩
  have hh := cut_has x h1 h2
  rw [hp, hq] at hh
  have K3 := Lib.hid (fun w => (cut_any a b c d w hd hc ha.1 hb.2).mono fun e w' h => ivsEnd_of (cutL_len a b c d) h)
  have K4 := Lib.hid (fun w => (refCut_any a b c d w hd hc ha.1 hb.2).mono fun e w' h => ivsEnd_of (cutL_len a b c d) h)
  have K6 := Lib.hid hasR
  have K7 := Lib.hid equal_any
  obtain ⟨l, hl⟩ : ∃ l, cutL a b c d = l := ⟨_, rfl⟩
  rw [hl] at K3 K4 hh
  have HH := Lib.hid hh
  have Hg := Lib.hid hg
  clear hg h1 h2 ha hb hc hd hl hh
  go_enter Tryd.func7, Tryd.ntmps7
  go_wp2_with fail
  refine (K1.out _).mono ?_
  rintro e w1 ⟨rfl, h1⟩
  have S1 := Lib.hid ((Kp.two w _ _ _ _ _ _).call h1); clear h1
  obtain ⟨_, c0, c1, a0, a1, _⟩ := S1.out
  go_wp2_with fail
  refine (K2.out _).mono ?_
  rintro e w2 ⟨rfl, h2⟩
  have S2 := Lib.hid (S1.out.call h2); clear h2 S1 c0 c1 a0 a1
  obtain ⟨_, c0, c1, a0, a1, _⟩ := S2.out
  go_wp2_with fail
  refine (K3.out _).mono ?_
  rintro e w3 ⟨s, rfl, hs, h3⟩
  have S3 := Lib.hid (S2.out.call h3); clear h3 S2 c0 c1 a0 a1
  have I3 := Lib.hid hs
  obtain ⟨ps, cap, rfl, hlen, hcells⟩ := hs
  have HC := Lib.hid hcells; clear hcells
  go_wp2_with fail
  go_loopw [8, 25] (fun v i wr => ∃ k : Nat, k ≤ l.length ∧ i = .int .i64 k ∧ v = .bool ((l.take k).any fun y => hasB y.1 y.2 x) ∧ Below w3.heap.size w3 wr) (fun _ i _ => l.length - (intOf i).toNat)
  case atStart => exact ⟨0, Nat.zero_le _, rfl, by simp, Below.refl _ _⟩
  case round =>
    obtain ⟨k, hk, rfl, rfl, hbk⟩ := hrel
    have HB := Lib.hid hbk; clear hbk
    by_cases hlt : k < l.length
    · obtain ⟨bb, oo, rfl, hcl⟩ := HC.out (by intro h; subst h; simp at hlt)
      have hgl : l[k]? = some l[k] := by simp [hlt]
      generalize hX : l[k] = X at *
      have hst := any_take_snoc l (fun y => hasB y.1 y.2 x) k X hgl
      have e0 : wr.cell? ⟨bb, oo + k * 2, none⟩ = some (.int .u64 X.1) := keep_cell (hcl k X hgl).1 HB.out
      have e1 : wr.cell? ⟨bb, oo + k * 2 + 1, none⟩ = some (.int .u64 X.2) := keep_cell (hcl k X hgl).2 HB.out
      clear hcl hgl
      have HX := Lib.hid hX; clear hX
      have HST := Lib.hid hst; clear hst
      have HBn := Lib.hid (HB.out.trans ((below_new wr (.cells #[.int .u64 X.1, .int .u64 X.2] 24)).mono HB.out.size))
      cases hu : (l.take k).any fun y => hasB y.1 y.2 x with
      | true =>
        have HU := Lib.hid hu; clear hu
        go_wp2_with fail
        go_roundw
        case rel => exact ⟨k + 1, by omega, by go_num, by rw [HST.out, HU.out]; rfl, HBn.out⟩
        case measure => simp [intOf]; omega
      | false =>
        have HU := Lib.hid hu; clear hu
        go_wp2_with fail
        refine (K6.out _ _ _ _ _ rfl).mono ?_
        rintro e w4 ⟨rfl, h4⟩
        have HB4 := Lib.hid (HBn.out.trans (h4.mono HBn.out.size)); clear h4
        go_wp2_with fail
        go_roundw
        case rel => exact ⟨k + 1, by omega, by go_num, by rw [HST.out, HU.out]; rfl, HB4.out⟩
        case measure => simp [intOf]; omega
    · obtain rfl : k = l.length := by omega
      rw [List.take_length]
      rw [HH.out]
      have S4 := Lib.hid (S3.out.call HB.out)
      have I4 := Lib.hid (I3.out.call HB.out)
      clear HB
      go_wp2_with fail
      refine (K5.out _ (Hg.out.here S4.out.1)).mono ?_
      rintro e w5 ⟨rfl, h5⟩
      have S5 := Lib.hid (S4.out.call h5)
      have I5 := Lib.hid (I4.out.call h5); clear h5 S4 I4
      obtain ⟨_, c0, c1, a0, a1, _⟩ := S5.out
      go_wp2_with fail
      refine (K4.out _).mono ?_
      rintro e w6 ⟨t, rfl, ht, h6⟩
      have S6 := Lib.hid (S5.out.call h6)
      have I6 := Lib.hid (I5.out.call h6); clear h6 S5 I5 c0 c1 a0 a1
      have J6 := Lib.hid ht
      obtain ⟨pt, capt, rfl, _, _⟩ := ht
      go_wp2_with fail
      refine (K7.out l l _ _ _ I6.out J6.out).mono ?_
      rintro e w7 ⟨rfl, h7⟩
      have S7 := Lib.hid (S6.out.call h7); clear h7 S6 I6 J6
      obtain ⟨_, c0, c1, a0, a1, _⟩ := S7.out
      go_wp2_with fail
      refine (K6.out _ _ _ _ _ hp).mono ?_
      rintro e w8 ⟨rfl, h8⟩
      have S8 := Lib.hid (S7.out.call h8); clear h8 S7 c0 c1 a0 a1
      go_wp2_with fail
      go_ret
      exact ⟨rfl, S8.out.1⟩

theorem cuts_any (a b c d x : Int) (w : World) (hg : ErrT w) (ha : 0 ≤ a ∧ a ≤ 18446744073709551615) (hb : 0 ≤ b ∧ b ≤ 18446744073709551615) (hc : 0 ≤ c ∧ c ≤ 18446744073709551615) (hd : 0 ≤ d ∧ d ≤ 18446744073709551615) :
    Calls Tryd.prog 7 #[.agg #[.int .u64 a, .int .u64 b], .agg #[.int .u64 c, .int .u64 d], .int .u64 x] w (IsEnd true w) := by
  by_cases h1 : a ≤ b
  · by_cases h2 : c ≤ d
    · cases hp : hasB a b x
      · exact cuts_no a b c d x w hg ha hb hc hd h1 h2 hp
      · exact cuts_yes a b c d x w hg ha hb hc hd h1 h2 hp
    · exact cuts_wrong2 a b c d x w hg h1 h2
  · exact cuts_wrong1 a b c d x w hg h1
end Go.Proofs.YtciinnkcjiibfaaDoor
