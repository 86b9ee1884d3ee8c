/- The law RangesNormal in every state. Conditions: as RangesCheck. -/
import Derived.Test.YtgkdjbdcmmegiaaGreatDoorRLaw1
import Derived.Test.YtgkdjbdcmmegiaaGreatDoorRIv
namespace Go.Proofs.YtgkdjbdcmmegiaaGreatDoor
open Go.RowKit Go.Shelf

theorem mstep_64 (L : List Iv) (s : Iv) (hL : All64 L) (hs : In64 s) : All64 (mstep L s) := by
  by_cases h : L = []
  · subst h; intro x hx; rw [mstep_nil] at hx; rw [List.mem_singleton.1 hx]; exact hs
  · obtain ⟨m, y, rfl⟩ := snoc_of h
    have hy := hL y (by simp)
    by_cases hf : y.2 + 1 < s.1
    · rw [mstep_far _ _ _ hf]
      intro x hx
      rcases List.mem_append.1 hx with h | h
      · exact hL x h
      · rw [List.mem_singleton.1 h]; exact hs
    · rw [mstep_near _ _ _ hf]
      intro x hx
      rcases List.mem_append.1 hx with h | h
      · exact hL x (List.mem_append_left _ h)
      · rw [List.mem_singleton.1 h]
        refine ⟨hy.1, ?_⟩
        show 0 ≤ (if y.2 < s.2 then s.2 else y.2) ∧ (if y.2 < s.2 then s.2 else y.2) ≤ _
        split
        · exact hs.2
        · exact hy.2
theorem merge_64 : ∀ (l L : List Iv), All64 L → All64 l → All64 (l.foldl mstep L) := by
  intro l
  induction l with
  | nil => intro L h _; exact h
  | cons x l ih => intro L hL hl; exact ih _ (mstep_64 L x hL (hl x (by simp))) fun y hy => hl y (List.mem_cons_of_mem _ hy)
theorem norm_64 (l : List Iv) (h : All64 l) : All64 (normL l) :=
  merge_64 _ [] (by intro x hx; cases hx) fun x hx => h x ((List.mergeSort_perm l _).mem_iff.1 hx)

set_option maxRecDepth 100000 in
theorem lawNormal_long (p : Option Addr) (n cap : Nat) (w : World) (hg : GlobR w) (hn : 60 < n) :
    Calls Tryz.prog 4 #[.slice p n cap] w (IsEnd true w) := by
  have KA := Lib.hid (alive_in w hg); clear hg
  have hi : (60 : Int) < (n : Int) := by omega
  go_enter Tryz.func4, Tryz.ntmps4
  go_wp2_with fail
  refine KA.out.mono ?_
  rintro e w1 ⟨rfl, h1⟩
  have H1 := Lib.hid h1; clear h1
  go_wp2_with fail
  go_ret
  exact ⟨rfl, H1.out⟩

set_option maxRecDepth 100000 in
set_option maxHeartbeats 4000000 in
theorem lawNormal_bad (l : List Iv) (s : Value) (w : World) (n : Nat) (z : Iv) (hg : GlobR w) (hl : IvsAt w s l) (hn : l.length ≤ 60) (hz : l[n]? = some z) (hzb : ¬ z.1 ≤ z.2) (ho : ∀ (j : Nat) y, j < n → l[j]? = some y → y.1 ≤ y.2) :
    Calls Tryz.prog 4 #[s] w (IsEnd true w) := by
  obtain ⟨p, cap, rfl, _⟩ := hl.shape
  have hi : ¬ (60 : Int) < (l.length : Int) := by omega
  have hnl : n < l.length := (List.getElem?_eq_some_iff.1 hz).1
  have I := Lib.hid hl
  have G := Lib.hid hg
  have KA := Lib.hid alive_in
  have K1 := Lib.hid (normal_bad l _ w n z hg.e hl hz hzb ho)
  have KR := Lib.hid right_any
  have HO := Lib.hid ho
  have HZ := Lib.hid hz
  have HZB := Lib.hid hzb
  clear hl hg ho hz hzb
  go_enter Tryz.func4, Tryz.ntmps4
  go_wp2_with fail
  refine K1.out.mono ?_
  rintro e w1 ⟨rfl, h1⟩
  have H1 := Lib.hid h1; clear h1
  go_wp2_with fail
  go_loopw [19] (fun i wr => ∃ k : Nat, k ≤ n ∧ i = .int .i64 k ∧ Below w.heap.size w wr) (fun i _ => n - (intOf i).toNat)
  case atStart => exact ⟨0, Nat.zero_le _, rfl, H1.out⟩
  case round =>
    obtain ⟨k, hk, rfl, hb⟩ := hrel
    have HB := Lib.hid hb; clear hb
    have hlt : k < l.length := by omega
    obtain ⟨⟨a, b⟩, hx⟩ : ∃ x, l[k]? = some x := ⟨l[k], by simp [hlt]⟩
    have i1 : (0 : Int) ≤ (k : Int) := by omega
    have i2 : (k : Int) < (l.length : Int) := by omega
    obtain ⟨g, o, cap', e, c0, c1⟩ := (I.out.call HB.out).elem hx
    cases e
    have HA := Lib.hid (below_alloc HB.out (.cells #[.int .u64 a, .int .u64 b] 38))
    by_cases hkn : k < n
    · have hab : decide (a ≤ b) = true := decide_eq_true (HO.out k _ hkn hx)
      clear hx
      have KX : Hid (∀ W, Calls Tryz.prog 15 #[.agg #[.int .u64 a, .int .u64 b]] W (IsEnd true W)) := Lib.hid (fun W => hab ▸ KR.out a b W)
      clear hab
      go_wp2_with fail
      refine (KX.out _).mono ?_
      rintro e w2 ⟨rfl, h2⟩
      have H2 := Lib.hid (below_call HA.out h2); clear h2
      go_wp2_with fail
      go_roundw
      case rel => exact ⟨k + 1, by omega, by go_num, H2.out⟩
      case measure => simp [intOf]; omega
    · obtain rfl : k = n := by omega
      have hab : decide (a ≤ b) = false := decide_eq_false (by have h := HZ.out.symm.trans hx; cases h; have h3 := HZB.out; simp only at h3; omega)
      clear hx
      have KX : Hid (∀ W, Calls Tryz.prog 15 #[.agg #[.int .u64 a, .int .u64 b]] W (IsEnd false W)) := Lib.hid (fun W => hab ▸ KR.out a b W)
      clear hab
      go_wp2_with fail
      refine (KX.out _).mono ?_
      rintro e w2 ⟨rfl, h2⟩
      have H2 := Lib.hid (below_call HA.out h2); clear h2
      go_wp2_with fail
      refine (KA.out _ (G.out.here H2.out)).mono ?_
      rintro e w3 ⟨rfl, h3⟩
      have H3 := Lib.hid (below_call H2.out h3); clear h3
      have K4 : Hid (Calls Tryz.prog 12 #[.iface 56 (.agg #[.int .i64 2, .int .i64 k])] w3 (IntEnd 2 w3)) := Lib.hid (Code_any (some (2, some (k : Int))) w3 (G.out.here H3.out).e)
      go_wp2_with fail
      refine K4.out.mono ?_
      rintro e w4 ⟨rfl, h4⟩
      have H4 := Lib.hid (below_call H3.out h4); clear h4
      have K5 : Hid (Calls Tryz.prog 13 #[.iface 56 (.agg #[.int .i64 2, .int .i64 k])] w4 (IntEnd k w4)) := Lib.hid (At_any (some (2, some (k : Int))) w4 (G.out.here H4.out).e)
      go_wp2_with fail
      refine K5.out.mono ?_
      rintro e w5 ⟨rfl, h5⟩
      have H5 := Lib.hid (below_call H4.out h5); clear h5
      go_wp2_with fail
      go_ret
      exact ⟨rfl, H5.out⟩

set_option maxRecDepth 100000 in
set_option maxHeartbeats 4000000 in
theorem lawNormal_ok (l : List Iv) (s : Value) (w : World) (hg : GlobR w) (hl : IvsAt w s l) (h64 : All64 l) (hn : l.length ≤ 60) (ho : ∀ y ∈ l, y.1 ≤ y.2) :
    Calls Tryz.prog 4 #[s] w (IsEnd true w) := by
  obtain ⟨p, cap, rfl, _⟩ := hl.shape
  have hi : ¬ (60 : Int) < (l.length : Int) := by omega
  have I := Lib.hid hl
  have G := Lib.hid hg
  have KA := Lib.hid alive_in
  have hinv := normL_inv l ho
  have hlen := Nat.le_trans (norm_len l) (Nat.le_trans hn (by omega : 60 ≤ 1048576))
  have h64n := norm_64 l h64
  have hon : ∀ y ∈ normL l, y.1 ≤ y.2 := canon_ok _ hinv.1
  have hck : chkV (normL l) = none := by unfold chkV; rw [(canon_iff _).2 hinv.1]; rfl
  have hnn := norm_canon hinv.1
  have K1 := Lib.hid (normal_ok l _ w hl h64 ho)
  have KN := Lib.hid (fun W hl => refNormal_any l (.slice p l.length cap) W hl h64 ho)
  have KC : Hid (∀ s W, ErrT W → IvsAt W s (normL l) → Calls Tryz.prog 10 #[s] W (fun e w' => e = .returned .nilIface ∧ Below W.heap.size W w')) := Lib.hid (fun s W h1 h2 => by
    have h := rcheck_any _ s W h1 h2 h64n
    rw [hck] at h
    exact h)
  have K2 : Hid (∀ s W, IvsAt W s (normL l) → Calls Tryz.prog 14 #[s] W (IsList (normL l) W)) := Lib.hid (fun s W h => by
    have h2 := normal_ok _ s W h h64n hon
    rw [hnn] at h2
    exact h2)
  have KS : Hid (∀ (s t : Value) W, IvsAt W s (normL l) → IvsAt W t (normL l) → Calls Tryz.prog 16 #[s, t] W (IsEnd true W)) := Lib.hid (fun s t W h1 h2 => by
    have h := refSame_any _ _ s t W h1 h2
    rw [decide_eq_true rfl] at h
    exact h)
  have KR := Lib.hid right_any
  have HO := Lib.hid ho
  have HLen := Lib.hid hlen
  clear hl hg ho h64 hinv hlen h64n hon hck hnn
  generalize normL l = N at *
  go_enter Tryz.func4, Tryz.ntmps4
  go_wp2_with fail
  refine K1.out.mono ?_
  rintro e w1 ⟨v, rfl, hv, h1⟩
  have H1 := Lib.hid h1; clear h1
  have IN := Lib.hid (hv.ivs HLen.out); clear hv
  go_wp2_with fail
  go_loopw [19] (fun i wr => ∃ k : Nat, k ≤ l.length ∧ i = .int .i64 k ∧ Below w1.heap.size w1 wr) (fun i _ => l.length - (intOf i).toNat)
  case atStart => exact ⟨0, Nat.zero_le _, rfl, Below.refl _ _⟩
  case round =>
    obtain ⟨k, hk, rfl, hb⟩ := hrel
    have HB1 := Lib.hid hb
    have HB := Lib.hid (below_call H1.out hb); clear hb
    by_cases hlt : k < l.length
    · obtain ⟨⟨a, b⟩, hx⟩ : ∃ x, l[k]? = some x := ⟨l[k], by simp [hlt]⟩
      have i1 : (0 : Int) ≤ (k : Int) := by omega
      have i2 : (k : Int) < (l.length : Int) := by omega
      obtain ⟨g, o, cap', e, c0, c1⟩ := (I.out.call HB.out).elem hx
      cases e
      have HA := Lib.hid (below_alloc HB1.out (.cells #[.int .u64 a, .int .u64 b] 38))
      have hab : decide (a ≤ b) = true := decide_eq_true (HO.out _ (List.mem_of_getElem? hx))
      clear hx
      have KX : Hid (∀ W, Calls Tryz.prog 15 #[.agg #[.int .u64 a, .int .u64 b]] W (IsEnd true W)) := Lib.hid (fun W => hab ▸ KR.out a b W)
      clear hab
      go_wp2_with fail
      refine (KX.out _).mono ?_
      rintro e w2 ⟨rfl, h2⟩
      have H2 := Lib.hid (below_call HA.out h2); clear h2
      go_wp2_with fail
      go_roundw
      case rel => exact ⟨k + 1, by omega, by go_num, H2.out⟩
      case measure => simp [intOf]; omega
    · obtain rfl : k = l.length := by omega
      go_wp2_with fail
      refine (KN.out _ (I.out.call HB.out)).mono ?_
      rintro e w2 ⟨v2, rfl, hv2, h2⟩
      have H2 := Lib.hid (below_call HB.out h2)
      have IN2 := Lib.hid ((IN.out.call HB1.out).call h2); clear h2
      have IM2 := Lib.hid (hv2.ivs HLen.out); clear hv2
      go_wp2_with fail
      refine (KS.out _ _ _ IN2.out IM2.out).mono ?_
      rintro e w3 ⟨rfl, h3⟩
      have H3 := Lib.hid (below_call H2.out h3)
      have IN3 := Lib.hid (IN2.out.call h3); clear h3
      go_wp2_with fail
      refine (KC.out _ _ (G.out.here H3.out).e IN3.out).mono ?_
      rintro e w4 ⟨rfl, h4⟩
      have H4 := Lib.hid (below_call H3.out h4)
      have IN4 := Lib.hid (IN3.out.call h4); clear h4
      go_wp2_with fail
      refine (K2.out _ _ IN4.out).mono ?_
      rintro e w5 ⟨v5, rfl, hv5, h5⟩
      have H5 := Lib.hid (below_call H4.out h5)
      have IN5 := Lib.hid (IN4.out.call h5); clear h5
      have IM5 := Lib.hid (hv5.ivs HLen.out); clear hv5
      go_wp2_with fail
      refine (KA.out _ (G.out.here H5.out)).mono ?_
      rintro e w6 ⟨rfl, h6⟩
      have H6 := Lib.hid (below_call H5.out h6)
      have IN6 := Lib.hid (IN5.out.call h6)
      have IM6 := Lib.hid (IM5.out.call h6); clear h6
      go_wp2_with fail
      refine (KS.out _ _ _ IM6.out IN6.out).mono ?_
      rintro e w7 ⟨rfl, h7⟩
      have H7 := Lib.hid (below_call H6.out h7); clear h7
      go_wp2_with fail
      go_ret
      exact ⟨rfl, H7.out⟩
theorem lawNormal_any (l : List Iv) (s : Value) (w : World) (hg : GlobR w) (hl : IvsAt w s l) (h64 : All64 l) (hn : l.length ≤ 60) :
    Calls Tryz.prog 4 #[s] w (IsEnd true w) := by
  rcases first_wrong l with ho | ⟨n, z, hz, hzb, ho⟩
  · exact lawNormal_ok l s w hg hl h64 hn ho
  · exact lawNormal_bad l s w n z hg hl hn hz hzb ho
end Go.Proofs.YtgkdjbdcmmegiaaGreatDoor
