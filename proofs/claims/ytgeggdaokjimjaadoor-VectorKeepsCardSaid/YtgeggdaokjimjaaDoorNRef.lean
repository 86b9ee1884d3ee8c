/- The reference's entries: what is known, the check, the comparison. Conditions: as each theorem says. -/
import Derived.Test.YtgeggdaokjimjaaDoorNMath
import Derived.Test.YtgeggdaokjimjaaDoorORef
import Derived.Test.YtgeggdaokjimjaaDoorRIv
namespace Go.Proofs.YtgeggdaokjimjaaDoor
open Go.RowKit
set_option maxRecDepth 100000 in
set_option maxHeartbeats 2000000 in
theorem refSameE_any (r m r' m' : Int) (H H' : List Iv) (s s' : Value) (w : World) (hl : IvsAt w s H) (hl' : IvsAt w s' H') :
    Calls Tryd.prog 44 #[.agg #[.int .u64 r, .int .u64 m, s], .agg #[.int .u64 r', .int .u64 m', s']] w (IsEnd (decide (r = r' ∧ m = m' ∧ H = H')) w) := by
  obtain ⟨p, cap, rfl, _⟩ := hl.shape
  obtain ⟨p', cap', rfl, _⟩ := hl'.shape
  have hb := below_alloc (below_new w (.cells #[.int .u64 r, .int .u64 m, .slice p H.length cap] 47)) (.cells #[.int .u64 r', .int .u64 m', .slice p' H'.length cap'] 47)
  have K := Lib.hid (refSame_any H H' _ _ _ (hl.call hb) (hl'.call hb))
  have HB := Lib.hid hb; clear hb hl hl'
  by_cases h1 : r = r'
  · by_cases h2 : m = m'
    · subst h1 h2
      rw [show decide (r = r ∧ m = m ∧ H = H') = decide (H = H') from by simp]
      generalize decide (H = H') = b at *
      go_enter Tryd.func44, Tryd.ntmps44
      go_wp2_with fail
      refine K.out.mono ?_
      rintro e w1 ⟨rfl, h⟩
      have H1 := Lib.hid (below_call HB.out h); clear h
      go_wp2_with fail
      go_ret
      exact ⟨rfl, H1.out⟩
    · rw [show decide (r = r' ∧ m = m' ∧ H = H') = false from by simp [h2]]
      have e2 : (m == m') = false := by simpa using h2
      subst h1
      clear K h2
      go_enter Tryd.func44, Tryd.ntmps44
      go_wp2_with fail
      go_ret
      exact ⟨rfl, HB.out⟩
  · rw [show decide (r = r' ∧ m = m' ∧ H = H') = false from by simp [h1]]
    have e1 : (r == r') = false := by simpa using h1
    clear K h1
    go_enter Tryd.func44, Tryd.ntmps44
    go_wp2_with fail
    go_ret
    exact ⟨rfl, HB.out⟩
/-- The error of an entry: that of its holes, or the first hole that reaches beyond the greatest counter. -/
def beyond (m : Int) (H : List Iv) : Option Nat := (List.range H.length).find? fun i => match H[i]? with | some y => decide (m < y.2) | none => false
def chkN (m : Int) (H : List Iv) : Option (Int × Option Int) := match chkV H with
  | some e => some e
  | none => (beyond m H).map fun i => (4, some (i : Int))
theorem beyond_none {m : Int} {H : List Iv} (h : ∀ (i : Nat) (y : Iv), H[i]? = some y → y.2 ≤ m) : beyond m H = none := by
  unfold beyond
  rw [List.find?_eq_none]
  intro i _
  cases hy : H[i]? with
  | none => simp
  | some y => have := h i y hy; simp; omega
theorem beyond_some {m : Int} {H : List Iv} {k : Nat} {y : Iv} (hy : H[k]? = some y) (hb : m < y.2) (h : ∀ (i : Nat) (z : Iv), i < k → H[i]? = some z → z.2 ≤ m) : beyond m H = some k := by
  have hk : k < H.length := (List.getElem?_eq_some_iff.1 hy).1
  unfold beyond
  obtain ⟨d, hd⟩ : ∃ d, H.length = k + (d + 1) := ⟨H.length - k - 1, by omega⟩
  rw [hd, List.range_add, List.find?_append]
  have h1 : (List.range k).find? (fun i => match H[i]? with | some y => decide (m < y.2) | none => false) = none := by
    rw [List.find?_eq_none]
    intro i hi
    have hi : i < k := by simpa using hi
    cases hz : H[i]? with
    | none => simp
    | some z => have := h i z hi hz; simp; omega
  rw [h1, List.range_succ_eq_map, List.map_cons, List.find?_cons]
  simp only [Nat.add_zero, hy]
  simp [hb]
theorem chkN_good {m : Int} {H : List Iv} (h : GoodE m H) : chkN m H = none := by
  unfold chkN
  rw [show chkV H = none from by unfold chkV; rw [(canon_iff H).2 h.good.can]; rfl]
  simp only
  rw [beyond_none fun i y hy => h.hole y (List.mem_of_getElem? hy)]
  rfl
theorem chkN_iff {m : Int} {H : List Iv} (h64 : All64 H) (hm : 0 ≤ m ∧ m ≤ UM) : chkN m H = none ↔ GoodE m H := by
  refine ⟨fun h => ?_, chkN_good⟩
  unfold chkN at h
  cases hc : chkV H with
  | some e => rw [hc] at h; cases h
  | none =>
    rw [hc] at h
    have hcan : canon H := by
      refine (canon_iff H).1 ?_
      unfold chkV at hc
      cases hk : chkL H with
      | none => rfl
      | some x => rw [hk] at hc; cases hc
    have hb : beyond m H = none := by cases hb : beyond m H with | none => rfl | some k => rw [hb] at h; cases h
    refine ⟨good_of hcan h64, hm.1, hm.2, fun y hy => ?_⟩
    obtain ⟨i, hi⟩ := List.mem_iff_getElem?.1 hy
    unfold beyond at hb
    rw [List.find?_eq_none] at hb
    have := hb i (by simp; exact (List.getElem?_eq_some_iff.1 hi).1)
    rw [hi] at this
    simpa using this
set_option maxRecDepth 100000 in
set_option maxHeartbeats 2000000 in
theorem refCheckE_any (r m : Int) (H : List Iv) (s : Value) (w : World) (hl : IvsAt w s H) (h64 : All64 H) :
    Calls Tryd.prog 32 #[.agg #[.int .u64 r, .int .u64 m, s]] w (IsPair (codeE (chkN m H)) ((atE (chkN m H)).getD (-1)) w) := by
  obtain ⟨p, cap, rfl, hlen⟩ := hl.shape
  have hb := below_new w (.cells #[.int .u64 r, .int .u64 m, .slice p H.length cap] 47)
  have k := refCheck_any H _ _ (hl.call hb) h64
  have HL := Lib.hid (hl.call hb); clear hl
  have HB := Lib.hid hb; clear hb
  cases hc : chkV H with
  | some e =>
    rw [hc] at k
    rw [show chkN m H = some e from by unfold chkN; rw [hc]]
    have hne : (codeE (some e) == 0) = false := by
      unfold chkV at hc
      cases hk : chkL H with
      | none => rw [hk] at hc; cases hc
      | some x =>
        rw [hk] at hc
        obtain rfl := Option.some.inj hc
        have : x.1 ≠ 0 := by
          unfold chkL at hk
          obtain ⟨i, _, hi⟩ := List.exists_of_findSome?_eq_some hk
          split at hi
          · cases hi
          · rename_i hn
            obtain rfl := Option.some.inj hi
            exact hn
        simpa [codeE] using this
    have K := Lib.hid k; clear k hc
    generalize codeE (some e) = c at *
    generalize (atE (some e)).getD (-1) = a at *
    go_enter Tryd.func32, Tryd.ntmps32
    go_wp2_with fail
    refine K.out.mono ?_
    rintro e w1 ⟨rfl, h⟩
    have H1 := Lib.hid (below_call HB.out h); clear h
    go_wp2_with fail
    go_ret2
    exact ⟨rfl, H1.out⟩
  | none =>
    rw [hc] at k
    rw [show chkN m H = (beyond m H).map (fun i => (4, some (i : Int))) from by unfold chkN; rw [hc]]
    rw [show codeE none = 0 from rfl, show (atE none).getD (-1) = -1 from rfl] at k
    have K := Lib.hid k; clear k hc
    go_enter Tryd.func32, Tryd.ntmps32
    go_wp2_with fail
    refine K.out.mono ?_
    rintro e w1 ⟨rfl, h⟩
    have b0 := keep_cell (p := ⟨w.heap.size, 1, none⟩) (v := .int .u64 m) (by simp) h
    have b1 := keep_cell (p := ⟨w.heap.size, 2, none⟩) (v := .slice p H.length cap) (by simp) h
    have HL1 := Lib.hid (HL.out.call h)
    have H1 := Lib.hid (below_call HB.out h); clear h
    go_wp2_with fail
    go_loopw [6] (fun i wr => ∃ k : Nat, i = .int .i64 k ∧ k ≤ H.length ∧ (∀ j z, j < k → H[j]? = some z → z.2 ≤ m) ∧ Below w1.heap.size w1 wr) (fun i _ => H.length - (intOf i).toNat)
    case atStart => exact ⟨0, rfl, Nat.zero_le _, fun j z hj => absurd hj (Nat.not_lt_zero j), Below.refl _ _⟩
    case round =>
      obtain ⟨k, rfl, hk, hbef, hbr⟩ := hrel
      have HBF := Lib.hid hbef; clear hbef
      have d0 := keep_cell b0 hbr
      have d1 := keep_cell b1 hbr
      have HL2 := Lib.hid (HL1.out.call hbr)
      have H2 := Lib.hid (below_call H1.out hbr)
      have HBR := Lib.hid hbr; clear hbr b0 b1
      by_cases hlt : k < H.length
      · have hy : H[k]? = some H[k] := by simp [hlt]
        obtain ⟨b, o, cp, e, _, c1⟩ := HL2.out.elem hy
        cases e
        have HY := Lib.hid hy; clear hy
        generalize H[k] = y at *
        obtain ⟨y1, y2⟩ := y
        dsimp only at c1
        have i1 : (0 : Int) ≤ (k : Int) := by omega
        have i2 : (k : Int) < (H.length : Int) := by omega
        by_cases hgt : m < y2
        · have e1 : decide (m < y2) = true := by simpa using hgt
          have HZ := Lib.hid (beyond_some HY.out hgt HBF.out)
          clear hgt
          go_wp2_with fail
          go_quiet (fail)
          go_wp2_with fail
          go_ret2
          exact ⟨by rw [HZ.out]; rfl, H2.out.trans ⟨rfl, rfl, rfl, Nat.le_refl _, fun _ _ => rfl⟩⟩
        · have e1 : decide (m < y2) = false := by simpa using hgt
          have HG := Lib.hid hgt; clear hgt
          go_wp2_with fail
          go_quiet (fail)
          go_wp2_with fail
          go_roundw
          case rel => exact ⟨k + 1, by go_num, by omega, fun j z hj hz => by
            rcases Nat.lt_or_eq_of_le (Nat.le_of_lt_succ hj) with h | h
            · exact HBF.out j z h hz
            · subst h
              have := HY.out.symm.trans hz
              obtain rfl := Option.some.inj this
              have := HG.out
              dsimp only
              omega, HBR.out.trans ⟨rfl, rfl, rfl, Nat.le_refl _, fun _ _ => rfl⟩⟩
          case measure => simp [intOf]; omega
      · obtain rfl : k = H.length := by omega
        have HZ := Lib.hid (beyond_none fun i y hy => HBF.out i y (List.getElem?_eq_some_iff.1 hy).1 hy)
        go_wp2_with fail
        go_ret2
        exact ⟨by rw [HZ.out]; rfl, H2.out⟩
end Go.Proofs.YtgeggdaokjimjaaDoor
