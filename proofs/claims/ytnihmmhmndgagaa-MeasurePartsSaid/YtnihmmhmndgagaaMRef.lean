/- The reference's counts, ranks and parts. Conditions: the lists are correct. -/
import Derived.Test.YtnihmmhmndgagaaORef
import Derived.Test.YtnihmmhmndgagaaMMath
import Derived.Test.YtnihmmhmndgagaaMCount
namespace Go.Proofs.Ytnihmmhmndgagaa
open Go.RowKit
/-- A call that returns the two parts of a count. -/
def IsCP (n : Int) (w : World) (e : Ending) (w' : World) : Prop := e = .returned (.tuple #[.int .u64 (n / 18446744073709551616), .int .u64 (n % 18446744073709551616)]) ∧ Below w.heap.size w w'
theorem rank_drop {l : List Iv} {k : Nat} {y : Iv} (h : l[k]? = some y) (x : Int) : rankL (l.drop k) x = rankI y x + rankL (l.drop (k + 1)) x := by
  obtain ⟨h1, h2⟩ := List.getElem?_eq_some_iff.1 h
  rw [List.drop_eq_getElem_cons h1, h2]; rfl
theorem cnt_drop {l : List Iv} {k : Nat} {y : Iv} (h : l[k]? = some y) : cntL (l.drop k) = (y.2 - y.1 + 1) + cntL (l.drop (k + 1)) := by
  obtain ⟨h1, h2⟩ := List.getElem?_eq_some_iff.1 h
  rw [List.drop_eq_getElem_cons h1, h2]; rfl
theorem canon_drop : ∀ {l : List Iv} (k : Nat), canon l → canon (l.drop k)
  | _, 0, h => h
  | [], _ + 1, _ => trivial
  | _ :: _, k + 1, h => canon_drop k h.2.2
theorem rank_end {l : List Iv} (hc : canon l) {k : Nat} {y : Iv} (h : l[k]? = some y) {x : Int} (hx : x ≤ y.1) : rankL (l.drop k) x = 0 := by
  obtain ⟨h1, h2⟩ := List.getElem?_eq_some_iff.1 h
  have hd := canon_drop k hc
  rw [List.drop_eq_getElem_cons h1, h2] at hd ⊢
  refine rank_zero fun z hz => ?_
  rcases List.mem_cons.1 hz with rfl | hz
  · exact hx
  · have := canon_behind _ _ hd.2.2 hd.2.1 z hz; have := hd.1; omega
set_option maxRecDepth 100000 in
set_option maxHeartbeats 2000000 in
theorem refCnt_any (l : List Iv) (s : Value) (w : World) (ha : OpAt w s l) : Calls Try.prog 11 #[s, .int .u64 0, .bool true] w (IsCP (cntL l) w) := by
  obtain ⟨p, cap, rfl, hlen⟩ := ha.at'.shape
  have hmx := cnt_max ha.good
  have hnn : ∀ k, 0 ≤ cntL (l.drop k) := fun k => cnt_nn fun y hy => ha.good.ord6 y (List.mem_of_mem_drop hy)
  have HA := Lib.hid ha; clear ha
  have HM := Lib.hid hmx; clear hmx
  have HN := Lib.hid hnn; clear hnn
  have KW := Lib.hid w_refWidth_any
  have KP := Lib.hid w_refPlus_any
  go_enter Try.func11, Try.ntmps11
  go_wp2_with fail
  go_loopw [8, 9, 10] (fun h n i wr => ∃ (k : Nat) (t : Int), i = .int .i64 k ∧ h = .int .u64 (t / 18446744073709551616) ∧ n = .int .u64 (t % 18446744073709551616) ∧ k ≤ l.length ∧ t + cntL (l.drop k) = cntL l ∧ 0 ≤ t ∧ Below w.heap.size w wr) (fun _ _ i _ => l.length - (intOf i).toNat)
  case atStart => exact ⟨0, 0, rfl, rfl, rfl, Nat.zero_le _, by simp, Int.le_refl _, Below.refl _ _⟩
  case round =>
    obtain ⟨k, t, rfl, rfl, rfl, hk, hsum, ht0, hb⟩ := hrel
    have hUM : UM = 18446744073709551615 := rfl
    have htm : t ≤ 18446744073709551616 := by have := HN.out k; have := HM.out; omega
    obtain ⟨q, hq⟩ : ∃ q, t / 18446744073709551616 = q := ⟨_, rfl⟩
    obtain ⟨r, hr⟩ : ∃ r, t % 18446744073709551616 = r := ⟨_, rfl⟩
    rw [hq, hr]
    have HQ := Lib.hid (And.intro hq hr); clear hq hr
    have HB := Lib.hid hb; clear hb
    have HS := Lib.hid hsum; clear hsum
    have HT := Lib.hid (And.intro ht0 htm); clear ht0 htm hUM
    by_cases hlt : k < l.length
    · have hy : l[k]? = some l[k] := by simp [hlt]
      have h64 := HA.out.good.all.at hy
      have hord := HA.out.good.ord6 _ (List.mem_of_getElem? hy)
      have hcd := cnt_drop hy
      obtain ⟨b, o, cp, e, c0, c1⟩ := HA.out.at'.elem hy
      cases e
      generalize l[k] = y at *
      obtain ⟨y1, y2⟩ := y
      obtain ⟨⟨g0, g1⟩, g2, g3⟩ := h64
      dsimp only at c0 c1 g0 g1 g2 g3 hord hcd
      have d0 := keep_cell c0 HB.out
      have d1 := keep_cell c1 HB.out
      clear c0 c1 hy
      have i1 : (0 : Int) ≤ (k : Int) := by omega
      have i2 : (k : Int) < (l.length : Int) := by omega
      have HCD := Lib.hid hcd; clear hcd
      obtain ⟨lw, hlw⟩ : ∃ lw, (y2 - y1 + 1) % 18446744073709551616 = lw := ⟨_, rfl⟩
      obtain ⟨kw, hkw⟩ : ∃ kw, (y2 - y1 + 1) / 18446744073709551616 = kw := ⟨_, rfl⟩
      have KW1 := Lib.hid (fun W => KW.out y1 y2 kw lw W g0 g3 g2 g1 (by rw [if_neg (by omega)]; exact hlw) (by rw [if_neg (by omega)]; exact hkw))
      have KP1 := Lib.hid (fun W => KP.out q r kw lw ((r + lw) % 18446744073709551616) (q + kw + (r + lw) / 18446744073709551616) W (by have := HQ.out; have := HT.out; omega) (by have := HQ.out; have := HT.out; omega) (by have := HQ.out; have := HT.out; omega) (by have := HQ.out; have := HT.out; omega) (by omega) (by omega) (by omega) (by omega) rfl rfl)
      obtain ⟨t', ht'⟩ : ∃ t', t + (y2 - y1 + 1) = t' := ⟨_, rfl⟩
      have e1 : (r + lw) % 18446744073709551616 = t' % 18446744073709551616 := by have := HQ.out; omega
      have e2 : q + kw + (r + lw) / 18446744073709551616 = t' / 18446744073709551616 := by have := HQ.out; have := HT.out; omega
      rw [e1, e2] at KP1
      have HE := Lib.hid (And.intro (And.intro hlw hkw) ht'); clear e1 e2 hlw hkw ht'
      clear KW KP
      go_wp2_with fail
      refine (KW1.out _).mono ?_
      rintro e w' ⟨rfl, hw⟩
      obtain rfl := hw
      go_wp2_with fail
      refine (KP1.out _).mono ?_
      rintro e w' ⟨rfl, hw⟩
      obtain rfl := hw
      go_wp2_with fail
      go_roundw
      case rel => exact ⟨k + 1, t', by go_num, rfl, rfl, by omega, by have := HS.out; have := HCD.out; have := HE.out; omega, by have := HT.out; have := HE.out; omega, w_below_alloc HB.out _⟩
      case measure => simp [intOf]; omega
    · obtain rfl : k = l.length := by omega
      have HZ : Hid (t = cntL l) := Lib.hid (by have := HS.out; simpa [cntL] using this)
      go_wp2_with fail
      go_ret2
      exact ⟨by rw [← HZ.out, HQ.out.1, HQ.out.2]; rfl, HB.out⟩
set_option maxRecDepth 100000 in
set_option maxHeartbeats 2000000 in
theorem refRank_any (l : List Iv) (s : Value) (x : Int) (w : World) (ha : OpAt w s l) (hx0 : 0 ≤ x) (hx1 : x ≤ 18446744073709551615) : Calls Try.prog 11 #[s, .int .u64 x, .bool false] w (IsCP (rankL l x) w) := by
  obtain ⟨p, cap, rfl, hlen⟩ := ha.at'.shape
  have hmx := rank_max ha.good x
  have hnn : ∀ k, 0 ≤ rankL (l.drop k) x := fun k => rank_nn fun y hy => ha.good.ord6 y (List.mem_of_mem_drop hy)
  have HA := Lib.hid ha; clear ha
  have HM := Lib.hid hmx; clear hmx
  have HN := Lib.hid hnn; clear hnn
  have KW := Lib.hid w_refWidth_any
  have KP := Lib.hid w_refPlus_any
  go_enter Try.func11, Try.ntmps11
  go_wp2_with fail
  go_loopw [8, 9, 10] (fun h n i wr => ∃ (k : Nat) (t : Int), i = .int .i64 k ∧ h = .int .u64 (t / 18446744073709551616) ∧ n = .int .u64 (t % 18446744073709551616) ∧ k ≤ l.length ∧ t + rankL (l.drop k) x = rankL l x ∧ 0 ≤ t ∧ Below w.heap.size w wr) (fun _ _ i _ => l.length - (intOf i).toNat)
  case atStart => exact ⟨0, 0, rfl, rfl, rfl, Nat.zero_le _, by simp, Int.le_refl _, Below.refl _ _⟩
  case round =>
    obtain ⟨k, t, rfl, rfl, rfl, hk, hsum, ht0, hb⟩ := hrel
    have hUM : UM = 18446744073709551615 := rfl
    have htm : t ≤ 18446744073709551616 := by have := HN.out k; have := HM.out; omega
    obtain ⟨q, hq⟩ : ∃ q, t / 18446744073709551616 = q := ⟨_, rfl⟩
    obtain ⟨r, hr⟩ : ∃ r, t % 18446744073709551616 = r := ⟨_, rfl⟩
    rw [hq, hr]
    have HQ := Lib.hid (And.intro hq hr); clear hq hr
    have HB := Lib.hid hb; clear hb
    have HS := Lib.hid hsum; clear hsum
    have HT := Lib.hid (And.intro ht0 htm); clear ht0 htm hUM
    by_cases hlt : k < l.length
    · have hy : l[k]? = some l[k] := by simp [hlt]
      have h64 := HA.out.good.all.at hy
      have hord := HA.out.good.ord6 _ (List.mem_of_getElem? hy)
      have hcd := rank_drop hy x
      have hcz := fun h => rank_end HA.out.good.can hy (x := x) h
      obtain ⟨b, o, cp, e, c0, c1⟩ := HA.out.at'.elem hy
      cases e
      generalize l[k] = y at *
      obtain ⟨y1, y2⟩ := y
      obtain ⟨⟨g0, g1⟩, g2, g3⟩ := h64
      dsimp only at c0 c1 g0 g1 g2 g3 hord hcd hcz
      have d0 := keep_cell c0 HB.out
      have d1 := keep_cell c1 HB.out
      clear c0 c1 hy
      have i1 : (0 : Int) ≤ (k : Int) := by omega
      have i2 : (k : Int) < (l.length : Int) := by omega
      have HCD := Lib.hid hcd; clear hcd
      by_cases hstop : x ≤ y1
      · have hge : decide (x ≤ y1) = true := by simpa using hstop
        have HZ : Hid (t = rankL l x) := Lib.hid (by have := HS.out; have := hcz hstop; omega)
        clear hcz hstop
        go_wp2_with fail
        go_ret2
        exact ⟨by rw [← HZ.out, HQ.out.1, HQ.out.2]; rfl, w_below_alloc HB.out _⟩
      · have hge : decide (x ≤ y1) = false := by simpa using hstop
        have hlt1 : y1 < x := by omega
        clear hcz hstop
        by_cases hin : y2 < x
        · have hge2 : decide (x ≤ y2) = false := by simpa using hin
          have hri : rankI (y1, y2) x = y2 - y1 + 1 := by unfold rankI; rw [if_pos hlt1, if_pos hin]
          have HRI := Lib.hid hri; clear hri hin
          obtain ⟨lw, hlw⟩ : ∃ lw, (y2 - y1 + 1) % 18446744073709551616 = lw := ⟨_, rfl⟩
          obtain ⟨kw, hkw⟩ : ∃ kw, (y2 - y1 + 1) / 18446744073709551616 = kw := ⟨_, rfl⟩
          have KW1 := Lib.hid (fun W => KW.out y1 y2 kw lw W g0 (by omega) (by omega) g1 (by rw [if_neg (by omega)]; exact hlw) (by rw [if_neg (by omega)]; exact hkw))
          have KP1 := Lib.hid (fun W => KP.out q r kw lw ((r + lw) % 18446744073709551616) (q + kw + (r + lw) / 18446744073709551616) W (by have := HQ.out; have := HT.out; omega) (by have := HQ.out; have := HT.out; omega) (by have := HQ.out; have := HT.out; omega) (by have := HQ.out; have := HT.out; omega) (by omega) (by omega) (by omega) (by omega) rfl rfl)
          obtain ⟨t', ht'⟩ : ∃ t', t + (y2 - y1 + 1) = t' := ⟨_, rfl⟩
          have e1 : (r + lw) % 18446744073709551616 = t' % 18446744073709551616 := by have := HQ.out; omega
          have e2 : q + kw + (r + lw) / 18446744073709551616 = t' / 18446744073709551616 := by have := HQ.out; have := HT.out; omega
          rw [e1, e2] at KP1
          have HE := Lib.hid (And.intro (And.intro hlw hkw) ht'); clear e1 e2 hlw hkw ht'
          clear KW KP
          go_wp2_with fail
          refine (KW1.out _).mono ?_
          rintro e w' ⟨rfl, hw⟩
          obtain rfl := hw
          go_wp2_with fail
          refine (KP1.out _).mono ?_
          rintro e w' ⟨rfl, hw⟩
          obtain rfl := hw
          go_wp2_with fail
          go_roundw
          case rel => exact ⟨k + 1, t', by go_num, rfl, rfl, by omega, by have := HS.out; have := HCD.out; have := HE.out; have := HRI.out; omega, by have := HT.out; have := HE.out; omega, w_below_alloc HB.out _⟩
          case measure => simp [intOf]; omega
        · have hge2 : decide (x ≤ y2) = true := by simp; omega
          have hri : rankI (y1, y2) x = x - y1 := by unfold rankI; rw [if_pos hlt1, if_neg hin]
          have hxin : x ≤ y2 := by omega
          have hx2 : 1 ≤ x := by omega
          have HRI := Lib.hid hri; clear hri hin
          obtain ⟨lw, hlw⟩ : ∃ lw, (x - 1 - y1 + 1) % 18446744073709551616 = lw := ⟨_, rfl⟩
          obtain ⟨kw, hkw⟩ : ∃ kw, (x - 1 - y1 + 1) / 18446744073709551616 = kw := ⟨_, rfl⟩
          have KW1 := Lib.hid (fun W => KW.out y1 (x - 1) kw lw W g0 (by omega) (by omega) g1 (by rw [if_neg (by omega)]; exact hlw) (by rw [if_neg (by omega)]; exact hkw))
          have KP1 := Lib.hid (fun W => KP.out q r kw lw ((r + lw) % 18446744073709551616) (q + kw + (r + lw) / 18446744073709551616) W (by have := HQ.out; have := HT.out; omega) (by have := HQ.out; have := HT.out; omega) (by have := HQ.out; have := HT.out; omega) (by have := HQ.out; have := HT.out; omega) (by omega) (by omega) (by omega) (by omega) rfl rfl)
          obtain ⟨t', ht'⟩ : ∃ t', t + (x - 1 - y1 + 1) = t' := ⟨_, rfl⟩
          have e1 : (r + lw) % 18446744073709551616 = t' % 18446744073709551616 := by have := HQ.out; omega
          have e2 : q + kw + (r + lw) / 18446744073709551616 = t' / 18446744073709551616 := by have := HQ.out; have := HT.out; omega
          rw [e1, e2] at KP1
          have HE := Lib.hid (And.intro (And.intro hlw hkw) ht'); clear e1 e2 hlw hkw ht'
          clear KW KP
          go_wp2_with fail
          refine (KW1.out _).mono ?_
          rintro e w' ⟨rfl, hw⟩
          obtain rfl := hw
          go_wp2_with fail
          refine (KP1.out _).mono ?_
          rintro e w' ⟨rfl, hw⟩
          obtain rfl := hw
          go_wp2_with fail
          go_roundw
          case rel => exact ⟨k + 1, t', by go_num, rfl, rfl, by omega, by have := HS.out; have := HCD.out; have := HE.out; have := HRI.out; omega, by have := HT.out; have := HE.out; omega, w_below_alloc HB.out _⟩
          case measure => simp [intOf]; omega
    · obtain rfl : k = l.length := by omega
      have HZ : Hid (t = rankL l x) := Lib.hid (by have := HS.out; simpa [rankL] using this)
      go_wp2_with fail
      go_ret2
      exact ⟨by rw [← HZ.out, HQ.out.1, HQ.out.2]; rfl, HB.out⟩
/-- A call that returns the number with a rank, if there is one. -/
def nthV (l : List Iv) (n : Int) : Int := (nthL l n).getD 0
def nthB (l : List Iv) (n : Int) : Bool := (nthL l n).isSome
def IsNB6 (a : Int) (b : Bool) (w : World) (e : Ending) (w' : World) : Prop := e = .returned (.tuple #[.int .u64 a, .bool b]) ∧ Below w.heap.size w w'
theorem nth_drop {l : List Iv} {k : Nat} {y : Iv} (h : l[k]? = some y) (m : Int) : nthL (l.drop k) m = if m ≤ y.2 - y.1 then some (y.1 + m) else nthL (l.drop (k + 1)) (m - (y.2 - y.1) - 1) := by
  obtain ⟨h1, h2⟩ := List.getElem?_eq_some_iff.1 h
  rw [List.drop_eq_getElem_cons h1, h2]; rfl
set_option maxRecDepth 100000 in
set_option maxHeartbeats 2000000 in
theorem refNth_any (l : List Iv) (s : Value) (n : Int) (w : World) (ha : OpAt w s l) (hn0 : 0 ≤ n) (hn1 : n ≤ 18446744073709551615) : Calls Try.prog 18 #[s, .int .u64 n] w (IsNB6 (nthV l n) (nthB l n) w) := by
  obtain ⟨p, cap, rfl, hlen⟩ := ha.at'.shape
  have HA := Lib.hid ha; clear ha
  go_enter Try.func18, Try.ntmps18
  go_wp2_with fail
  go_loopw [1, 6] (fun v i wr => ∃ (k : Nat) (m : Int), i = .int .i64 k ∧ v = .int .u64 m ∧ k ≤ l.length ∧ nthL (l.drop k) m = nthL l n ∧ 0 ≤ m ∧ m ≤ 18446744073709551615 ∧ Below w.heap.size w wr) (fun _ i _ => l.length - (intOf i).toNat)
  case atStart => exact ⟨0, n, rfl, rfl, Nat.zero_le _, rfl, hn0, hn1, Below.refl _ _⟩
  case round =>
    clear hn0 hn1
    obtain ⟨k, m, rfl, rfl, hk, hnth, hm0, hm1, hb⟩ := hrel
    have HB := Lib.hid hb; clear hb
    by_cases hlt : k < l.length
    · have hy : l[k]? = some l[k] := by simp [hlt]
      have h64 := HA.out.good.all.at hy
      have hord := HA.out.good.ord6 _ (List.mem_of_getElem? hy)
      rw [nth_drop hy m] at hnth
      obtain ⟨b, o, cp, e, c0, c1⟩ := HA.out.at'.elem hy
      cases e
      generalize l[k] = y at *
      obtain ⟨y1, y2⟩ := y
      obtain ⟨⟨g0, g1⟩, g2, g3⟩ := h64
      dsimp only at c0 c1 g0 g1 g2 g3 hord hnth
      have d0 := keep_cell c0 HB.out
      have d1 := keep_cell c1 HB.out
      clear c0 c1 hy
      have i1 : (0 : Int) ≤ (k : Int) := by omega
      have i2 : (k : Int) < (l.length : Int) := by omega
      by_cases hin : m ≤ y2 - y1
      · rw [if_pos hin] at hnth
        have hle : decide (m ≤ y2 - y1) = true := by simpa using hin
        have HV := Lib.hid hnth; clear hnth
        have hs : y1 + m ≤ 18446744073709551615 := by omega
        go_wp2_with fail
        go_quiet (fail)
        go_wp2_with fail
        go_ret2
        exact ⟨by unfold nthV nthB; rw [← HV.out]; rfl, below_drewN HB.out _⟩
      · rw [if_neg hin] at hnth
        have hle : decide (m ≤ y2 - y1) = false := by simpa using hin
        have HV := Lib.hid hnth; clear hnth
        have hgt : y2 - y1 + 1 ≤ m := by omega
        clear hin
        go_wp2_with fail
        go_quiet (fail)
        go_wp2_with fail
        go_quiet (fail)
        go_wp2_with fail
        go_roundw
        case rel => exact ⟨k + 1, m - (y2 - y1) - 1, by go_num, rfl, by omega, HV.out, by omega, by omega, below_drewN HB.out _⟩
        case measure => simp [intOf]; omega
    · obtain rfl : k = l.length := by omega
      have HZ : Hid (none = nthL l n) := Lib.hid (by simpa [nthL] using hnth)
      clear hnth
      go_wp2_with fail
      go_ret2
      exact ⟨by unfold nthV nthB; rw [← HZ.out]; rfl, HB.out⟩
end Go.Proofs.Ytnihmmhmndgagaa
