/- The reference's counts, ranks and parts. Conditions: the lists are correct. -/
import Derived.Test.YtefiobfljhmkkaaRStarts
import Derived.Test.YtefiobfljhmkkaaOAlg
import Derived.Test.YtefiobfljhmkkaaMCount
namespace Go.Proofs.Ytefiobfljhmkkaa
open Go.RowKit
/-- A call that returns the two parts of a count. -/
def IsCP (n : Int) (w : World) (e : Ending) (w' : World) : Prop := e = .returned (.tuple #[.int .u64 (n / 18446744073709551616), .int .u64 (n % 18446744073709551616)]) ∧ Below w.heap.size w w'
theorem cnt_drop {l : List Iv} {k : Nat} {y : Iv} (h : l[k]? = some y) : cntL (l.drop k) = (y.2 - y.1 + 1) + cntL (l.drop (k + 1)) := by
  obtain ⟨h1, h2⟩ := List.getElem?_eq_some_iff.1 h
  rw [List.drop_eq_getElem_cons h1, h2]; rfl
set_option maxRecDepth 100000 in
set_option maxHeartbeats 2000000 in
theorem refCnt_any (l : List Iv) (s : Value) (w : World) (ha : OpAt w s l) : Calls Try.prog 34 #[s, .int .u64 0, .bool true] w (IsCP (cntL l) w) := by
  obtain ⟨p, cap, rfl, hlen⟩ := ha.at'.shape
  have hmx := cnt_max ha.good
  have hnn : ∀ k, 0 ≤ cntL (l.drop k) := fun k => cnt_nn fun y hy => ha.good.ord6 y (List.mem_of_mem_drop hy)
  have HA := Lib.hid ha; clear ha
  have HM := Lib.hid hmx; clear hmx
  have HN := Lib.hid hnn; clear hnn
  have KW := Lib.hid w_refWidth_any
  have KP := Lib.hid w_refPlus_any
  go_enter Try.func34, Try.ntmps34
  go_wp2_with fail
  go_loopw [8, 9, 10] (fun h n i wr => ∃ (k : Nat) (t : Int), i = .int .i64 k ∧ h = .int .u64 (t / 18446744073709551616) ∧ n = .int .u64 (t % 18446744073709551616) ∧ k ≤ l.length ∧ t + cntL (l.drop k) = cntL l ∧ 0 ≤ t ∧ Below w.heap.size w wr) (fun _ _ i _ => l.length - (intOf i).toNat)
  case atStart => exact ⟨0, 0, rfl, rfl, rfl, Nat.zero_le _, by simp, Int.le_refl _, Below.refl _ _⟩
  case round =>
    obtain ⟨k, t, rfl, rfl, rfl, hk, hsum, ht0, hb⟩ := hrel
    have hUM : UM = 18446744073709551615 := rfl
    have htm : t ≤ 18446744073709551616 := by have := HN.out k; have := HM.out; omega
    obtain ⟨q, hq⟩ : ∃ q, t / 18446744073709551616 = q := ⟨_, rfl⟩
    obtain ⟨r, hr⟩ : ∃ r, t % 18446744073709551616 = r := ⟨_, rfl⟩
    rw [hq, hr]
    have HQ := Lib.hid (And.intro hq hr); clear hq hr
    have HB := Lib.hid hb; clear hb
    have HS := Lib.hid hsum; clear hsum
    have HT := Lib.hid (And.intro ht0 htm); clear ht0 htm hUM
    by_cases hlt : k < l.length
    · have hy : l[k]? = some l[k] := by simp [hlt]
      have h64 := HA.out.good.all.at hy
      have hord := HA.out.good.ord6 _ (List.mem_of_getElem? hy)
      have hcd := cnt_drop hy
      obtain ⟨b, o, cp, e, c0, c1⟩ := HA.out.at'.elem hy
      cases e
      generalize l[k] = y at *
      obtain ⟨y1, y2⟩ := y
      obtain ⟨⟨g0, g1⟩, g2, g3⟩ := h64
      dsimp only at c0 c1 g0 g1 g2 g3 hord hcd
      have d0 := keep_cell c0 HB.out
      have d1 := keep_cell c1 HB.out
      clear c0 c1 hy
      have i1 : (0 : Int) ≤ (k : Int) := by omega
      have i2 : (k : Int) < (l.length : Int) := by omega
      have HCD := Lib.hid hcd; clear hcd
      obtain ⟨lw, hlw⟩ : ∃ lw, (y2 - y1 + 1) % 18446744073709551616 = lw := ⟨_, rfl⟩
      obtain ⟨kw, hkw⟩ : ∃ kw, (y2 - y1 + 1) / 18446744073709551616 = kw := ⟨_, rfl⟩
      have KW1 := Lib.hid (fun W => KW.out y1 y2 kw lw W g0 g3 g2 g1 (by rw [if_neg (by omega)]; exact hlw) (by rw [if_neg (by omega)]; exact hkw))
      have KP1 := Lib.hid (fun W => KP.out q r kw lw ((r + lw) % 18446744073709551616) (q + kw + (r + lw) / 18446744073709551616) W (by have := HQ.out; have := HT.out; omega) (by have := HQ.out; have := HT.out; omega) (by have := HQ.out; have := HT.out; omega) (by have := HQ.out; have := HT.out; omega) (by omega) (by omega) (by omega) (by omega) rfl rfl)
      obtain ⟨t', ht'⟩ : ∃ t', t + (y2 - y1 + 1) = t' := ⟨_, rfl⟩
      have e1 : (r + lw) % 18446744073709551616 = t' % 18446744073709551616 := by have := HQ.out; omega
      have e2 : q + kw + (r + lw) / 18446744073709551616 = t' / 18446744073709551616 := by have := HQ.out; have := HT.out; omega
      rw [e1, e2] at KP1
      have HE := Lib.hid (And.intro (And.intro hlw hkw) ht'); clear e1 e2 hlw hkw ht'
      clear KW KP
      go_wp2_with fail
      refine (KW1.out _).mono ?_
      rintro e w' ⟨rfl, hw⟩
      obtain rfl := hw
      go_wp2_with fail
      refine (KP1.out _).mono ?_
      rintro e w' ⟨rfl, hw⟩
      obtain rfl := hw
      go_wp2_with fail
      go_roundw
      case rel => exact ⟨k + 1, t', by go_num, rfl, rfl, by omega, by have := HS.out; have := HCD.out; have := HE.out; omega, by have := HT.out; have := HE.out; omega, w_below_alloc HB.out _⟩
      case measure => simp [intOf]; omega
    · obtain rfl : k = l.length := by omega
      have HZ : Hid (t = cntL l) := Lib.hid (by have := HS.out; simpa [cntL] using this)
      go_wp2_with fail
      go_ret2
      exact ⟨by rw [← HZ.out, HQ.out.1, HQ.out.2]; rfl, HB.out⟩
end Go.Proofs.Ytefiobfljhmkkaa
