/- The laws MeasureCounts, MeasureNth, MeasureEnds and MeasureRises in every state, out of what package measure says. Conditions: the contracts of package measure. -/
import Derived.Test.YtnihmmhmndgagaaMSet
import Derived.Test.YtnihmmhmndgagaaRIv
import Derived.Deep.RegionHeld3
namespace Go.Proofs.Ytnihmmhmndgagaa
open Go.RowKit
theorem call_back {w w1 w2 : World} (h : Below w.heap.size w w1) (k : Below w1.heap.size w1 w2) : Below w.heap.size w w2 := below_call h k
set_option maxRecDepth 100000 in
set_option maxHeartbeats 4000000 in
theorem lawCounts6_any (C : MeasC) (s : Value) (x : Int) (hx0 : 0 ≤ x) (hx1 : x ≤ 18446744073709551615) (w : World) (ha : okArg w s ∨ badArg w s) : Calls Try.prog 3 #[s, .int .u64 x] w (IsEnd true w) := by
  rcases ha with ha | ha
  · obtain ⟨l, ho, hl⟩ := ha.op
    clear ha
    obtain ⟨p, cap, rfl, _⟩ := ho.at'.shape
    have HO := Lib.hid ho; clear ho
    have HB : Hid (Below w.heap.size w w) := Lib.hid (Below.refl _ _)
    have KR := Lib.hid right6_ok
    have KA := Lib.hid (fun W => alive6_any C W)
    have HC := Lib.hid C; clear C
    obtain ⟨q1, hq1⟩ : ∃ q1, cntL l / 18446744073709551616 = q1 := ⟨_, rfl⟩
    obtain ⟨r1, hr1⟩ : ∃ r1, cntL l % 18446744073709551616 = r1 := ⟨_, rfl⟩
    obtain ⟨q2, hq2⟩ : ∃ q2, rankL l x / 18446744073709551616 = q2 := ⟨_, rfl⟩
    obtain ⟨r2, hr2⟩ : ∃ r2, rankL l x % 18446744073709551616 = r2 := ⟨_, rfl⟩
    have K1 : Hid (∀ s W, OpAt W s l → Calls Try.prog 11 #[s, .int .u64 0, .bool true] W (fun e w' => e = .returned (.tuple #[.int .u64 q1, .int .u64 r1]) ∧ Below W.heap.size W w')) := Lib.hid fun s W h => by
      have k := refCnt_any l s W h
      unfold IsCP at k
      rwa [hq1, hr1] at k
    have K2 : Hid (∀ s W, OpAt W s l → Calls Try.prog 11 #[s, .int .u64 x, .bool false] W (fun e w' => e = .returned (.tuple #[.int .u64 q2, .int .u64 r2]) ∧ Below W.heap.size W w')) := Lib.hid fun s W h => by
      have k := refRank_any l s x W h hx0 hx1
      unfold IsCP at k
      rwa [hq2, hr2] at k
    have K3 : Hid (∀ s W, OpAt W s l → Calls Try.prog 12 #[s] W (fun e w' => e = .returned (.agg #[.int .u64 q1, .int .u64 r1]) ∧ Below W.heap.size W w')) := Lib.hid fun s W h => by
      have k := HC.out.count l s W h
      unfold IsC at k
      rwa [hq1, hr1] at k
    have K4 : Hid (∀ s W, OpAt W s l → Calls Try.prog 13 #[s, .int .u64 x] W (fun e w' => e = .returned (.agg #[.int .u64 q2, .int .u64 r2]) ∧ Below W.heap.size W w')) := Lib.hid fun s W h => by
      have k := HC.out.rank l s x W h hx0 hx1
      unfold IsC at k
      rwa [hq2, hr2] at k
    clear hq1 hr1 hq2 hr2
    go_enter Try.func3, Try.ntmps3
    go_wp2_with fail
    refine (KR.out _ _ _ HO.out hl).mono ?_
    rintro e w1 ⟨rfl, h⟩
    have HO1 := Lib.hid (HO.out.call h); have HB1 := Lib.hid (below_call HB.out h)
    clear h
    go_wp2_with fail
    refine (K1.out _ _ HO1.out).mono ?_
    rintro e w2 ⟨rfl, h⟩
    have HO2 := Lib.hid (HO1.out.call h); have HB2 := Lib.hid (below_call HB1.out h)
    clear h
    go_wp2_with fail
    refine (K2.out _ _ HO2.out).mono ?_
    rintro e w3 ⟨rfl, h⟩
    have HO3 := Lib.hid (HO2.out.call h); have HB3 := Lib.hid (below_call HB2.out h)
    clear h
    go_wp2_with fail
    refine (KA.out _).mono ?_
    rintro e w4 ⟨rfl, h⟩
    have HO4 := Lib.hid (HO3.out.call h); have HB4 := Lib.hid (below_call HB3.out h)
    clear h
    go_wp2_with fail
    refine (K3.out _ _ HO4.out).mono ?_
    rintro e w5 ⟨rfl, h⟩
    have HO5 := Lib.hid (HO4.out.call h); have HB5 := Lib.hid (below_call HB4.out h)
    clear h
    go_wp2_with fail
    refine (K4.out _ _ HO5.out).mono ?_
    rintro e w6 ⟨rfl, h⟩
    have HO6 := Lib.hid (HO5.out.call h); have HB6 := Lib.hid (below_call HB5.out h)
    clear h
    go_wp2_with fail
    go_ret
    exact ⟨rfl, HB6.out⟩
  · obtain ⟨p, n0, cap, rfl⟩ := arg_shape (.inr ha)
    have KR := Lib.hid (right6_bad _ w ha)
    have KA := Lib.hid (fun W => alive6_any C W)
    clear ha C
    go_enter Try.func3, Try.ntmps3
    go_wp2_with fail
    refine KR.out.mono ?_
    rintro e w1 ⟨rfl, h⟩
    have H1 := Lib.hid h; clear h
    go_wp2_with fail
    refine (KA.out _).mono ?_
    rintro e w2 ⟨rfl, h⟩
    have H2 := Lib.hid (below_call H1.out h); clear h
    go_wp2_with fail
    go_ret
    exact ⟨rfl, H2.out⟩
set_option maxRecDepth 100000 in
set_option maxHeartbeats 4000000 in
theorem lawNth6_any (C : MeasC) (s : Value) (x : Int) (hx0 : 0 ≤ x) (hx1 : x ≤ 18446744073709551615) (w : World) (ha : okArg w s ∨ badArg w s) : Calls Try.prog 5 #[s, .int .u64 x] w (IsEnd true w) := by
  rcases ha with ha | ha
  · obtain ⟨l, ho, hl⟩ := ha.op
    clear ha
    obtain ⟨p, cap, rfl, _⟩ := ho.at'.shape
    have HO := Lib.hid ho; clear ho
    have HB : Hid (Below w.heap.size w w) := Lib.hid (Below.refl _ _)
    have KR := Lib.hid right6_ok
    have KA := Lib.hid (fun W => alive6_any C W)
    have HC := Lib.hid C; clear C
    cases hn : nthL l x with
    | none =>
      have K1 : Hid (∀ s W, OpAt W s l → Calls Try.prog 17 #[s, .int .u64 x] W (IsNB6 0 false W)) := Lib.hid fun s W h => by
        have k := HC.out.nth l s x W h hx0 hx1
        rwa [show nthV l x = 0 from by unfold nthV; rw [hn]; rfl, show nthB l x = false from by unfold nthB; rw [hn]; rfl] at k
      have K2 : Hid (∀ s W, OpAt W s l → Calls Try.prog 18 #[s, .int .u64 x] W (IsNB6 0 false W)) := Lib.hid fun s W h => by
        have k := refNth_any l s x W h hx0 hx1
        rwa [show nthV l x = 0 from by unfold nthV; rw [hn]; rfl, show nthB l x = false from by unfold nthB; rw [hn]; rfl] at k
      clear hn
      go_enter Try.func5, Try.ntmps5
      go_wp2_with fail
      refine (KR.out _ _ _ HO.out hl).mono ?_
      rintro e w1 ⟨rfl, h⟩
      have HO1 := Lib.hid (HO.out.call h); have HB1 := Lib.hid (below_call HB.out h)
      clear h
      go_wp2_with fail
      refine (K1.out _ _ HO1.out).mono ?_
      rintro e w2 ⟨rfl, h⟩
      have HO2 := Lib.hid (HO1.out.call h); have HB2 := Lib.hid (below_call HB1.out h)
      clear h
      go_wp2_with fail
      refine (K2.out _ _ HO2.out).mono ?_
      rintro e w3 ⟨rfl, h⟩
      have HO3 := Lib.hid (HO2.out.call h); have HB3 := Lib.hid (below_call HB2.out h)
      clear h
      go_wp2_with fail
      refine (KA.out _).mono ?_
      rintro e w4 ⟨rfl, h⟩
      have HO4 := Lib.hid (HO3.out.call h); have HB4 := Lib.hid (below_call HB3.out h)
      clear h
      go_wp2_with fail
      go_ret
      exact ⟨rfl, HB4.out⟩
    | some v =>
      have K1 : Hid (∀ s W, OpAt W s l → Calls Try.prog 17 #[s, .int .u64 x] W (IsNB6 v true W)) := Lib.hid fun s W h => by
        have k := HC.out.nth l s x W h hx0 hx1
        rwa [show nthV l x = v from by unfold nthV; rw [hn]; rfl, show nthB l x = true from by unfold nthB; rw [hn]; rfl] at k
      have K2 : Hid (∀ s W, OpAt W s l → Calls Try.prog 18 #[s, .int .u64 x] W (IsNB6 v true W)) := Lib.hid fun s W h => by
        have k := refNth_any l s x W h hx0 hx1
        rwa [show nthV l x = v from by unfold nthV; rw [hn]; rfl, show nthB l x = true from by unfold nthB; rw [hn]; rfl] at k
      obtain ⟨hhas, hrank, hpos⟩ := nth_spec HO.out.good.can hx0 hn
      obtain ⟨y, hy, hy1, hy2⟩ := (hasL_iff _ _).1 hhas
      have hv0 : 0 ≤ v := by have := HO.out.good.ok y hy; omega
      have hv1 : v ≤ 18446744073709551615 := by have := (HO.out.good.all y hy).2; omega
      have K3 : Hid (∀ s W, OpAt W s l → Calls Try.prog 19 #[s, .int .u64 v] W (IsEnd true W)) := Lib.hid fun s W h => by
        have k := refHasL_any l s v W h.at'
        rwa [hhas] at k
      have K4 : Hid (∀ s W, OpAt W s l → Calls Try.prog 13 #[s, .int .u64 v] W (fun e w' => e = .returned (.agg #[.int .u64 0, .int .u64 x]) ∧ Below W.heap.size W w')) := Lib.hid fun s W h => by
        have k := HC.out.rank l s v W h hv0 hv1
        unfold IsC at k
        rwa [hrank, show x / 18446744073709551616 = 0 by omega, show x % 18446744073709551616 = x by omega] at k
      clear hn hhas hrank hpos hy hy1 hy2
      go_enter Try.func5, Try.ntmps5
      go_wp2_with fail
      refine (KR.out _ _ _ HO.out hl).mono ?_
      rintro e w1 ⟨rfl, h⟩
      have HO1 := Lib.hid (HO.out.call h); have HB1 := Lib.hid (below_call HB.out h)
      clear h
      go_wp2_with fail
      refine (K1.out _ _ HO1.out).mono ?_
      rintro e w2 ⟨rfl, h⟩
      have HO2 := Lib.hid (HO1.out.call h); have HB2 := Lib.hid (below_call HB1.out h)
      clear h
      go_wp2_with fail
      refine (K2.out _ _ HO2.out).mono ?_
      rintro e w3 ⟨rfl, h⟩
      have HO3 := Lib.hid (HO2.out.call h); have HB3 := Lib.hid (below_call HB2.out h)
      clear h
      go_wp2_with fail
      refine (KA.out _).mono ?_
      rintro e w4 ⟨rfl, h⟩
      have HO4 := Lib.hid (HO3.out.call h); have HB4 := Lib.hid (below_call HB3.out h)
      clear h
      go_wp2_with fail
      refine (K3.out _ _ HO4.out).mono ?_
      rintro e w5 ⟨rfl, h⟩
      have HO5 := Lib.hid (HO4.out.call h); have HB5 := Lib.hid (below_call HB4.out h)
      clear h
      go_wp2_with fail
      refine (K4.out _ _ HO5.out).mono ?_
      rintro e w6 ⟨rfl, h⟩
      have HO6 := Lib.hid (HO5.out.call h); have HB6 := Lib.hid (below_call HB5.out h)
      clear h
      go_wp2_with fail
      go_ret
      exact ⟨rfl, HB6.out⟩
  · obtain ⟨p, n0, cap, rfl⟩ := arg_shape (.inr ha)
    have KR := Lib.hid (right6_bad _ w ha)
    have KA := Lib.hid (fun W => alive6_any C W)
    clear ha C
    go_enter Try.func5, Try.ntmps5
    go_wp2_with fail
    refine KR.out.mono ?_
    rintro e w1 ⟨rfl, h⟩
    have H1 := Lib.hid h; clear h
    go_wp2_with fail
    refine (KA.out _).mono ?_
    rintro e w2 ⟨rfl, h⟩
    have H2 := Lib.hid (below_call H1.out h); clear h
    go_wp2_with fail
    go_ret
    exact ⟨rfl, H2.out⟩
set_option maxRecDepth 100000 in
set_option maxHeartbeats 4000000 in
theorem lawEnds6_any (C : MeasC) (s : Value) (w : World) (ha : okArg w s ∨ badArg w s) : Calls Try.prog 4 #[s] w (IsEnd true w) := by
  rcases ha with ha | ha
  · obtain ⟨l, ho, hl⟩ := ha.op
    clear ha
    obtain ⟨p, cap, rfl, _⟩ := ho.at'.shape
    have HO := Lib.hid ho; clear ho
    have HB : Hid (Below w.heap.size w w) := Lib.hid (Below.refl _ _)
    have KR := Lib.hid right6_ok
    have KA := Lib.hid (fun W => alive6_any C W)
    have HC := Lib.hid C; clear C
    have hcase : l = [] ∨ ∃ y r, l = y :: r := by cases l with | nil => exact .inl rfl | cons y r => exact .inr ⟨y, r, rfl⟩
    rcases hcase with hl0 | ⟨y, r, hl0⟩
    · skip
      have hF : firstV l = 0 := by rw [hl0]; rfl
      have hL : lastV l = 0 := by rw [hl0]; rfl
      have hS : someB l = false := by rw [hl0]; rfl
      have K1 : Hid (∀ s W, OpAt W s l → Calls Try.prog 14 #[s] W (IsNB6 0 false W)) := Lib.hid fun s W h => by
        have k := HC.out.first l s W h
        rwa [hF, hS] at k
      have K2 : Hid (∀ s W, OpAt W s l → Calls Try.prog 15 #[s] W (IsNB6 0 false W)) := Lib.hid fun s W h => by
        have k := HC.out.last l s W h
        rwa [hL, hS] at k
      have K3 : Hid (∀ s W, OpAt W s l → Calls Try.prog 16 #[s] W (IsHull 0 0 false W)) := Lib.hid fun s W h => by
        have k := HC.out.hull l s W h
        rwa [hF, hL, hS] at k
      clear hF hL hS
      have hlen : l.length = 0 := by rw [hl0]; rfl
      clear hl0
      rw [hlen] at HO ⊢
      go_enter Try.func4, Try.ntmps4
      go_wp2_with fail
      refine (KR.out _ _ _ HO.out hl).mono ?_
      rintro e w1 ⟨rfl, h⟩
      have HO1 := Lib.hid (HO.out.call h); have HB1 := Lib.hid (below_call HB.out h)
      clear h
      go_wp2_with fail
      refine (K1.out _ _ HO1.out).mono ?_
      rintro e w2 ⟨rfl, h⟩
      have HO2 := Lib.hid (HO1.out.call h); have HB2 := Lib.hid (below_call HB1.out h)
      clear h
      go_wp2_with fail
      refine (K2.out _ _ HO2.out).mono ?_
      rintro e w3 ⟨rfl, h⟩
      have HO3 := Lib.hid (HO2.out.call h); have HB3 := Lib.hid (below_call HB2.out h)
      clear h
      go_wp2_with fail
      refine (K3.out _ _ HO3.out).mono ?_
      rintro e w4 ⟨rfl, h⟩
      have HO4 := Lib.hid (HO3.out.call h); have HB4 := Lib.hid (below_call HB3.out h)
      clear h
      go_wp2_with fail
      have hn := below_new w4 (.cells #[.int .u64 0, .int .u64 0] 37)
      have HO5 := Lib.hid (HO4.out.call hn); have HB5 := Lib.hid (below_call HB4.out hn); clear hn
      refine (KA.out _).mono ?_
      rintro e w6 ⟨rfl, h⟩
      have d0 := keep_cell (p := ⟨w4.heap.size, 0, none⟩) (v := .int .u64 0) (by simp) h
      have d1 := keep_cell (p := ⟨w4.heap.size, 1, none⟩) (v := .int .u64 0) (by simp) h
      have HO6 := Lib.hid (HO5.out.call h); have HB6 := Lib.hid (below_call HB5.out h); clear h
      go_wp2_with fail
      go_ret
      exact ⟨rfl, HB6.out⟩
    · skip
      obtain ⟨m, hm⟩ : ∃ m, l.length = m + 1 := ⟨r.length, by rw [hl0]; rfl⟩
      have hy : l[0]? = some y := by rw [hl0]; rfl
      have hz : l[m]? = some l[m] := by simp [hm]
      obtain ⟨y1, y2⟩ := y
      generalize l[m] = z at hz
      obtain ⟨z1, z2⟩ := z
      have hF : firstV l = y1 := by rw [hl0]; rfl
      have hL : lastV l = z2 := by unfold lastV; rw [List.getLast?_eq_getElem?, hm, Nat.add_sub_cancel, hz]
      have hS : someB l = true := by rw [hl0]; rfl
      have K1 : Hid (∀ s W, OpAt W s l → Calls Try.prog 14 #[s] W (IsNB6 y1 true W)) := Lib.hid fun s W h => by
        have k := HC.out.first l s W h
        rwa [hF, hS] at k
      have K2 : Hid (∀ s W, OpAt W s l → Calls Try.prog 15 #[s] W (IsNB6 z2 true W)) := Lib.hid fun s W h => by
        have k := HC.out.last l s W h
        rwa [hL, hS] at k
      have K3 : Hid (∀ s W, OpAt W s l → Calls Try.prog 16 #[s] W (IsHull y1 z2 true W)) := Lib.hid fun s W h => by
        have k := HC.out.hull l s W h
        rwa [hF, hL, hS] at k
      clear hF hL hS
      obtain ⟨b, o, cp, e, _⟩ := HO.out.at'.elem hy
      cases e
      clear hl0
      have i1 : (0 : Int) ≤ (m : Int) := by omega
      have hne : ¬ (m : Int) + 1 = 0 := by omega
      have hm60 : m ≤ 59 := by omega
      have HY := Lib.hid (And.intro hy hz); clear hy hz
      rw [hm] at HO ⊢
      clear hm
      have hlm : l.length ≤ 60 := hl
      clear hl
      go_enter Try.func4, Try.ntmps4
      go_wp2_with fail
      refine (KR.out _ _ _ HO.out hlm).mono ?_
      rintro e w1 ⟨rfl, h⟩
      have HO1 := Lib.hid (HO.out.call h); have HB1 := Lib.hid (below_call HB.out h)
      clear h
      go_wp2_with fail
      refine (K1.out _ _ HO1.out).mono ?_
      rintro e w2 ⟨rfl, h⟩
      have HO2 := Lib.hid (HO1.out.call h); have HB2 := Lib.hid (below_call HB1.out h)
      clear h
      go_wp2_with fail
      refine (K2.out _ _ HO2.out).mono ?_
      rintro e w3 ⟨rfl, h⟩
      have HO3 := Lib.hid (HO2.out.call h); have HB3 := Lib.hid (below_call HB2.out h)
      clear h
      go_wp2_with fail
      refine (K3.out _ _ HO3.out).mono ?_
      rintro e w4 ⟨rfl, h⟩
      have HO4 := Lib.hid (HO3.out.call h); have HB4 := Lib.hid (below_call HB3.out h)
      clear h
      go_wp2_with fail
      have hn := below_new w4 (.cells #[.int .u64 y1, .int .u64 z2] 37)
      have HO5 := Lib.hid (HO4.out.call hn); have HB5 := Lib.hid (below_call HB4.out hn); clear hn
      refine (KA.out _).mono ?_
      rintro e w6 ⟨rfl, h⟩
      have d0 := keep_cell (p := ⟨w4.heap.size, 0, none⟩) (v := .int .u64 y1) (by simp) h
      have d1 := keep_cell (p := ⟨w4.heap.size, 1, none⟩) (v := .int .u64 z2) (by simp) h
      have HO6 := Lib.hid (HO5.out.call h); have HB6 := Lib.hid (below_call HB5.out h); clear h
      have c0 := (HO6.out.at'.cells HY.out.1).1
      have c1 := (HO6.out.at'.cells HY.out.2).2
      dsimp only at c0 c1
      rw [Nat.zero_mul, Nat.add_zero] at c0
      go_wp2_with fail
      go_ret
      exact ⟨rfl, HB6.out⟩
  · obtain ⟨p, n0, cap, rfl⟩ := arg_shape (.inr ha)
    have KR := Lib.hid (right6_bad _ w ha)
    have KA := Lib.hid (fun W => alive6_any C W)
    clear ha C
    go_enter Try.func4, Try.ntmps4
    go_wp2_with fail
    refine KR.out.mono ?_
    rintro e w1 ⟨rfl, h⟩
    have H1 := Lib.hid h; clear h
    go_wp2_with fail
    refine (KA.out _).mono ?_
    rintro e w2 ⟨rfl, h⟩
    have H2 := Lib.hid (below_call H1.out h); clear h
    go_wp2_with fail
    go_ret
    exact ⟨rfl, H2.out⟩
set_option maxRecDepth 100000 in
set_option maxHeartbeats 4000000 in
theorem lawRises6_any (C : MeasC) (s : Value) (x : Int) (hx0 : 0 ≤ x) (hx1 : x ≤ 18446744073709551615) (w : World) (ha : okArg w s ∨ badArg w s) : Calls Try.prog 8 #[s, .int .u64 x] w (IsEnd true w) := by
  rcases ha with ha | ha
  · obtain ⟨l, ho, hl⟩ := ha.op
    clear ha
    obtain ⟨p, cap, rfl, _⟩ := ho.at'.shape
    have HO := Lib.hid ho; clear ho
    have HB : Hid (Below w.heap.size w w) := Lib.hid (Below.refl _ _)
    have KR := Lib.hid right6_ok
    have KA := Lib.hid (fun W => alive6_any C W)
    have HC := Lib.hid C; clear C
    by_cases hxm : x = 18446744073709551615
    · subst hxm
      go_enter Try.func8, Try.ntmps8
      go_wp2_with fail
      refine (KR.out _ _ _ HO.out hl).mono ?_
      rintro e w1 ⟨rfl, h⟩
      have H1 := Lib.hid h; clear h
      go_wp2_with fail
      refine (KA.out _).mono ?_
      rintro e w2 ⟨rfl, h⟩
      have H2 := Lib.hid (below_call H1.out h); clear h
      go_wp2_with fail
      go_ret
      exact ⟨rfl, H2.out⟩
    · skip
      have hxb : (x == 18446744073709551615) = false := by simpa using hxm
      have hx2 : x + 1 ≤ 18446744073709551615 := by omega
      obtain ⟨q1, hq1⟩ : ∃ q1, rankL l x / 18446744073709551616 = q1 := ⟨_, rfl⟩
      obtain ⟨r1, hr1⟩ : ∃ r1, rankL l x % 18446744073709551616 = r1 := ⟨_, rfl⟩
      obtain ⟨q2, hq2⟩ : ∃ q2, rankL l (x + 1) / 18446744073709551616 = q2 := ⟨_, rfl⟩
      obtain ⟨r2, hr2⟩ : ∃ r2, rankL l (x + 1) % 18446744073709551616 = r2 := ⟨_, rfl⟩
      have K1 : Hid (∀ s W, OpAt W s l → Calls Try.prog 13 #[s, .int .u64 x] W (fun e w' => e = .returned (.agg #[.int .u64 q1, .int .u64 r1]) ∧ Below W.heap.size W w')) := Lib.hid fun s W h => by
        have k := HC.out.rank l s x W h hx0 hx1
        unfold IsC at k
        rwa [hq1, hr1] at k
      have K2 : Hid (∀ s W, OpAt W s l → Calls Try.prog 13 #[s, .int .u64 (x + 1)] W (fun e w' => e = .returned (.agg #[.int .u64 q2, .int .u64 r2]) ∧ Below W.heap.size W w')) := Lib.hid fun s W h => by
        have k := HC.out.rank l s (x + 1) W h (by omega) hx2
        unfold IsC at k
        rwa [hq2, hr2] at k
      have hnext := rank_next HO.out.good.ord6 HO.out.good.can x
      have hmax := rank_max HO.out.good x
      have hUM : UM = 18446744073709551615 := rfl
      have K3 : Hid (∀ s W, OpAt W s l → Calls Try.prog 19 #[s, .int .u64 x] W (IsEnd (hasL l x) W)) := Lib.hid fun s W h => refHasL_any l s x W h.at'
      cases hh : hasL l x with
      | true =>
        rw [hh] at K3 hnext
        simp only [if_true] at hnext
        have KP := Lib.hid (fun W => w_plus_any q1 r1 0 1 r2 ((r1 + 1 + 0) / 18446744073709551616) q2 W (by omega) (by omega) (by omega) (by omega) (by omega) rfl (by omega) (by omega) (by omega))
        clear hq1 hr1 hq2 hr2 hnext hmax hUM hh hxm hx1
        go_enter Try.func8, Try.ntmps8
        go_wp2_with fail
        refine (KR.out _ _ _ HO.out hl).mono ?_
        rintro e w1 ⟨rfl, h⟩
        have HO1 := Lib.hid (HO.out.call h); have HB1 := Lib.hid (below_call HB.out h)
        clear h
        go_wp2_with fail
        refine (K1.out _ _ HO1.out).mono ?_
        rintro e w2 ⟨rfl, h⟩
        have HO2 := Lib.hid (HO1.out.call h); have HB2 := Lib.hid (below_call HB1.out h)
        clear h
        go_wp2_with fail
        refine (K2.out _ _ HO2.out).mono ?_
        rintro e w3 ⟨rfl, h⟩
        have HO3 := Lib.hid (HO2.out.call h); have HB3 := Lib.hid (below_call HB2.out h)
        clear h
        go_wp2_with fail
        have hn := below_alloc (below_new w3 (.cells #[.int .u64 q1, .int .u64 r1] 30)) (.cells #[.int .u64 q2, .int .u64 r2] 30)
        have HO4 := Lib.hid (HO3.out.call hn); have HB4 := Lib.hid (below_call HB3.out hn); clear hn
        refine (K3.out _ _ HO4.out).mono ?_
        rintro e w4 ⟨rfl, h⟩
        have a0 := keep_cell (p := ⟨w3.heap.size, 0, none⟩) (v := .int .u64 q1) (by simp) h
        have a1 := keep_cell (p := ⟨w3.heap.size, 1, none⟩) (v := .int .u64 r1) (by simp) h
        have b0 := keep_cell (p := ⟨w3.heap.size + 1, 0, none⟩) (v := .int .u64 q2) (by simp) h
        have b1 := keep_cell (p := ⟨w3.heap.size + 1, 1, none⟩) (v := .int .u64 r2) (by simp) h
        have HB5 := Lib.hid (below_call HB4.out h); clear h
        have hs := And.intro (Below.refl w4.heap.size w4) (And.intro a0 (And.intro a1 (And.intro b0 b1)))
        go_wp2_with fail
        go_region_held3 (fun w' => Below w4.heap.size w4 w' ∧ w'.cell? ⟨w3.heap.size, 0, none⟩ = some (.int .u64 q1) ∧ w'.cell? ⟨w3.heap.size, 1, none⟩ = some (.int .u64 r1) ∧ w'.cell? ⟨w3.heap.size + 1, 0, none⟩ = some (.int .u64 q2) ∧ w'.cell? ⟨w3.heap.size + 1, 1, none⟩ = some (.int .u64 r2))
          (first
            | exact w_four_call (by assumption) (by assumption)
            | exact w_four_drew (by assumption)
            | exact hs
            | assumption)
          (first
            | (go_at_call 23; refine (KP.out _).mono ?_; rintro en w' ⟨rfl, h'⟩; have h := Lib.hid h'; clear h')
            | (go_at_call 10; refine (KA.out _).mono ?_; rintro en w' ⟨rfl, h'⟩; have h := Lib.hid h'; clear h'))
        all_goals
          rename_i hE
          go_wp2_with fail
          go_ret
          exact ⟨rfl, below_call HB5.out hE.1⟩
      | false =>
        rw [hh] at K3 hnext
        simp only [Bool.false_eq_true, if_false, Int.add_zero] at hnext
        obtain rfl : q1 = q2 := by rw [← hq1, ← hq2, hnext]
        obtain rfl : r1 = r2 := by rw [← hr1, ← hr2, hnext]
        clear hq1 hr1 hq2 hr2 hnext hmax hUM hh hxm hx1
        go_enter Try.func8, Try.ntmps8
        go_wp2_with fail
        refine (KR.out _ _ _ HO.out hl).mono ?_
        rintro e w1 ⟨rfl, h⟩
        have HO1 := Lib.hid (HO.out.call h); have HB1 := Lib.hid (below_call HB.out h)
        clear h
        go_wp2_with fail
        refine (K1.out _ _ HO1.out).mono ?_
        rintro e w2 ⟨rfl, h⟩
        have HO2 := Lib.hid (HO1.out.call h); have HB2 := Lib.hid (below_call HB1.out h)
        clear h
        go_wp2_with fail
        refine (K2.out _ _ HO2.out).mono ?_
        rintro e w3 ⟨rfl, h⟩
        have HO3 := Lib.hid (HO2.out.call h); have HB3 := Lib.hid (below_call HB2.out h)
        clear h
        go_wp2_with fail
        have hn := below_alloc (below_new w3 (.cells #[.int .u64 q1, .int .u64 r1] 30)) (.cells #[.int .u64 q1, .int .u64 r1] 30)
        have HO4 := Lib.hid (HO3.out.call hn); have HB4 := Lib.hid (below_call HB3.out hn); clear hn
        refine (K3.out _ _ HO4.out).mono ?_
        rintro e w4 ⟨rfl, h⟩
        have a0 := keep_cell (p := ⟨w3.heap.size, 0, none⟩) (v := .int .u64 q1) (by simp) h
        have a1 := keep_cell (p := ⟨w3.heap.size, 1, none⟩) (v := .int .u64 r1) (by simp) h
        have b0 := keep_cell (p := ⟨w3.heap.size + 1, 0, none⟩) (v := .int .u64 q1) (by simp) h
        have b1 := keep_cell (p := ⟨w3.heap.size + 1, 1, none⟩) (v := .int .u64 r1) (by simp) h
        have HB5 := Lib.hid (below_call HB4.out h); clear h
        go_wp2_with fail
        refine (KA.out _).mono ?_
        rintro e w6 ⟨rfl, h⟩
        have a0' := keep_cell a0 h
        have a1' := keep_cell a1 h
        have b0' := keep_cell b0 h
        have b1' := keep_cell b1 h
        have HB6 := Lib.hid (below_call HB5.out h); clear h a0 a1 b0 b1
        go_wp2_with fail
        go_ret
        exact ⟨rfl, HB6.out⟩
  · obtain ⟨p, n0, cap, rfl⟩ := arg_shape (.inr ha)
    have KR := Lib.hid (right6_bad _ w ha)
    have KA := Lib.hid (fun W => alive6_any C W)
    clear ha C
    go_enter Try.func8, Try.ntmps8
    go_wp2_with fail
    refine KR.out.mono ?_
    rintro e w1 ⟨rfl, h⟩
    have H1 := Lib.hid h; clear h
    go_wp2_with fail
    refine (KA.out _).mono ?_
    rintro e w2 ⟨rfl, h⟩
    have H2 := Lib.hid (below_call H1.out h); clear h
    go_wp2_with fail
    go_ret
    exact ⟨rfl, H2.out⟩
end Go.Proofs.Ytnihmmhmndgagaa
