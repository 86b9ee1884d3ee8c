/- The reference's Cut: a slice of its own that holds the parts in order. Conditions: the ends are numbers of 64 bits. -/
import Derived.Test.YtciinnkcjiibfaaDoorSCut
namespace Go.Proofs.YtciinnkcjiibfaaDoor
open Go.RowKit Go.ChangeShapes Go.WideShapes

theorem own_grown {w W w1 : World} {e : TypeId} {size k : Nat} {v : Value} {xs : List Value} (hB : Below w.heap.size w W) (hrow : W.ownsRow w.heap.size e size v k xs) (hgrow : W.grownBy w1 v.ownBlock) : Below w.heap.size w w1 := by
  refine hB.grown hgrow hB.size (fun j e' => ?_)
  rcases hrow.2 with ⟨rfl, _⟩ | ⟨g, cap, cur, rfl, h2, _⟩
  · simp [Value.ownBlock] at e'
  · simp only [Value.ownBlock] at e'
    have := Option.some.inj e'
    omega
theorem nil_grown {W w1 : World} (hg : W.grownBy w1 none) : Below W.heap.size W w1 := (Below.refl _ _).grown hg (Nat.le_refl _) (fun k e => by cases e)
theorem cell_two_at (w : World) (x y : Value) (t : TypeId) (k : Nat) (hk : k = w.heap.size) : ∀ j u, [x, y][j]? = some u → (w.alloc (.cells #[x, y] t)).cell? ((⟨k, 0, none⟩ : Addr).add j) = some u := by
  subst hk; exact cell_two_new w x y t

set_option maxRecDepth 100000 in
set_option maxHeartbeats 1000000 in
theorem refCut_none (a b c d : Int) (w : World) (hd : 0 ≤ d ∧ d ≤ 18446744073709551615) (hc : 0 ≤ c ∧ c ≤ 18446744073709551615) (ha : 0 ≤ a) (hb : b ≤ 18446744073709551615)
    (h1 : ¬ a < c) (h2 : ¬ d < b) : Calls Tryd.prog 24 #[.agg #[.int .u64 a, .int .u64 b], .agg #[.int .u64 c, .int .u64 d]] w (OwnIvs [] w) := by
  obtain ⟨i0, hi', hz0, hz1, hz2⟩ := info_parts infoIv
  have hd1 := hd.1
  have hd2 := hd.2
  have hc1 := hc.1
  have hc2 := hc.2
  have HB := Lib.hid (below_alloc (below_new w (.cells #[.int .u64 a, .int .u64 b] 24)) (.cells #[.int .u64 c, .int .u64 d] 24))
  have HA := Lib.hid (Kp.two w (.int .u64 a) (.int .u64 b) (.int .u64 c) (.int .u64 d) 24 24)
  clear hd hc
  go_enter Tryd.func24, Tryd.ntmps24
  clear HA
  go_wp2_with fail
  go_ret
  exact ⟨_, rfl, World.ownsRow_nil _ _ _ _, HB.out⟩

set_option maxRecDepth 100000 in
set_option maxHeartbeats 1000000 in
theorem refCut_front (a b c d hi : Int) (w : World) (hd : 0 ≤ d ∧ d ≤ 18446744073709551615) (hc : 0 ≤ c ∧ c ≤ 18446744073709551615) (ha : 0 ≤ a) (hb : b ≤ 18446744073709551615)
    (h1 : a < c) (h2 : ¬ d < b) (hhi : (if c - 1 < b then c - 1 else b) = hi) : Calls Tryd.prog 24 #[.agg #[.int .u64 a, .int .u64 b], .agg #[.int .u64 c, .int .u64 d]] w (OwnIvs [(a, hi)] w) := by
  obtain ⟨i0, hi', hz0, hz1, hz2⟩ := info_parts infoIv
  have hd1 := hd.1
  have hd2 := hd.2
  have hc1 := hc.1
  have hc2 := hc.2
  have HB := Lib.hid (below_alloc (below_new w (.cells #[.int .u64 a, .int .u64 b] 24)) (.cells #[.int .u64 c, .int .u64 d] 24))
  have HA := Lib.hid (Kp.two w (.int .u64 a) (.int .u64 b) (.int .u64 c) (.int .u64 d) 24 24)
  clear hd hc
  go_enter Tryd.func24, Tryd.ntmps24
  have HX := Lib.hid (HA.out.2.alloc (.cells #[.int .u64 a, .int .u64 hi] 24)); clear HA
  go_wp2_with (at_builtin; refine wpList_append_own _ rfl _ _ 39 rfl w.heap.size 24 i0 (.agg #[.int .u64 0, .int .u64 0]) 2 16 Tryd.underlying39 hi' hz0 hz1 hz2 rfl (by decide) _ _ _ rfl ((World.ownsRow_nil _ _ _ _).alloc _) ⟨w.heap.size + 1 + 1, 0, none⟩ 1 1 [.int .u64 a, .int .u64 hi] rfl rfl (cell_two_at _ _ _ _ _ (by simp)) (by simp [Value.oneCell']) (by unfold maxLen; omega) (by omega) (by simp; omega) ?_; intro v' w1 hown' hgrow _; obtain ⟨g', cap', rfl⟩ := ownsRow_succ hown'; have HO := Lib.hid hown'; clear hown'; have hgr : (((w.alloc (.cells #[.int .u64 a, .int .u64 b] 24)).alloc (.cells #[.int .u64 c, .int .u64 d] 24)).alloc (.cells #[.int .u64 a, .int .u64 hi] 24)).grownBy w1 none := hgrow; clear hgrow; have hb3 := nil_grown hgr; clear hgr; obtain ⟨b0, b1, a0, a1, _⟩ := HX.out.call hb3; have HW := Lib.hid (below_call (below_alloc HB.out _) hb3); clear hb3)
  go_ret
  exact ⟨_, rfl, by simpa [ivC] using HO.out, HW.out⟩

set_option maxRecDepth 100000 in
set_option maxHeartbeats 1000000 in
theorem refCut_back (a b c d lo : Int) (w : World) (hd : 0 ≤ d ∧ d ≤ 18446744073709551615) (hc : 0 ≤ c ∧ c ≤ 18446744073709551615) (ha : 0 ≤ a) (hb : b ≤ 18446744073709551615)
    (h1 : ¬ a < c) (h2 : d < b) (hlo : (if a < d + 1 then d + 1 else a) = lo) : Calls Tryd.prog 24 #[.agg #[.int .u64 a, .int .u64 b], .agg #[.int .u64 c, .int .u64 d]] w (OwnIvs [(lo, b)] w) := by
  obtain ⟨i0, hi', hz0, hz1, hz2⟩ := info_parts infoIv
  have hd1 := hd.1
  have hd2 := hd.2
  have hc1 := hc.1
  have hc2 := hc.2
  have HB := Lib.hid (below_alloc (below_new w (.cells #[.int .u64 a, .int .u64 b] 24)) (.cells #[.int .u64 c, .int .u64 d] 24))
  have HA := Lib.hid (Kp.two w (.int .u64 a) (.int .u64 b) (.int .u64 c) (.int .u64 d) 24 24)
  clear hd hc
  go_enter Tryd.func24, Tryd.ntmps24
  have HX := Lib.hid (HA.out.2.alloc (.cells #[.int .u64 lo, .int .u64 b] 24)); clear HA
  go_wp2_with (at_builtin; refine wpList_append_own _ rfl _ _ 39 rfl w.heap.size 24 i0 (.agg #[.int .u64 0, .int .u64 0]) 2 16 Tryd.underlying39 hi' hz0 hz1 hz2 rfl (by decide) _ _ _ rfl ((World.ownsRow_nil _ _ _ _).alloc _) ⟨w.heap.size + 1 + 1, 0, none⟩ 1 1 [.int .u64 lo, .int .u64 b] rfl rfl (cell_two_at _ _ _ _ _ (by simp)) (by simp [Value.oneCell']) (by unfold maxLen; omega) (by omega) (by simp; omega) ?_; intro v' w1 hown' hgrow _; obtain ⟨g', cap', rfl⟩ := ownsRow_succ hown'; have HO := Lib.hid hown'; clear hown'; have hgr : (((w.alloc (.cells #[.int .u64 a, .int .u64 b] 24)).alloc (.cells #[.int .u64 c, .int .u64 d] 24)).alloc (.cells #[.int .u64 lo, .int .u64 b] 24)).grownBy w1 none := hgrow; clear hgrow; have hb3 := nil_grown hgr; clear hgr; obtain ⟨b0, b1, a0, a1, _⟩ := HX.out.call hb3; have HW := Lib.hid (below_call (below_alloc HB.out _) hb3); clear hb3)
  go_ret
  exact ⟨_, rfl, by simpa [ivC] using HO.out, HW.out⟩

set_option maxRecDepth 100000 in
set_option maxHeartbeats 1000000 in
theorem refCut_both (a b c d hi lo : Int) (w : World) (hd : 0 ≤ d ∧ d ≤ 18446744073709551615) (hc : 0 ≤ c ∧ c ≤ 18446744073709551615) (ha : 0 ≤ a) (hb : b ≤ 18446744073709551615)
    (h1 : a < c) (h2 : d < b) (hhi : (if c - 1 < b then c - 1 else b) = hi) (hlo : (if a < d + 1 then d + 1 else a) = lo) : Calls Tryd.prog 24 #[.agg #[.int .u64 a, .int .u64 b], .agg #[.int .u64 c, .int .u64 d]] w (OwnIvs [(a, hi), (lo, b)] w) := by
  obtain ⟨i0, hi', hz0, hz1, hz2⟩ := info_parts infoIv
  have hd1 := hd.1
  have hd2 := hd.2
  have hc1 := hc.1
  have hc2 := hc.2
  have HB := Lib.hid (below_alloc (below_new w (.cells #[.int .u64 a, .int .u64 b] 24)) (.cells #[.int .u64 c, .int .u64 d] 24))
  have HA := Lib.hid (Kp.two w (.int .u64 a) (.int .u64 b) (.int .u64 c) (.int .u64 d) 24 24)
  clear hd hc
  go_enter Tryd.func24, Tryd.ntmps24
  have HX := Lib.hid (HA.out.2.alloc (.cells #[.int .u64 a, .int .u64 hi] 24)); clear HA
  go_wp2_with (first | (at_builtin; refine wpList_append_own _ rfl _ _ 39 rfl w.heap.size 24 i0 (.agg #[.int .u64 0, .int .u64 0]) 2 16 Tryd.underlying39 hi' hz0 hz1 hz2 rfl (by decide) _ _ _ rfl (HO.out.alloc _) ⟨w1.heap.size, 0, none⟩ 1 1 [.int .u64 lo, .int .u64 b] rfl rfl (cell_two_at _ _ _ _ _ rfl) (by simp [Value.oneCell']) (by unfold maxLen; omega) (by omega) (by have := HW.out.size; simp; omega) ?_; intro v' w2 hown' hgrow _; obtain ⟨g2, cap2, rfl⟩ := ownsRow_succ hown'; have HO2 := Lib.hid hown'; clear hown'; have hgr : (w1.alloc (.cells #[.int .u64 lo, .int .u64 b] 24)).grownBy w2 (Value.slice (some ⟨g', 0, none⟩) (0 + 1) cap').ownBlock := hgrow; clear hgrow; have HW2 := Lib.hid (own_grown (below_alloc HW.out _) (HO.out.alloc _) hgr); clear hgr) | (at_builtin; refine wpList_append_own _ rfl _ _ 39 rfl w.heap.size 24 i0 (.agg #[.int .u64 0, .int .u64 0]) 2 16 Tryd.underlying39 hi' hz0 hz1 hz2 rfl (by decide) _ _ _ rfl ((World.ownsRow_nil _ _ _ _).alloc _) ⟨w.heap.size + 1 + 1, 0, none⟩ 1 1 [.int .u64 a, .int .u64 hi] rfl rfl (cell_two_at _ _ _ _ _ (by simp)) (by simp [Value.oneCell']) (by unfold maxLen; omega) (by omega) (by simp; omega) ?_; intro v' w1 hown' hgrow _; obtain ⟨g', cap', rfl⟩ := ownsRow_succ hown'; have HO := Lib.hid hown'; clear hown'; have hgr : (((w.alloc (.cells #[.int .u64 a, .int .u64 b] 24)).alloc (.cells #[.int .u64 c, .int .u64 d] 24)).alloc (.cells #[.int .u64 a, .int .u64 hi] 24)).grownBy w1 none := hgrow; clear hgrow; have hb3 := nil_grown hgr; clear hgr; obtain ⟨b0, b1, a0, a1, _⟩ := HX.out.call hb3; have HW := Lib.hid (below_call (below_alloc HB.out _) hb3); clear hb3))
  go_ret
  exact ⟨_, rfl, by simpa [ivC] using HO2.out, HW2.out⟩

theorem refCut_any (a b c d : Int) (w : World) (hd : 0 ≤ d ∧ d ≤ 18446744073709551615) (hc : 0 ≤ c ∧ c ≤ 18446744073709551615) (ha : 0 ≤ a) (hb : b ≤ 18446744073709551615) :
    Calls Tryd.prog 24 #[.agg #[.int .u64 a, .int .u64 b], .agg #[.int .u64 c, .int .u64 d]] w (OwnIvs (cutL a b c d) w) := by
  unfold cutL frontL backL
  by_cases h1 : a < c
  · by_cases h2 : d < b
    · rw [if_pos h1, if_pos h2]; exact refCut_both a b c d _ _ w hd hc ha hb h1 h2 rfl rfl
    · rw [if_pos h1, if_neg h2]; exact refCut_front a b c d _ w hd hc ha hb h1 h2 rfl
  · by_cases h2 : d < b
    · rw [if_neg h1, if_pos h2]; exact refCut_back a b c d _ w hd hc ha hb h1 h2 rfl
    · rw [if_neg h1, if_neg h2]; exact refCut_none a b c d w hd hc ha hb h1 h2
end Go.Proofs.YtciinnkcjiibfaaDoor
