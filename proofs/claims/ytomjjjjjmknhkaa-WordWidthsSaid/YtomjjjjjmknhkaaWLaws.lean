/- The laws WordSteps, WordBetween and WordWidths return true for all numbers of 64 bits. -/
import Derived.Test.YtomjjjjjmknhkaaWAlive
import Derived.Test.YtomjjjjjmknhkaaRow
namespace Go.Proofs.Ytomjjjjjmknhkaa
open Go.RowKit

theorem steps_mid (x : Int) (w : World) (h0 : 0 < x) (h1 : x < 18446744073709551615) :
    Calls Try.prog 3 #[.int .u64 x] w (TrueEnd w) := by
  have k1 := next_any x w (by omega) h1
  have k2 := prev_any x w h0 (by omega)
  have k3 := prev_any (x + 1) w (by omega) (by omega)
  have e : x + 1 - 1 = x := by omega
  rw [e] at k3
  have K1 := Lib.hid k1; clear k1
  have K2 := Lib.hid k2; clear k2
  have K3 := Lib.hid k3; clear k3 e
  go_enter Try.func3, Try.ntmps3
  go_wp2_with fail
  refine K1.out.mono ?_
  rintro e w' ⟨rfl, rfl⟩
  go_wp2_with fail
  refine K2.out.mono ?_
  rintro e w' ⟨rfl, rfl⟩
  go_wp2_with fail
  refine K3.out.mono ?_
  rintro e w' ⟨rfl, rfl⟩
  go_wp2_with fail
  refine (alive_any w).mono ?_
  rintro e w' ⟨rfl, hb⟩
  have HB := Lib.hid hb; clear hb
  go_wp2_with fail
  go_ret
  exact ⟨rfl, HB.out⟩

theorem steps_zero (w : World) :
    Calls Try.prog 3 #[.int .u64 0] w (TrueEnd w) := by
  have k1 := next_any 0 w (by omega) (by omega)
  have k2 := prev_zero w
  have k3 := prev_any 1 w (by omega) (by omega)
  have K1 := Lib.hid k1; clear k1
  have K2 := Lib.hid k2; clear k2
  have K3 := Lib.hid k3; clear k3
  go_enter Try.func3, Try.ntmps3
  go_wp2_with fail
  refine K1.out.mono ?_
  rintro e w' ⟨rfl, rfl⟩
  go_wp2_with fail
  refine K2.out.mono ?_
  rintro e w' ⟨rfl, rfl⟩
  go_wp2_with fail
  refine K3.out.mono ?_
  rintro e w' ⟨rfl, rfl⟩
  go_wp2_with fail
  refine (alive_any w).mono ?_
  rintro e w' ⟨rfl, hb⟩
  have HB := Lib.hid hb; clear hb
  go_wp2_with fail
  go_ret
  exact ⟨rfl, HB.out⟩

theorem steps_top (w : World) :
    Calls Try.prog 3 #[.int .u64 18446744073709551615] w (TrueEnd w) := by
  have k1 := next_top w
  have k2 := prev_any 18446744073709551615 w (by omega) (by omega)
  have k3 := prev_zero w
  have K1 := Lib.hid k1; clear k1
  have K2 := Lib.hid k2; clear k2
  have K3 := Lib.hid k3; clear k3
  go_enter Try.func3, Try.ntmps3
  go_wp2_with fail
  refine K1.out.mono ?_
  rintro e w' ⟨rfl, rfl⟩
  go_wp2_with fail
  refine K2.out.mono ?_
  rintro e w' ⟨rfl, rfl⟩
  go_wp2_with fail
  refine K3.out.mono ?_
  rintro e w' ⟨rfl, rfl⟩
  go_wp2_with fail
  refine (alive_any w).mono ?_
  rintro e w' ⟨rfl, hb⟩
  have HB := Lib.hid hb; clear hb
  go_wp2_with fail
  go_ret
  exact ⟨rfl, HB.out⟩

theorem steps_any (x : Int) (w : World) (h : 0 ≤ x ∧ x ≤ 18446744073709551615) :
    Calls Try.prog 3 #[.int .u64 x] w (TrueEnd w) := by
  by_cases h0 : x = 0
  · subst h0; exact steps_zero w
  · by_cases h1 : x = 18446744073709551615
    · subst h1; exact steps_top w
    · exact steps_mid x w (by omega) (by omega)

theorem betw_lt (a b : Int) (w : World) (h0 : 0 ≤ a) (h : a < b) (h1 : b ≤ 18446744073709551615) :
    Calls Try.prog 5 #[.int .u64 a, .int .u64 b] w (TrueEnd w) := by
  have K1 := Lib.hid (between_lt a b w h0 h h1)
  have K2 := Lib.hid (refBetween_lt a b w h0 h h1)
  have K3 := Lib.hid (next_any a w h0 (by omega))
  have hq : ((b - a - 1 == 0) == (a + 1 == b)) = true := by
    have : (b - a - 1 == 0) = (a + 1 == b) := by
      rw [Bool.eq_iff_iff]; simp; omega
    rw [this]; simp
  go_enter Try.func5, Try.ntmps5
  go_wp2_with fail
  refine K1.out.mono ?_
  rintro e w' ⟨rfl, rfl⟩
  go_wp2_with fail
  refine K2.out.mono ?_
  rintro e w' ⟨rfl, rfl⟩
  go_wp2_with fail
  refine K3.out.mono ?_
  rintro e w' ⟨rfl, rfl⟩
  go_wp2_with fail
  refine (alive_any w).mono ?_
  rintro e w' ⟨rfl, hb⟩
  have HB := Lib.hid hb; clear hb
  go_wp2_with fail
  go_ret
  exact ⟨rfl, HB.out⟩

theorem betw_ge (a b : Int) (w : World) (h0 : 0 ≤ a) (h : b ≤ a) (h1 : a ≤ 18446744073709551615) :
    Calls Try.prog 5 #[.int .u64 a, .int .u64 b] w (TrueEnd w) := by
  have K1 := Lib.hid (between_ge a b w h)
  have K2 := Lib.hid (refBetween_ge a b w h)
  by_cases ht : a = 18446744073709551615
  · subst ht
    have K3 := Lib.hid (next_top w)
    go_enter Try.func5, Try.ntmps5
    go_wp2_with fail
    refine K1.out.mono ?_
    rintro e w' ⟨rfl, rfl⟩
    go_wp2_with fail
    refine K2.out.mono ?_
    rintro e w' ⟨rfl, rfl⟩
    go_wp2_with fail
    refine K3.out.mono ?_
    rintro e w' ⟨rfl, rfl⟩
    go_wp2_with fail
    refine (alive_any w).mono ?_
    rintro e w' ⟨rfl, hb⟩
    have HB := Lib.hid hb; clear hb
    go_wp2_with fail
    go_ret
    exact ⟨rfl, HB.out⟩
  · have K3 := Lib.hid (next_any a w h0 (by omega))
    clear ht
    go_enter Try.func5, Try.ntmps5
    go_wp2_with fail
    refine K1.out.mono ?_
    rintro e w' ⟨rfl, rfl⟩
    go_wp2_with fail
    refine K2.out.mono ?_
    rintro e w' ⟨rfl, rfl⟩
    go_wp2_with fail
    refine K3.out.mono ?_
    rintro e w' ⟨rfl, rfl⟩
    go_wp2_with fail
    refine (alive_any w).mono ?_
    rintro e w' ⟨rfl, hb⟩
    have HB := Lib.hid hb; clear hb
    go_wp2_with fail
    go_ret
    exact ⟨rfl, HB.out⟩

theorem betw_any (a b : Int) (w : World) (h : 0 ≤ a ∧ a ≤ 18446744073709551615) (k : 0 ≤ b ∧ b ≤ 18446744073709551615) :
    Calls Try.prog 5 #[.int .u64 a, .int .u64 b] w (TrueEnd w) := by
  by_cases hl : a < b
  · exact betw_lt a b w h.1 hl k.2
  · exact betw_ge a b w h.1 (by omega) h.2

theorem width_any (lo hi k l : Int) (w : World) (h0 : 0 ≤ lo) (h1 : hi ≤ 18446744073709551615)
    (hl : (if hi < lo then 0 else (hi - lo + 1) % 18446744073709551616) = l) (hk : (if hi < lo then 0 else (hi - lo + 1) / 18446744073709551616) = k) :
    Calls Try.prog 16 #[.int .u64 lo, .int .u64 hi] w (IsCnt k l w) := by
  by_cases h : hi < lo
  · obtain rfl : 0 = k := by simpa [h] using hk
    obtain rfl : 0 = l := by simpa [h] using hl
    exact width_gt lo hi w h
  · rw [if_neg h] at hl hk
    exact width_le lo hi k l w h0 (by omega) h1 hl hk

theorem widths_any (lo hi : Int) (w : World) (h : 0 ≤ lo ∧ lo ≤ 18446744073709551615) (k : 0 ≤ hi ∧ hi ≤ 18446744073709551615) :
    Calls Try.prog 6 #[.int .u64 lo, .int .u64 hi] w (TrueEnd w) := by
  obtain ⟨l, hl⟩ : ∃ l, (if hi < lo then 0 else (hi - lo + 1) % 18446744073709551616) = l := ⟨_, rfl⟩
  obtain ⟨q, hq⟩ : ∃ q, (if hi < lo then 0 else (hi - lo + 1) / 18446744073709551616) = q := ⟨_, rfl⟩
  have K1 := Lib.hid (width_any lo hi q l w h.1 k.2 hl hq)
  have K2 := Lib.hid (fun w => refWidth_any lo hi q l w h.1 k.2 k.1 h.2 hl hq)
  clear hl hq h k
  go_enter Try.func6, Try.ntmps6
  go_wp2_with fail
  refine K1.out.mono ?_
  rintro e w1 ⟨rfl, h1⟩
  have H1 := Lib.hid h1; clear h1
  go_wp2_with fail
  refine (K2.out _).mono ?_
  rintro e w' ⟨rfl, rfl⟩
  go_wp2_with fail
  refine (alive_any _).mono ?_
  rintro e w2 ⟨rfl, h2⟩
  have c0 := keep_cell (p := ⟨w1.heap.size, 0, none⟩) (v := .int .u64 q) (by simp) h2
  have c1 := keep_cell (p := ⟨w1.heap.size, 1, none⟩) (v := .int .u64 l) (by simp) h2
  have H2 := Lib.hid (keep_below (H1.out.trans ((below_alloc (Below.refl _ _) _).mono H1.out.size)) (Nat.le_refl _) h2); clear h2
  go_wp2_with fail
  go_ret
  exact ⟨rfl, H2.out⟩
end Go.Proofs.Ytomjjjjjmknhkaa
