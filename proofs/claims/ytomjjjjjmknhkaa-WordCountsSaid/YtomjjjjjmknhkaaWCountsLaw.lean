/- The law WordCounts returns true for all counts. Conditions: the parts are numbers of 64 bits. -/
import Derived.Test.YtomjjjjjmknhkaaWCounts
namespace Go.Proofs.Ytomjjjjjmknhkaa
open Go.RowKit Go.ChangeShapes Go.WideShapes

theorem six_call {W w1 w2 : World} {k m n : Nat} {a b c d x y : Value}
    (h : Below W.heap.size W w1 ∧ w1.cell? ⟨k, 0, none⟩ = some a ∧ w1.cell? ⟨k, 1, none⟩ = some b ∧ w1.cell? ⟨m, 0, none⟩ = some c ∧ w1.cell? ⟨m, 1, none⟩ = some d ∧ w1.cell? ⟨n, 0, none⟩ = some x ∧ w1.cell? ⟨n, 1, none⟩ = some y)
    (hb : Hid (Below w1.heap.size w1 w2)) :
    Below W.heap.size W w2 ∧ w2.cell? ⟨k, 0, none⟩ = some a ∧ w2.cell? ⟨k, 1, none⟩ = some b ∧ w2.cell? ⟨m, 0, none⟩ = some c ∧ w2.cell? ⟨m, 1, none⟩ = some d ∧ w2.cell? ⟨n, 0, none⟩ = some x ∧ w2.cell? ⟨n, 1, none⟩ = some y :=
  ⟨keep_below h.1 (Nat.le_refl _) hb.out, keep_cell h.2.1 hb.out, keep_cell h.2.2.1 hb.out, keep_cell h.2.2.2.1 hb.out, keep_cell h.2.2.2.2.1 hb.out, keep_cell h.2.2.2.2.2.1 hb.out, keep_cell h.2.2.2.2.2.2 hb.out⟩
theorem six_drew {W w1 : World} {k m n : Nat} {a b c d x y : Value}
    (h : Below W.heap.size W w1 ∧ w1.cell? ⟨k, 0, none⟩ = some a ∧ w1.cell? ⟨k, 1, none⟩ = some b ∧ w1.cell? ⟨m, 0, none⟩ = some c ∧ w1.cell? ⟨m, 1, none⟩ = some d ∧ w1.cell? ⟨n, 0, none⟩ = some x ∧ w1.cell? ⟨n, 1, none⟩ = some y) :
    Below W.heap.size W w1.drew ∧ w1.drew.cell? ⟨k, 0, none⟩ = some a ∧ w1.drew.cell? ⟨k, 1, none⟩ = some b ∧ w1.drew.cell? ⟨m, 0, none⟩ = some c ∧ w1.drew.cell? ⟨m, 1, none⟩ = some d ∧ w1.drew.cell? ⟨n, 0, none⟩ = some x ∧ w1.drew.cell? ⟨n, 1, none⟩ = some y :=
  six_call h ((Below.refl _ _).drew)

theorem counts_far (a b c d : Int) (w : World) (hf : 4611686018427387904 < a ∨ 4611686018427387904 < c) :
    Calls Try.prog 7 #[.agg #[.int .u64 a, .int .u64 b], .agg #[.int .u64 c, .int .u64 d]] w (TrueEnd w) := by
  by_cases h1 : 4611686018427387904 < a
  · clear hf
    go_enter Try.func7, Try.ntmps7
    go_wp2_with fail
    refine (alive_any _).mono ?_
    rintro e w2 ⟨rfl, h2⟩
    have H2 := Lib.hid ((four_call (four_start w (.int .u64 a) (.int .u64 b) (.int .u64 c) (.int .u64 d) _ _) h2).1); clear h2
    go_wp2_with fail
    go_ret
    exact ⟨rfl, H2.out⟩
  · have h2 : 4611686018427387904 < c := by omega
    clear hf
    go_enter Try.func7, Try.ntmps7
    go_wp2_with fail
    refine (alive_any _).mono ?_
    rintro e w2 ⟨rfl, h2⟩
    have H2 := Lib.hid ((four_call (four_start w (.int .u64 a) (.int .u64 b) (.int .u64 c) (.int .u64 d) _ _) h2).1); clear h2
    go_wp2_with fail
    go_ret
    exact ⟨rfl, H2.out⟩

set_option maxRecDepth 100000 in
set_option maxHeartbeats 4000000 in
theorem counts_near (a b c d : Int) (w : World) (ha : 0 ≤ a) (ha2 : a ≤ 4611686018427387904) (hb : 0 ≤ b) (hb2 : b ≤ 18446744073709551615) (hc : 0 ≤ c) (hc2 : c ≤ 4611686018427387904) (hd : 0 ≤ d) (hd2 : d ≤ 18446744073709551615) :
    Calls Try.prog 7 #[.agg #[.int .u64 a, .int .u64 b], .agg #[.int .u64 c, .int .u64 d]] w (TrueEnd w) := by
  obtain ⟨l, hl⟩ : ∃ l, (b + d) % 18446744073709551616 = l := ⟨_, rfl⟩
  obtain ⟨h, hh⟩ : ∃ h, a + c + (b + d) / 18446744073709551616 = h := ⟨_, rfl⟩
  obtain ⟨k, hk⟩ : ∃ k, (b + d + 0) / 18446744073709551616 = k := ⟨_, rfl⟩
  have K1 := Lib.hid (fun w => plus_any a b c d l k h w ha hb hc hd (by omega) hk (by omega) (by omega) (by omega))
  have K2 := Lib.hid (fun w => refPlus_any a b c d l h w ha ha2 hb hb2 hc hc2 hd hd2 hl hh)
  have K3 := Lib.hid compare_any
  have K4 := Lib.hid refCompare_any
  have e1 := cmpC_swap a b c d
  have e2 : decide (0 ≤ cmpC h l a b) = true := by simpa using cmpC_sum a b c d l h hc hb hd hb2 hl hh
  have hs := four_start w (.int .u64 a) (.int .u64 b) (.int .u64 c) (.int .u64 d) 34 34
  have HS := Lib.hid hs; clear hs
  clear hl hh hk hb hb2 hd hd2 ha hc
  go_enter Try.func7, Try.ntmps7
  go_wp2_with fail
  refine (K1.out _).mono ?_
  rintro e w1 ⟨rfl, h1⟩
  have hs1 := four_call HS.out h1
  obtain ⟨hb1, c0, c1, d0, d1⟩ := hs1
  have H1 := Lib.hid hb1; clear hb1 h1
  have hst : Below w.heap.size w (w1.alloc (.cells #[.int .u64 h, .int .u64 l] 34)) ∧ (w1.alloc (.cells #[.int .u64 h, .int .u64 l] 34)).cell? ⟨w.heap.size, 0, none⟩ = some (.int .u64 a) ∧ (w1.alloc (.cells #[.int .u64 h, .int .u64 l] 34)).cell? ⟨w.heap.size, 1, none⟩ = some (.int .u64 b) ∧
      (w1.alloc (.cells #[.int .u64 h, .int .u64 l] 34)).cell? ⟨w.heap.size + 1, 0, none⟩ = some (.int .u64 c) ∧ (w1.alloc (.cells #[.int .u64 h, .int .u64 l] 34)).cell? ⟨w.heap.size + 1, 1, none⟩ = some (.int .u64 d) ∧
      (w1.alloc (.cells #[.int .u64 h, .int .u64 l] 34)).cell? ⟨w1.heap.size, 0, none⟩ = some (.int .u64 h) ∧ (w1.alloc (.cells #[.int .u64 h, .int .u64 l] 34)).cell? ⟨w1.heap.size, 1, none⟩ = some (.int .u64 l) := by
    have hb := below_alloc (Below.refl w1.heap.size w1) (.cells #[.int .u64 h, .int .u64 l] 34)
    exact ⟨keep_below H1.out (Nat.le_refl _) hb, keep_cell c0 hb, keep_cell c1 hb, keep_cell d0 hb, keep_cell d1 hb, by simp, by simp⟩
  clear c0 c1 d0 d1
  have HST := Lib.hid hst
  obtain ⟨_, c0, c1, d0, d1, _⟩ := hst
  go_wp2_with fail
  refine (K2.out _).mono ?_
  rintro e w2 ⟨rfl, rfl⟩
  clear c0 c1 d0 d1
  go_wp2_with fail
  go_region_held3 (fun w' => Below w.heap.size w w' ∧ w'.cell? ⟨w.heap.size, 0, none⟩ = some (.int .u64 a) ∧ w'.cell? ⟨w.heap.size, 1, none⟩ = some (.int .u64 b) ∧ w'.cell? ⟨w.heap.size + 1, 0, none⟩ = some (.int .u64 c) ∧ w'.cell? ⟨w.heap.size + 1, 1, none⟩ = some (.int .u64 d) ∧ w'.cell? ⟨w1.heap.size, 0, none⟩ = some (.int .u64 h) ∧ w'.cell? ⟨w1.heap.size, 1, none⟩ = some (.int .u64 l))
    (first
      | exact six_call (by assumption) (by assumption)
      | exact six_drew (by assumption)
      | exact HST.out
      | assumption)
    (first
      | (go_at_call 11; refine (alive_any _).mono ?_; rintro en w' ⟨rfl, hb4'⟩; have hb4 := Lib.hid hb4'; clear hb4')
      | (go_at_call 20; refine (K3.out _ _ _ _ _).mono ?_; rintro en w' ⟨rfl, hb4'⟩; have hb4 := Lib.hid hb4'; clear hb4')
      | (go_at_call 21; refine (K4.out _ _ _ _ _).mono ?_; rintro en w' ⟨rfl, rfl⟩))
  all_goals
    rename_i hE
    go_wp2_with fail
    go_ret
    exact ⟨rfl, hE.1⟩

theorem counts_any (a b c d : Nat) (w : World) (ha : a < 18446744073709551616) (hb : b < 18446744073709551616) (hc : c < 18446744073709551616) (hd : d < 18446744073709551616) :
    Calls Try.prog 7 #[.agg #[.int .u64 (a : Int), .int .u64 (b : Int)], .agg #[.int .u64 (c : Int), .int .u64 (d : Int)]] w (TrueEnd w) := by
  by_cases hf : 4611686018427387904 < (a : Int) ∨ 4611686018427387904 < (c : Int)
  · exact counts_far a b c d w hf
  · exact counts_near a b c d w (by omega) (by omega) (by omega) (by omega) (by omega) (by omega) (by omega) (by omega)
end Go.Proofs.Ytomjjjjjmknhkaa
