/- Compare of package word, the reference's Compare and Plus, and the law WordCounts. Conditions: the parts are numbers of 64 bits. -/
import Derived.Test.YtomjjjjjmknhkaaWCompare
namespace Go.Proofs.Ytomjjjjjmknhkaa
open Go.RowKit Go.ChangeShapes Go.WideShapes

def FourS (w : World) (k m : Nat) (a b c d : Value) (w' : World) : Prop :=
  Below w.heap.size w w' ∧ w'.cell? ⟨k, 0, none⟩ = some a ∧ w'.cell? ⟨k, 1, none⟩ = some b ∧ w'.cell? ⟨m, 0, none⟩ = some c ∧ w'.cell? ⟨m, 1, none⟩ = some d

theorem four_call {W w1 w2 : World} {k m : Nat} {a b c d : Value}
    (h : Below W.heap.size W w1 ∧ w1.cell? ⟨k, 0, none⟩ = some a ∧ w1.cell? ⟨k, 1, none⟩ = some b ∧ w1.cell? ⟨m, 0, none⟩ = some c ∧ w1.cell? ⟨m, 1, none⟩ = some d)
    (hb : Hid (Below w1.heap.size w1 w2)) :
    Below W.heap.size W w2 ∧ w2.cell? ⟨k, 0, none⟩ = some a ∧ w2.cell? ⟨k, 1, none⟩ = some b ∧ w2.cell? ⟨m, 0, none⟩ = some c ∧ w2.cell? ⟨m, 1, none⟩ = some d :=
  ⟨keep_below h.1 (Nat.le_refl _) hb.out, keep_cell h.2.1 hb.out, keep_cell h.2.2.1 hb.out, keep_cell h.2.2.2.1 hb.out, keep_cell h.2.2.2.2 hb.out⟩
theorem four_drew {W w1 : World} {k m : Nat} {a b c d : Value}
    (h : Below W.heap.size W w1 ∧ w1.cell? ⟨k, 0, none⟩ = some a ∧ w1.cell? ⟨k, 1, none⟩ = some b ∧ w1.cell? ⟨m, 0, none⟩ = some c ∧ w1.cell? ⟨m, 1, none⟩ = some d) :
    Below W.heap.size W w1.drew ∧ w1.drew.cell? ⟨k, 0, none⟩ = some a ∧ w1.drew.cell? ⟨k, 1, none⟩ = some b ∧ w1.drew.cell? ⟨m, 0, none⟩ = some c ∧ w1.drew.cell? ⟨m, 1, none⟩ = some d :=
  four_call h ((Below.refl _ _).drew)
theorem four_alloc {W w1 : World} {k m : Nat} {a b c d : Value}
    (h : Below W.heap.size W w1 ∧ w1.cell? ⟨k, 0, none⟩ = some a ∧ w1.cell? ⟨k, 1, none⟩ = some b ∧ w1.cell? ⟨m, 0, none⟩ = some c ∧ w1.cell? ⟨m, 1, none⟩ = some d) (o : Obj) :
    Below W.heap.size W (w1.alloc o) ∧ (w1.alloc o).cell? ⟨k, 0, none⟩ = some a ∧ (w1.alloc o).cell? ⟨k, 1, none⟩ = some b ∧ (w1.alloc o).cell? ⟨m, 0, none⟩ = some c ∧ (w1.alloc o).cell? ⟨m, 1, none⟩ = some d :=
  four_call h ((below_alloc (Below.refl _ _) _))

theorem four_start (w : World) (a b c d : Value) (t u : TypeId) :
    Below w.heap.size w ((w.alloc (.cells #[a, b] t)).alloc (.cells #[c, d] u)) ∧ ((w.alloc (.cells #[a, b] t)).alloc (.cells #[c, d] u)).cell? ⟨w.heap.size, 0, none⟩ = some a ∧
      ((w.alloc (.cells #[a, b] t)).alloc (.cells #[c, d] u)).cell? ⟨w.heap.size, 1, none⟩ = some b ∧ ((w.alloc (.cells #[a, b] t)).alloc (.cells #[c, d] u)).cell? ⟨w.heap.size + 1, 0, none⟩ = some c ∧
      ((w.alloc (.cells #[a, b] t)).alloc (.cells #[c, d] u)).cell? ⟨w.heap.size + 1, 1, none⟩ = some d :=
  ⟨below_alloc (below_alloc (Below.refl _ _) _) _, by simp, by simp, by simp, by simp⟩

theorem new_third (w : World) (o p : Obj) (x y : Value) (t : TypeId) :
    (((w.alloc o).alloc p).alloc (.cells #[x, y] t)).drew.cell? ⟨w.heap.size + 1 + 1, 0, none⟩ = some x ∧ (((w.alloc o).alloc p).alloc (.cells #[x, y] t)).drew.cell? ⟨w.heap.size + 1 + 1, 1, none⟩ = some y := by
  constructor
  · show (((w.alloc o).alloc p).alloc (.cells #[x, y] t)).cell? ⟨w.heap.size + 1 + 1, 0, none⟩ = _
    rw [World.cell?_alloc_at _ _ _ _ (by simp)]; rfl
  · show (((w.alloc o).alloc p).alloc (.cells #[x, y] t)).cell? ⟨w.heap.size + 1 + 1, 1, none⟩ = _
    rw [World.cell?_alloc_at _ _ _ _ (by simp)]; rfl

set_option maxRecDepth 100000 in
set_option maxHeartbeats 1000000 in
theorem compare_any (a b c d : Int) (w : World) :
    Calls Try.prog 20 #[.agg #[.int .u64 a, .int .u64 b], .agg #[.int .u64 c, .int .u64 d]] w fun e w' => e = .returned (.int .i64 (cmpC a b c d)) ∧ Below w.heap.size w w' := by
  have hs := four_start w (.int .u64 a) (.int .u64 b) (.int .u64 c) (.int .u64 d) 34 34
  have K := Lib.hid cmp_any
  have HO := Lib.hid or_any
  go_enter Try.func20, Try.ntmps20
  go_wp2_with fail
  go_region_held3 (fun w' => Below w.heap.size w w' ∧ w'.cell? ⟨w.heap.size, 0, none⟩ = some (.int .u64 a) ∧ w'.cell? ⟨w.heap.size, 1, none⟩ = some (.int .u64 b) ∧ w'.cell? ⟨w.heap.size + 1, 0, none⟩ = some (.int .u64 c) ∧ w'.cell? ⟨w.heap.size + 1, 1, none⟩ = some (.int .u64 d))
    (first
      | exact four_call (by assumption) (by assumption)
      | exact four_alloc (by assumption) _
      | exact four_drew (by assumption)
      | exact hs
      | assumption)
    (first
      | (go_at_call 26; refine (HO.out (cmpI a c) (cmpI b d) _ _ _ (new_third _ _ _ _ _ _).1 (new_third _ _ _ _ _ _).2).mono ?_; rintro en w' ⟨rfl, rfl⟩)
      | (go_at_call 27; refine (K.out _ _ _).mono ?_; rintro en w' ⟨rfl, rfl⟩))
  all_goals
    rename_i hE
    go_wp2_with fail
    go_ret
    exact ⟨rfl, hE.1⟩

theorem refPlus_any (a b c d l h : Int) (w : World) (ha : 0 ≤ a) (ha2 : a ≤ 4611686018427387904) (hb : 0 ≤ b) (hb2 : b ≤ 18446744073709551615) (hc : 0 ≤ c) (hc2 : c ≤ 4611686018427387904) (hd : 0 ≤ d) (hd2 : d ≤ 18446744073709551615)
    (hl : (b + d) % 18446744073709551616 = l) (hh : a + c + (b + d) / 18446744073709551616 = h) :
    Calls Try.prog 19 #[.int .u64 a, .int .u64 b, .int .u64 c, .int .u64 d] w (IsPair h l w) := by
  have K := Lib.hid (max_any w)
  by_cases hm : b + d ≤ 18446744073709551615
  · obtain rfl : b + d = l := by omega
    obtain rfl : a + c = h := by omega
    have ht : ¬ 18446744073709551615 - d < b := by omega
    clear hl hh
    go_enter Try.func19, Try.ntmps19
    go_wp2_with fail
    refine K.out.mono ?_
    rintro e w' ⟨rfl, rfl⟩
    go_wp2_with fail
    go_ret2
    exact ⟨rfl, rfl⟩
  · have hw : IntKind.u64.wrap (b + d) = l := by rw [wrap_u64]; exact hl
    obtain rfl : a + c + 1 = h := by omega
    have ht : 18446744073709551615 - d < b := by omega
    clear hl hh hm
    go_enter Try.func19, Try.ntmps19
    go_wp2_with fail
    refine K.out.mono ?_
    rintro e w' ⟨rfl, rfl⟩
    go_wp2_with fail
    go_ret2
    exact ⟨rfl, rfl⟩

theorem cmpC_lt {a b c d : Int} (h : a < c) : cmpC a b c d = -1 := by unfold cmpC cmpI; rw [if_pos h]; rfl
theorem cmpC_gt {a b c d : Int} (h : c < a) : cmpC a b c d = 1 := by unfold cmpC cmpI; rw [if_neg (by omega), if_pos h]; rfl
theorem cmpC_eq {a b d : Int} : cmpC a b a d = cmpI b d := by unfold cmpC; rw [show cmpI a a = 0 by unfold cmpI; simp]; rfl
theorem cmpI_lt {a b : Int} (h : a < b) : cmpI a b = -1 := by unfold cmpI; rw [if_pos h]
theorem cmpI_gt {a b : Int} (h : b < a) : cmpI a b = 1 := by unfold cmpI; rw [if_neg (by omega), if_pos h]
theorem cmpI_eq {a : Int} : cmpI a a = 0 := by unfold cmpI; simp

theorem ret_num {k : IntKind} {a b : Int} (h : a = b) : Ending.returned (.int k a) = .returned (.int k b) := by rw [h]

theorem refCompare_any (a b c d : Int) (w : World) :
    Calls Try.prog 21 #[.int .u64 a, .int .u64 b, .int .u64 c, .int .u64 d] w fun e w' => e = .returned (.int .i64 (cmpC a b c d)) ∧ w' = w := by
  by_cases h1 : a < c
  · have HC := Lib.hid (cmpC_lt (b := b) (d := d) h1)
    go_enter Try.func21, Try.ntmps21
    go_wp2_with fail
    go_ret
    exact ⟨ret_num HC.out.symm, rfl⟩
  · by_cases h2 : c < a
    · have HC := Lib.hid (cmpC_gt (b := b) (d := d) h2)
      have hb : (a == c) = false := by simp; omega
      go_enter Try.func21, Try.ntmps21
      go_wp2_with fail
      go_ret
      exact ⟨ret_num HC.out.symm, rfl⟩
    · obtain rfl : a = c := by omega
      have HC := Lib.hid (cmpC_eq (a := a) (b := b) (d := d))
      clear h1 h2
      by_cases h1 : b < d
      · have HI := Lib.hid (cmpI_lt h1)
        go_enter Try.func21, Try.ntmps21
        go_wp2_with fail
        go_ret
        exact ⟨ret_num (HC.out.trans HI.out).symm, rfl⟩
      · by_cases h2 : d < b
        · have HI := Lib.hid (cmpI_gt h2)
          have hb : (b == d) = false := by simp; omega
          go_enter Try.func21, Try.ntmps21
          go_wp2_with fail
          go_ret
          exact ⟨ret_num (HC.out.trans HI.out).symm, rfl⟩
        · obtain rfl : b = d := by omega
          have HI := Lib.hid (cmpI_eq (a := b))
          clear h1 h2
          go_enter Try.func21, Try.ntmps21
          go_wp2_with fail
          go_ret
          exact ⟨ret_num (HC.out.trans HI.out).symm, rfl⟩

theorem cmpC_swap (a b c d : Int) : IntKind.i64.wrap (-cmpC a b c d) = cmpC c d a b := by
  have hr : ∀ x y, IntKind.i64.wrap (-cmpI x y) = cmpI y x := by
    intro x y
    unfold cmpI
    by_cases h1 : x < y
    · rw [if_pos h1, if_neg (by omega), if_pos h1]; rfl
    · by_cases h2 : y < x
      · rw [if_neg h1, if_pos h2, if_pos h2]; rfl
      · rw [if_neg h1, if_neg h2, if_neg h2, if_neg h1]; rfl
  by_cases h1 : a < c
  · rw [cmpC_lt h1, cmpC_gt h1]; rfl
  · by_cases h2 : c < a
    · rw [cmpC_gt h2, cmpC_lt h2]; rfl
    · obtain rfl : a = c := by omega
      rw [cmpC_eq, cmpC_eq]; exact hr b d

theorem cmpC_sum (a b c d l h : Int) (hc : 0 ≤ c) (hb : 0 ≤ b) (hd : 0 ≤ d) (hb2 : b ≤ 18446744073709551615)
    (hl : (b + d) % 18446744073709551616 = l) (hh : a + c + (b + d) / 18446744073709551616 = h) : 0 ≤ cmpC h l a b := by
  by_cases h1 : a < h
  · rw [cmpC_gt h1]; decide
  · obtain rfl : a = h := by omega
    rw [cmpC_eq]
    unfold cmpI
    rw [if_neg (by omega)]
    split <;> decide
end Go.Proofs.Ytomjjjjjmknhkaa
