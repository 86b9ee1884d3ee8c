/- The reference's order of vectors. Conditions: as each theorem says. -/
import Derived.Test.YtgeggdaokjimjaaDoorPNums
namespace Go.Proofs.YtgeggdaokjimjaaDoor
open Go.RowKit
/-- The order of lists of numbers. -/
def cmpL : List Int → List Int → Int
  | [], [] => 0
  | [], _ :: _ => -1
  | _ :: _, [] => 1
  | x :: a, y :: b => if x < y then -1 else if y < x then 1 else cmpL a b
theorem cmpL_drop : ∀ (k : Nat) (A B : List Int), k ≤ A.length → k ≤ B.length → (∀ j, j < k → A[j]? = B[j]?) → cmpL A B = cmpL (A.drop k) (B.drop k)
  | 0, _, _, _, _, _ => rfl
  | k + 1, x :: a, y :: b, ha, hb, h => by
    have h0 : x = y := by simpa using h 0 (by omega)
    subst h0
    rw [List.drop_succ_cons, List.drop_succ_cons, ← cmpL_drop k a b (by simpa using ha) (by simpa using hb) fun j hj => by simpa using h (j + 1) (by omega)]
    show (if x < x then -1 else if x < x then 1 else cmpL a b) = _
    rw [if_neg (by omega), if_neg (by omega)]
  | k + 1, [], _, ha, _, _ => by simp at ha
  | k + 1, _ :: _, [], _, hb, _ => by simp at hb
theorem cmpL_at {A B : List Int} {k : Nat} {x y : Int} (hx : A[k]? = some x) (hy : B[k]? = some y) (h : ∀ j, j < k → A[j]? = B[j]?) : cmpL A B = if x < y then -1 else if y < x then 1 else cmpL (A.drop (k + 1)) (B.drop (k + 1)) := by
  obtain ⟨hka, ea⟩ := List.getElem?_eq_some_iff.1 hx
  obtain ⟨hkb, eb⟩ := List.getElem?_eq_some_iff.1 hy
  rw [cmpL_drop k A B (by omega) (by omega) h, List.drop_eq_getElem_cons hka, List.drop_eq_getElem_cons hkb, ea, eb]
  rfl
theorem cmpL_end {A B : List Int} {k : Nat} (hk : k = A.length ∨ k = B.length) (ha : k ≤ A.length) (hb : k ≤ B.length) (h : ∀ j, j < k → A[j]? = B[j]?) : cmpL A B = if A.length < B.length then -1 else if B.length < A.length then 1 else 0 := by
  rw [cmpL_drop k A B ha hb h]
  have la : (A.drop k).length = A.length - k := List.length_drop
  have lb : (B.drop k).length = B.length - k := List.length_drop
  match hA : A.drop k, hB : B.drop k with
  | [], [] =>
    rw [hA] at la; rw [hB] at lb
    simp at la lb
    rw [if_neg (by omega), if_neg (by omega)]; rfl
  | [], y :: b =>
    rw [hA] at la; rw [hB] at lb
    simp at la lb
    rw [if_pos (by omega)]; rfl
  | x :: a, [] =>
    rw [hA] at la; rw [hB] at lb
    simp at la lb
    rw [if_neg (by omega), if_pos (by omega)]; rfl
  | x :: a, y :: b =>
    rw [hA] at la; rw [hB] at lb
    simp at la lb
    omega
theorem nums_len {V : List (Int × Int × List Iv)} {w : World} {v : Value} (hv : VecM w v V) : 0 < (numsV V).length ∧ (numsV V).length ≤ 1000300001 := by
  have h := flat_len V fun x hx => by
    obtain ⟨i, hi⟩ := List.mem_iff_getElem?.1 hx
    obtain ⟨_, _, _, _, _, _, _, _, _, _, ha⟩ := hv.elem (r := x.1) (m := x.2.1) (H := x.2.2) hi
    exact ha.len
  have := hv.len
  unfold numsV
  rw [List.length_cons]
  omega
theorem nm_at {L : List Int} {i : Nat} {x : Int} (h : L[i]? = some x) : (nmC L)[i]? = some (.int .u64 x) := by unfold nmC; rw [List.getElem?_map, h]; rfl
set_option maxRecDepth 100000 in
set_option maxHeartbeats 4000000 in
theorem refCompare9_any (V V' : List (Int × Int × List Iv)) (v v' : Value) (w : World) (hv : VecM w v V) (hv' : VecM w v' V') : Calls Tryd.prog 25 #[v, v'] w (IsInt (cmpL (numsV V) (numsV V')) w) := by
  obtain ⟨p, cap, rfl⟩ := hv.shape
  obtain ⟨p', cap', rfl⟩ := hv'.shape
  have hl := nums_len hv
  have hl' := nums_len hv'
  have K := Lib.hid (refNumbers9_any V _ w hv)
  have K' := Lib.hid (fun W hb => refNumbers9_any V' _ W (hv'.call (w' := W) hb))
  clear hv hv'
  obtain ⟨A, hA⟩ : ∃ A, numsV V = A := ⟨_, rfl⟩
  obtain ⟨B, hB⟩ : ∃ B, numsV V' = B := ⟨_, rfl⟩
  rw [hA] at hl K ⊢
  rw [hB] at hl' K' ⊢
  clear hA hB
  obtain ⟨na, hna⟩ : ∃ na, A.length = na + 1 := ⟨A.length - 1, by omega⟩
  obtain ⟨nb, hnb⟩ : ∃ nb, B.length = nb + 1 := ⟨B.length - 1, by omega⟩
  have ha9 : na ≤ 1000300001 := by omega
  have hb9 : nb ≤ 1000300001 := by omega
  have HNA := Lib.hid hna; have HNB := Lib.hid hnb
  clear hl hl' hna hnb
  go_enter Tryd.func25, Tryd.ntmps25
  go_wp2_with fail
  refine K.out.mono ?_
  rintro e w1 ⟨va, rfl, hoa, h⟩
  have hra : w1.ownsRow w.heap.size 34 1 va A.length (nmC A) := hoa
  rw [HNA.out] at hra
  obtain ⟨ga, ca, rfl⟩ := ownsRow_succ hra
  have HK' := Lib.hid (K'.out w1 h)
  have HRA := Lib.hid hra
  have H1 := Lib.hid h; clear h hoa hra K'
  go_wp2_with fail
  refine HK'.out.mono ?_
  rintro e w2 ⟨vb, rfl, hob, h⟩
  have hrb : w2.ownsRow w1.heap.size 34 1 vb B.length (nmC B) := hob
  rw [HNB.out] at hrb
  obtain ⟨gb, cb, rfl⟩ := ownsRow_succ hrb
  have HRB := Lib.hid hrb
  have HRA2 := Lib.hid (own_below HRA.out h)
  have H2 := Lib.hid (below_call H1.out h); clear h hob hrb HRA H1
  go_wp2_with fail
  go_loopw [7] (fun i wr => ∃ k : Nat, i = .int .i64 k ∧ k ≤ na + 1 ∧ k ≤ nb + 1 ∧ (∀ j, j < k → A[j]? = B[j]?) ∧ Below w2.heap.size w2 wr) (fun i _ => na + 1 - (intOf i).toNat)
  case atStart => exact ⟨0, rfl, Nat.zero_le _, Nat.zero_le _, fun j hj => absurd hj (Nat.not_lt_zero j), Below.refl _ _⟩
  case round =>
    obtain ⟨k, rfl, hka, hkb, hbef, hb⟩ := hrel
    have HBF := Lib.hid hbef; clear hbef
    have HB := Lib.hid (below_call H2.out hb)
    have hRA := own_below HRA2.out hb
    have hRB := own_below HRB.out hb
    have HBW := Lib.hid hb; clear hb
    have i1 : (0 : Int) ≤ (k : Int) := by omega
    by_cases hlt : k < na + 1 ∧ k < nb + 1
    · have i2 : (k : Int) < (na : Int) + 1 := by omega
      have i3 : (k : Int) < (nb : Int) + 1 := by omega
      have i4 : k < na + 1 := hlt.1
      have i5 : k < nb + 1 := hlt.2
      obtain ⟨x, hx⟩ : ∃ x, A[k]? = some x := ⟨A[k]'(by rw [HNA.out]; exact hlt.1), by simp⟩
      obtain ⟨y, hy⟩ : ∃ y, B[k]? = some y := ⟨B[k]'(by rw [HNB.out]; exact hlt.2), by simp⟩
      have cx : World.cell? wr ⟨ga, k, none⟩ = some (.int .u64 x) := by rw [hRA.cellAt k (by omega)]; exact nm_at hx
      have cy : World.cell? wr ⟨gb, k, none⟩ = some (.int .u64 y) := by rw [hRB.cellAt k (by omega)]; exact nm_at hy
      have HC := Lib.hid (cmpL_at hx hy HBF.out)
      have HXY := Lib.hid (And.intro hx hy)
      clear hx hy hRA hRB hlt
      by_cases h1 : x < y
      · have e1 : decide (x < y) = true := by simpa using h1
        rw [if_pos h1] at HC
        clear h1
        go_wp2_with fail
        go_quiet (fail)
        go_wp2_with fail
        go_ret
        exact ⟨by rw [HC.out]; rfl, below_drewN HB.out _⟩
      · have e1 : decide (x < y) = false := by simpa using h1
        rw [if_neg h1] at HC
        by_cases h2 : y < x
        · have e2 : decide (y < x) = true := by simpa using h2
          rw [if_pos h2] at HC
          clear h1 h2
          go_wp2_with fail
          go_quiet (fail)
          go_wp2_with fail
          go_quiet (fail)
          go_wp2_with fail
          go_ret
          exact ⟨by rw [HC.out]; rfl, by first | exact below_drewN HB.out _ | exact below_drewN (below_drewN HB.out _) _⟩
        · have e2 : decide (y < x) = false := by simpa using h2
          have hxy : x = y := by omega
          have HE := Lib.hid hxy
          clear h1 h2 hxy HC
          go_wp2_with fail
          go_quiet (fail)
          go_wp2_with fail
          go_quiet (fail)
          go_wp2_with fail
          go_roundw
          case rel => exact ⟨k + 1, by go_num, by omega, by omega, fun j hj => by
            rcases Nat.lt_or_eq_of_le (Nat.le_of_lt_succ hj) with h | h
            · exact HBF.out j h
            · subst h
              rw [HXY.out.1, HXY.out.2, HE.out], below_drewN HBW.out _⟩
          case measure => simp [intOf]; omega
    · have HC := Lib.hid (cmpL_end (A := A) (B := B) (k := k) (by rw [HNA.out, HNB.out]; omega) (by rw [HNA.out]; exact hka) (by rw [HNB.out]; exact hkb) HBF.out)
      rw [HNA.out, HNB.out] at HC
      clear hRA hRB
      have d1 : (k : Int) < (na : Int) + 1 ∨ ¬ (k : Int) < (na : Int) + 1 := by omega
      rcases d1 with d1 | d1
      · have d2 : ¬ (k : Int) < (nb : Int) + 1 := by omega
        have f1 : ¬ (na : Int) + 1 < (nb : Int) + 1 := by omega
        have f2 : (nb : Int) + 1 < (na : Int) + 1 := by omega
        rw [if_neg (by omega), if_pos (by omega)] at HC
        go_wp2_with fail
        go_ret
        exact ⟨by rw [HC.out]; rfl, HB.out⟩
      · by_cases f1 : (na : Int) + 1 < (nb : Int) + 1
        · rw [if_pos (by omega)] at HC
          go_wp2_with fail
          go_ret
          exact ⟨by rw [HC.out]; rfl, HB.out⟩
        · have f2 : ¬ (nb : Int) + 1 < (na : Int) + 1 := by omega
          rw [if_neg (by omega), if_neg (by omega)] at HC
          go_wp2_with fail
          go_ret
          exact ⟨by rw [HC.out]; rfl, HB.out⟩
end Go.Proofs.YtgeggdaokjimjaaDoor
