/- Counts, ranks and parts of lists of intervals: plain mathematics. No conditions. -/
import Derived.Test.YtnihmmhmndgagaaOAlg
namespace Go.Proofs.Ytnihmmhmndgagaa
/-- How many numbers are in a list. -/
def cntL : List Iv → Int
  | [] => 0
  | y :: l => (y.2 - y.1 + 1) + cntL l
/-- How many numbers of an interval are less than another one. -/
def rankI (y : Iv) (x : Int) : Int := if y.1 < x then (if y.2 < x then y.2 - y.1 + 1 else x - y.1) else 0
def rankL : List Iv → Int → Int
  | [], _ => 0
  | y :: l, x => rankI y x + rankL l x
/-- The number with a rank. -/
def nthL : List Iv → Int → Option Int
  | [], _ => none
  | y :: l, n => if n ≤ y.2 - y.1 then some (y.1 + n) else nthL l (n - (y.2 - y.1) - 1)
/-- The parts of a list below a number, and from it on. -/
def loL : List Iv → Int → List Iv
  | [], _ => []
  | y :: l, x => if y.2 < x then y :: loL l x else if x ≤ y.1 then loL l x else (y.1, x - 1) :: loL l x
def hiL : List Iv → Int → List Iv
  | [], _ => []
  | y :: l, x => if y.2 < x then hiL l x else if x ≤ y.1 then y :: hiL l x else (x, y.2) :: hiL l x
def splitA (l : List Iv) (n : Int) : List Iv := match nthL l n with | none => l | some x => loL l x
def splitB (l : List Iv) (n : Int) : List Iv := match nthL l n with | none => [] | some x => hiL l x
theorem rankI_nn {y : Iv} (h : y.1 ≤ y.2) (x : Int) : 0 ≤ rankI y x := by unfold rankI; split <;> (try split) <;> omega
theorem cnt_nn : ∀ {l : List Iv}, (∀ y ∈ l, y.1 ≤ y.2) → 0 ≤ cntL l
  | [], _ => Int.le_refl _
  | y :: l, h => by
    have h1 := h y (by simp)
    have h2 := cnt_nn (l := l) fun z hz => h z (by simp [hz])
    simp only [cntL]; omega
theorem rank_nn {x : Int} : ∀ {l : List Iv}, (∀ y ∈ l, y.1 ≤ y.2) → 0 ≤ rankL l x
  | [], _ => Int.le_refl _
  | y :: l, h => by
    have h1 := rankI_nn (h y (by simp)) x
    have h2 := rank_nn (x := x) (l := l) fun z hz => h z (by simp [hz])
    simp only [rankL]; omega
/-- At most as many numbers as from the first on. -/
theorem cnt_bound : ∀ {l : List Iv} {b U : Int}, canon l → (∀ y ∈ l, y.2 ≤ U) → (∀ y, l.head? = some y → b < y.1) → b ≤ U → cntL l ≤ U - b
  | [], b, U, _, _, _, h => by simp only [cntL]; omega
  | y :: l, b, U, ⟨h1, h2, h3⟩, hU, hb, _ => by
    have hy := hU y (by simp)
    have hb := hb y rfl
    have ih := cnt_bound (b := y.2) h3 (fun z hz => hU z (by simp [hz])) (fun z hz => by have := h2 z hz; omega) hy
    simp only [cntL]; omega
theorem rank_zero {x : Int} : ∀ {l : List Iv}, (∀ y ∈ l, x ≤ y.1) → rankL l x = 0
  | [], _ => rfl
  | y :: l, h => by
    have h1 := h y (by simp)
    have ih := rank_zero (x := x) (l := l) fun z hz => h z (by simp [hz])
    simp only [rankL, ih]
    unfold rankI; rw [if_neg (by omega)]; rfl
theorem rank_le_cnt {x : Int} : ∀ {l : List Iv}, (∀ y ∈ l, y.1 ≤ y.2) → rankL l x ≤ cntL l
  | [], _ => Int.le_refl _
  | y :: l, h => by
    have h1 := h y (by simp)
    have ih := rank_le_cnt (x := x) (l := l) fun z hz => h z (by simp [hz])
    simp only [rankL, cntL]
    unfold rankI; split <;> (try split) <;> omega
/-- Behind the first interval that reaches beyond a number, nothing counts. -/
theorem rank_stop {y : Iv} {l : List Iv} (h : canon (y :: l)) {x : Int} (hx : x ≤ y.2 + 1) : rankL l x = 0 :=
  rank_zero fun z hz => by have := canon_behind l _ h.2.2 h.2.1 z hz; omega
theorem rank_next : ∀ {l : List Iv}, (∀ y ∈ l, y.1 ≤ y.2) → canon l → ∀ x : Int, rankL l (x + 1) = rankL l x + if hasL l x then 1 else 0
  | [], _, _, x => by simp [rankL, hasL]
  | y :: l, h, ⟨h1, h2, h3⟩, x => by
    have ih := rank_next (l := l) (fun z hz => h z (by simp [hz])) h3 x
    have hcb := canon_behind l _ h3 h2
    simp only [rankL, ih]
    have e : hasL (y :: l) x = (inI y x || hasL l x) := rfl
    rw [e]
    by_cases c : inI y x = true
    · have c' := (inI_iff _ _).1 c
      have hl : hasL l x = false := by
        rw [Bool.eq_false_iff]
        intro hh
        obtain ⟨z, hz, h4, h5⟩ := (hasL_iff _ _).1 hh
        have := hcb z hz; omega
      rw [c, hl]
      unfold rankI
      rw [if_pos (show y.1 < x + 1 by omega)]
      simp only [Bool.true_or, if_true, Bool.false_eq_true, if_false]
      by_cases d : y.1 < x
      · rw [if_pos d, if_neg (show ¬ y.2 < x by omega)]
        split <;> omega
      · rw [if_neg d]
        split <;> omega
    · rw [show inI y x = false by simpa using c, Bool.false_or]
      have c' : ¬ (y.1 ≤ x ∧ x ≤ y.2) := fun hh => c ((inI_iff _ _).2 hh)
      have : rankI y (x + 1) = rankI y x := by unfold rankI; (repeat' split) <;> omega
      omega
theorem nth_lt : ∀ {l : List Iv} {n : Int}, (∀ y ∈ l, y.1 ≤ y.2) → 0 ≤ n → ((nthL l n).isSome = true ↔ n < cntL l)
  | [], n, _, h0 => by simp [nthL, cntL]; omega
  | y :: l, n, h, h0 => by
    have h1 := h y (by simp)
    have hl : ∀ z ∈ l, z.1 ≤ z.2 := fun z hz => h z (by simp [hz])
    have hc := cnt_nn hl
    unfold nthL
    by_cases c : n ≤ y.2 - y.1
    · rw [if_pos c]; simp only [cntL]; simp; omega
    · rw [if_neg c, nth_lt hl (by omega)]; simp only [cntL]; omega
/-- The number with a rank is in the list, and the rank is its own. -/
theorem nth_spec : ∀ {l : List Iv} {n x : Int}, canon l → 0 ≤ n → nthL l n = some x → hasL l x = true ∧ rankL l x = n ∧ (∀ b, (∀ y, l.head? = some y → b < y.1) → b < x)
  | [], n, x, _, _, h => by cases h
  | y :: l, n, x, ⟨h1, h2, h3⟩, h0, h => by
    have e : hasL (y :: l) x = (inI y x || hasL l x) := rfl
    unfold nthL at h
    by_cases c : n ≤ y.2 - y.1
    · rw [if_pos c] at h
      obtain rfl := Option.some.inj h
      refine ⟨?_, ?_, fun b hb => by have := hb y rfl; omega⟩
      · rw [e, show inI y (y.1 + n) = true from (inI_iff _ _).2 (by omega)]; rfl
      · simp only [rankL]
        rw [rank_stop (l := l) ⟨h1, h2, h3⟩ (by omega)]
        unfold rankI
        by_cases d : y.1 < y.1 + n
        · rw [if_pos d, if_neg (by omega)]; omega
        · rw [if_neg d]; omega
    · rw [if_neg c] at h
      obtain ⟨k1, k2, k3⟩ := nth_spec h3 (by omega) h
      have hx := k3 (y.2 + 1) h2
      refine ⟨by rw [e, k1, Bool.or_true], ?_, fun b hb => by have := hb y rfl; omega⟩
      simp only [rankL, k2]
      unfold rankI
      rw [if_pos (by omega), if_pos (by omega)]; omega
section
variable {x U : Int}
theorem lo_hi_cnt : ∀ {l : List Iv}, (∀ y ∈ l, y.1 ≤ y.2) → cntL (loL l x) + cntL (hiL l x) = cntL l
  | [], _ => rfl
  | y :: l, h => by
    have ih := lo_hi_cnt (l := l) fun z hz => h z (by simp [hz])
    simp only [loL, hiL]
    by_cases c : y.2 < x
    · rw [if_pos c, if_pos c]; simp only [cntL]; omega
    · rw [if_neg c, if_neg c]
      by_cases d : x ≤ y.1
      · rw [if_pos d, if_pos d]; simp only [cntL]; omega
      · rw [if_neg d, if_neg d]; simp only [cntL]; omega
theorem lo_head {l : List Iv} {b : Int} (hc : canon l) (hb : ∀ y, l.head? = some y → b < y.1) : ∀ z, (loL l x).head? = some z → b < z.1 := by
  induction l with
  | nil => intro z h; cases h
  | cons y l ih =>
    intro z hz
    obtain ⟨h1, h2, h3⟩ := hc
    have hby := hb y rfl
    simp only [loL] at hz
    by_cases c : y.2 < x
    · rw [if_pos c] at hz; cases hz; exact hby
    · rw [if_neg c] at hz
      by_cases d : x ≤ y.1
      · rw [if_pos d] at hz
        exact ih h3 (fun u hu => by have := h2 u hu; omega) z hz
      · rw [if_neg d] at hz; cases hz; exact hby
theorem lo_canon : ∀ {l : List Iv}, canon l → canon (loL l x)
  | [], _ => trivial
  | y :: l, ⟨h1, h2, h3⟩ => by
    have ih := lo_canon h3
    have hh := lo_head (x := x) h3 h2
    simp only [loL]
    by_cases c : y.2 < x
    · rw [if_pos c]; exact ⟨h1, hh, ih⟩
    · rw [if_neg c]
      by_cases d : x ≤ y.1
      · rw [if_pos d]; exact ih
      · rw [if_neg d]
        exact ⟨by simp only; omega, fun z hz => by have := hh z hz; simp only; omega, ih⟩
theorem hi_head {l : List Iv} {b : Int} (hc : canon l) (hb : ∀ y, l.head? = some y → b < y.1) : ∀ z, (hiL l x).head? = some z → b < z.1 := by
  induction l with
  | nil => intro z h; cases h
  | cons y l ih =>
    intro z hz
    obtain ⟨h1, h2, h3⟩ := hc
    have hby := hb y rfl
    simp only [hiL] at hz
    by_cases c : y.2 < x
    · rw [if_pos c] at hz
      exact ih h3 (fun u hu => by have := h2 u hu; omega) z hz
    · rw [if_neg c] at hz
      by_cases d : x ≤ y.1
      · rw [if_pos d] at hz; cases hz; exact hby
      · rw [if_neg d] at hz; cases hz; simp only; omega
theorem hi_canon : ∀ {l : List Iv}, canon l → canon (hiL l x)
  | [], _ => trivial
  | y :: l, ⟨h1, h2, h3⟩ => by
    have ih := hi_canon h3
    have hh := hi_head (x := x) h3 h2
    simp only [hiL]
    by_cases c : y.2 < x
    · rw [if_pos c]; exact ih
    · rw [if_neg c]
      by_cases d : x ≤ y.1
      · rw [if_pos d]; exact ⟨h1, hh, ih⟩
      · rw [if_neg d]; exact ⟨by simp only; omega, hh, ih⟩
theorem lo_ok : ∀ {l : List Iv}, okL U l → okL U (loL l x)
  | [], _ => fun y h => by cases h
  | y :: l, h => by
    have h1 := h y (by simp)
    have ih := lo_ok (l := l) fun z hz => h z (by simp [hz])
    simp only [loL]
    by_cases c : y.2 < x
    · rw [if_pos c]; intro z hz; rcases List.mem_cons.1 hz with rfl | hz
      · exact h1
      · exact ih z hz
    · rw [if_neg c]
      by_cases d : x ≤ y.1
      · rw [if_pos d]; exact ih
      · rw [if_neg d]; intro z hz; rcases List.mem_cons.1 hz with rfl | hz
        · exact ⟨h1.1, by simp only; omega, by simp only; omega⟩
        · exact ih z hz
theorem hi_ok : ∀ {l : List Iv}, okL U l → okL U (hiL l x)
  | [], _ => fun y h => by cases h
  | y :: l, h => by
    have h1 := h y (by simp)
    have ih := hi_ok (l := l) fun z hz => h z (by simp [hz])
    simp only [hiL]
    by_cases c : y.2 < x
    · rw [if_pos c]; exact ih
    · rw [if_neg c]
      by_cases d : x ≤ y.1
      · rw [if_pos d]; intro z hz; rcases List.mem_cons.1 hz with rfl | hz
        · exact h1
        · exact ih z hz
      · rw [if_neg d]; intro z hz; rcases List.mem_cons.1 hz with rfl | hz
        · exact ⟨by simp only; omega, by simp only; omega, h1.2.2⟩
        · exact ih z hz
theorem lo_len : ∀ l : List Iv, (loL l x).length ≤ l.length
  | [] => Nat.le_refl _
  | y :: l => by
    have ih := lo_len l
    simp only [loL]
    split
    · simp; omega
    · split <;> simp <;> omega
theorem hi_len : ∀ l : List Iv, (hiL l x).length ≤ l.length
  | [] => Nat.le_refl _
  | y :: l => by
    have ih := hi_len l
    simp only [hiL]
    split
    · simp; omega
    · split <;> simp <;> omega
theorem lo_below : ∀ l : List Iv, ∀ y ∈ loL l x, y.2 < x
  | [], y, h => by cases h
  | z :: l, y, h => by
    have ih := lo_below l
    simp only [loL] at h
    by_cases c : z.2 < x
    · rw [if_pos c] at h; rcases List.mem_cons.1 h with rfl | h
      · exact c
      · exact ih y h
    · rw [if_neg c] at h
      by_cases d : x ≤ z.1
      · rw [if_pos d] at h; exact ih y h
      · rw [if_neg d] at h; rcases List.mem_cons.1 h with rfl | h
        · simp only; omega
        · exact ih y h
theorem hi_from : ∀ l : List Iv, ∀ y ∈ hiL l x, x ≤ y.1
  | [], y, h => by cases h
  | z :: l, y, h => by
    have ih := hi_from l
    simp only [hiL] at h
    by_cases c : z.2 < x
    · rw [if_pos c] at h; exact ih y h
    · rw [if_neg c] at h
      by_cases d : x ≤ z.1
      · rw [if_pos d] at h; rcases List.mem_cons.1 h with rfl | h
        · exact d
        · exact ih y h
      · rw [if_neg d] at h; rcases List.mem_cons.1 h with rfl | h
        · exact Int.le_refl _
        · exact ih y h
theorem hi_some : ∀ {l : List Iv}, hasL l x = true → hiL l x ≠ []
  | [], h => by cases h
  | y :: l, h => by
    have e : hasL (y :: l) x = (inI y x || hasL l x) := rfl
    rw [e] at h
    simp only [hiL]
    by_cases c : y.2 < x
    · rw [if_pos c]
      refine hi_some ?_
      have : inI y x = false := by unfold inI; simp; omega
      rw [this, Bool.false_or] at h; exact h
    · rw [if_neg c]
      by_cases d : x ≤ y.1
      · rw [if_pos d]; simp
      · rw [if_neg d]; simp
end
theorem splitA_good {l : List Iv} (h : GoodL l) (n : Int) : GoodL (splitA l n) := by
  unfold splitA; split
  · exact h
  · exact ⟨lo_canon h.can, lo_ok h.ok⟩
theorem splitB_good {l : List Iv} (h : GoodL l) (n : Int) : GoodL (splitB l n) := by
  unfold splitB; split
  · exact good_nil
  · exact ⟨hi_canon h.can, hi_ok h.ok⟩
theorem splitA_len (l : List Iv) (n : Int) : (splitA l n).length ≤ l.length := by
  unfold splitA; split
  · exact Nat.le_refl _
  · exact lo_len l
theorem splitB_len (l : List Iv) (n : Int) : (splitB l n).length ≤ l.length := by
  unfold splitB; split
  · exact Nat.zero_le _
  · exact hi_len l
theorem GoodL.ord6 {l : List Iv} (h : GoodL l) : ∀ y ∈ l, y.1 ≤ y.2 := fun y hy => (h.ok y hy).2.1
theorem split_cnt {l : List Iv} (h : GoodL l) (n : Int) : cntL (splitA l n) + cntL (splitB l n) = cntL l := by
  unfold splitA splitB
  cases nthL l n with
  | none => simp [cntL]
  | some x => exact lo_hi_cnt h.ord6
theorem split_apart {l : List Iv} (n : Int) : ∀ y ∈ splitA l n, ∀ z ∈ splitB l n, y.2 < z.1 := by
  unfold splitA splitB
  cases nthL l n with
  | none => intro _ _ z hz; cases hz
  | some x => intro y hy z hz; have := lo_below l y hy; have := hi_from l z hz; omega
theorem splitB_some {l : List Iv} (h : GoodL l) {n : Int} (h0 : 0 ≤ n) : splitB l n ≠ [] ↔ n < cntL l := by
  rw [← nth_lt h.ord6 h0]
  unfold splitB
  cases e : nthL l n with
  | none => simp
  | some x => simp; exact hi_some (nth_spec h.can h0 e).1
/-- At most 2^64 numbers. -/
theorem cnt_max {l : List Iv} (h : GoodL l) : 0 ≤ cntL l ∧ cntL l ≤ UM + 1 := by
  refine ⟨cnt_nn h.ord6, ?_⟩
  have := cnt_bound (b := -1) h.can (fun y hy => (h.ok y hy).2.2) (fun y hy => by have := h.ok y (List.mem_of_mem_head? hy); omega) (by unfold UM; omega)
  omega
theorem rank_max {l : List Iv} (h : GoodL l) (x : Int) : 0 ≤ rankL l x ∧ rankL l x ≤ UM + 1 :=
  ⟨rank_nn h.ord6, Int.le_trans (rank_le_cnt h.ord6) (cnt_max h).2⟩
end Go.Proofs.Ytnihmmhmndgagaa
