/- Lists of intervals as sets of numbers: plain mathematics. No conditions. -/
import Derived.Test.YtnihmmhmndgagaaLaw
namespace Go.Proofs.Ytnihmmhmndgagaa
abbrev Iv := Int × Int
def inI (y : Iv) (x : Int) : Bool := decide (y.1 ≤ x) && decide (x ≤ y.2)
def hasL (l : List Iv) (x : Int) : Bool := l.any fun y => inI y x
theorem inI_iff (y : Iv) (x : Int) : inI y x = true ↔ y.1 ≤ x ∧ x ≤ y.2 := by unfold inI; simp
theorem hasL_iff (l : List Iv) (x : Int) : hasL l x = true ↔ ∃ y ∈ l, y.1 ≤ x ∧ x ≤ y.2 := by
  unfold hasL; rw [List.any_eq_true]; simp only [inI_iff]
/-- What is wrong with the interval at a place: 0 if nothing is. -/
def badAt (l : List Iv) (k : Nat) : Int :=
  match l[k]? with
  | none => 0
  | some x => if x.1 ≤ x.2 then (if k = 0 then 0 else match l[k - 1]? with | none => 0 | some y => if y.2 + 1 < x.1 then 0 else 3) else 2
/-- The error of a list and its place. -/
def chkL (l : List Iv) : Option (Int × Nat) := (List.range l.length).findSome? fun k => if badAt l k = 0 then none else some (badAt l k, k)
theorem chk_none {l : List Iv} (h : ∀ k, k < l.length → badAt l k = 0) : chkL l = none := by
  unfold chkL
  rw [List.findSome?_eq_none_iff]
  intro k hk
  rw [if_pos (h k (by simpa using hk))]
theorem chk_some {l : List Iv} {k : Nat} (hk : k < l.length) (h : ∀ j, j < k → badAt l j = 0) (hb : badAt l k ≠ 0) : chkL l = some (badAt l k, k) := by
  unfold chkL
  obtain ⟨m, hm⟩ : ∃ m, l.length = k + (m + 1) := ⟨l.length - k - 1, by omega⟩
  rw [hm, List.range_add, List.findSome?_append]
  have h1 : (List.range k).findSome? (fun k => if badAt l k = 0 then none else some (badAt l k, k)) = none := by
    rw [List.findSome?_eq_none_iff]
    intro j hj
    rw [if_pos (h j (by simpa using hj))]
  rw [h1, List.range_succ_eq_map, List.map_cons, List.findSome?_cons, if_neg (by simpa using hb)]
  rfl
theorem chk_none_all {l : List Iv} (h : chkL l = none) : ∀ k, k < l.length → badAt l k = 0 := by
  intro k hk
  unfold chkL at h
  rw [List.findSome?_eq_none_iff] at h
  have := h k (by simpa using hk)
  by_cases e : badAt l k = 0
  · exact e
  · rw [if_neg e] at this; cases this
theorem bad_inverted {l : List Iv} {k : Nat} {x : Iv} (h : l[k]? = some x) (hx : ¬ x.1 ≤ x.2) : badAt l k = 2 := by unfold badAt; rw [h]; simp only; rw [if_neg hx]
theorem bad_first {l : List Iv} {x : Iv} (h : l[0]? = some x) (hx : x.1 ≤ x.2) : badAt l 0 = 0 := by unfold badAt; rw [h]; simp only; rw [if_pos hx]; rfl
theorem bad_order {l : List Iv} {k : Nat} {x y : Iv} (h : l[k + 1]? = some x) (hy : l[k]? = some y) (hx : x.1 ≤ x.2) (hg : ¬ y.2 + 1 < x.1) : badAt l (k + 1) = 3 := by
  unfold badAt; rw [h]; simp only; rw [if_pos hx, if_neg (by omega), Nat.add_sub_cancel, hy]; simp only; rw [if_neg hg]
theorem bad_fine {l : List Iv} {k : Nat} {x y : Iv} (h : l[k + 1]? = some x) (hy : l[k]? = some y) (hx : x.1 ≤ x.2) (hg : y.2 + 1 < x.1) : badAt l (k + 1) = 0 := by
  unfold badAt; rw [h]; simp only; rw [if_pos hx, if_neg (by omega), Nat.add_sub_cancel, hy]; simp only; rw [if_pos hg]
/-- A correct list. -/
def canon : List Iv → Prop
  | [] => True
  | x :: l => x.1 ≤ x.2 ∧ (∀ y, l.head? = some y → x.2 + 1 < y.1) ∧ canon l
theorem canon_of_bad : ∀ (l : List Iv), (∀ k, k < l.length → badAt l k = 0) → canon l
  | [], _ => trivial
  | x :: l, h => by
    have h0 := h 0 (by simp)
    have hx : x.1 ≤ x.2 := by
      apply Classical.byContradiction; intro hn
      rw [bad_inverted (x := x) (by simp) hn] at h0; cases h0
    refine ⟨hx, ?_, canon_of_bad l ?_⟩
    · intro y hy
      have h1 : l[0]? = some y := by rw [← List.head?_eq_getElem?]; exact hy
      have hl : 0 < l.length := by cases l with | nil => cases hy | cons _ _ => simp
      have h2 := h 1 (by simp; omega)
      apply Classical.byContradiction; intro hn
      by_cases hy' : y.1 ≤ y.2
      · rw [bad_order (x := y) (y := x) (by simpa using h1) (by simp) hy' hn] at h2; cases h2
      · rw [bad_inverted (x := y) (by simpa using h1) hy'] at h2; cases h2
    · intro k hk
      have h2 := h (k + 1) (by simp; omega)
      obtain ⟨z, hz⟩ : ∃ z, l[k]? = some z := ⟨l[k], by simp [hk]⟩
      have hz' : (x :: l)[k + 1]? = some z := by simpa using hz
      have hz1 : z.1 ≤ z.2 := by
        apply Classical.byContradiction; intro hn
        rw [bad_inverted hz' hn] at h2; cases h2
      cases k with
      | zero => exact bad_first hz hz1
      | succ j =>
        obtain ⟨y, hy⟩ : ∃ y, l[j]? = some y := ⟨l[j], by simp [show j < l.length by omega]⟩
        have hy' : (x :: l)[j + 1]? = some y := by simpa using hy
        apply bad_fine hz hy hz1
        apply Classical.byContradiction; intro hn
        rw [bad_order hz' hy' hz1 hn] at h2; cases h2
theorem bad_of_canon : ∀ (l : List Iv), canon l → ∀ k, k < l.length → badAt l k = 0
  | [], _, k, hk => absurd hk (Nat.not_lt_zero k)
  | x :: l, ⟨hx, hh, hl⟩, k, hk => by
    cases k with
    | zero => exact bad_first (x := x) (by simp) hx
    | succ j =>
      have hj : j < l.length := by simpa using hk
      obtain ⟨z, hz⟩ : ∃ z, l[j]? = some z := ⟨l[j], by simp [hj]⟩
      have ih := bad_of_canon l hl j hj
      have hz1 : z.1 ≤ z.2 := by
        apply Classical.byContradiction; intro hn
        rw [bad_inverted hz hn] at ih; cases ih
      cases j with
      | zero => exact bad_fine (x := z) (y := x) (by simpa using hz) (by simp) hz1 (hh z (by rw [List.head?_eq_getElem?]; exact hz))
      | succ i =>
        obtain ⟨y, hy⟩ : ∃ y, l[i]? = some y := ⟨l[i], by simp [show i < l.length by omega]⟩
        refine bad_fine (x := z) (y := y) (by simpa using hz) (by simpa using hy) hz1 ?_
        apply Classical.byContradiction; intro hn
        rw [bad_order hz hy hz1 hn] at ih; cases ih
theorem canon_iff (l : List Iv) : chkL l = none ↔ canon l := ⟨fun h => canon_of_bad l (chk_none_all h), fun h => chk_none (bad_of_canon l h)⟩
theorem canon_behind : ∀ (l : List Iv) (b : Int), canon l → (∀ y, l.head? = some y → b < y.1) → ∀ y ∈ l, b < y.1
  | [], _, _, _, y, h => absurd h (by simp)
  | x :: l, b, ⟨hx, hh, hl⟩, hb, y, hy => by
    have hbx := hb x rfl
    rcases List.mem_cons.1 hy with rfl | hy
    · exact hbx
    · have := canon_behind l (x.2 + 1) hl hh y hy
      omega
theorem canon_ok : ∀ (l : List Iv), canon l → ∀ y ∈ l, y.1 ≤ y.2
  | [], _, y, h => absurd h (by simp)
  | x :: l, ⟨hx, _, hl⟩, y, hy => by
    rcases List.mem_cons.1 hy with rfl | hy
    · exact hx
    · exact canon_ok l hl y hy
end Go.Proofs.Ytnihmmhmndgagaa
