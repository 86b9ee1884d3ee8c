/- Sets of numbers by operations, asked piece by piece: plain mathematics. No conditions. -/
import Derived.Test.YtgeggdaokjimjaaDoorRMath
namespace Go.Proofs.YtgeggdaokjimjaaDoor
/-- The list of the pieces at which P holds. -/
def goP (U : Int) (P : Int → Bool) (S : List Int) : Nat → List Iv
  | 0 => []
  | k + 1 => if P (S.getD k 0) then putL (goP U P S k) (pieceS U S k) else goP U P S k
structure PInv (U : Int) (P : Int → Bool) (S : List Int) (k : Nat) (out : List Iv) : Prop where
  can : canon out
  has : ∀ x, hasL out x = (decide (x < boundS U S k) && P x)
  low : ∀ y ∈ out, y.2 < boundS U S k
theorem pInv_go {U : Int} {P : Int → Bool} {S : List Int} (ha : ascL S) (hz : (0 : Int) ∈ S) (h0 : ∀ y ∈ S, 0 ≤ y) (hU : ∀ y ∈ S, y ≤ U) (hneg : ∀ x, x < 0 → P x = false)
    (hc : ∀ k, k < S.length → ∀ z, S.getD k 0 ≤ z → z < boundS U S (k + 1) → z ≤ U → P z = P (S.getD k 0)) : ∀ k, k ≤ S.length → PInv U P S k (goP U P S k) := by
  intro k
  induction k with
  | zero =>
    intro _
    refine ⟨trivial, fun x => ?_, fun y h => absurd h (by simp [goP])⟩
    show false = _
    symm
    rw [Bool.and_eq_false_iff]
    by_cases hx : x < boundS U S 0
    · right
      have hb0 : boundS U S 0 = 0 := by
        have hm := hz
        have hne : 0 < S.length := List.length_pos_of_mem hm
        rw [bound_at hne]
        have e : (S).getD 0 0 = (S)[0] := by simp [hne]
        rw [e]
        have h1 := h0 _ (List.getElem_mem hne)
        obtain ⟨j, hj⟩ := List.mem_iff_getElem?.1 hm
        obtain ⟨hjl, ej⟩ := List.getElem?_eq_some_iff.1 hj
        rcases Nat.eq_zero_or_pos j with rfl | hj0
        · omega
        · have := (List.pairwise_iff_getElem.1 ha) 0 j hne hjl hj0; omega
      exact hneg x (by omega)
    · left; simpa using hx
  | succ k ih =>
    intro hk
    have hk' : k < S.length := by omega
    have ih := ih (by omega)
    have hlt := starts_lt ha hU k hk'
    have hbk := bound_at (U := U) hk'
    have hstep : ∀ x, x < boundS U S (k + 1) → boundS U S k ≤ x → P x = P ((S).getD k 0) := by
      intro x hx1 hx2
      by_cases hxU : x ≤ U
      · exact hc k hk' x (by omega) hx1 hxU
      · exfalso
        have : boundS U S (k + 1) ≤ U + 1 := by
          unfold boundS
          split
          · rename_i y hy
            have := hU y (List.mem_of_getElem? hy); omega
          · omega
        omega
    unfold goP
    generalize hS : (S).getD k 0 = s at *
    cases hh : P s with
    | false =>
      rw [if_neg (by simp)]
      refine ⟨ih.can, fun x => ?_, fun y hy => by have := ih.low y hy; omega⟩
      rw [ih.has x]
      by_cases hx : x < boundS U S k
      · rw [show decide (x < boundS U S k) = true by simpa using hx, show decide (x < boundS U S (k + 1)) = true by simp; omega]
      · rw [show decide (x < boundS U S k) = false by simpa using hx]
        by_cases hx2 : x < boundS U S (k + 1)
        · rw [hstep x hx2 (by omega), hh]; simp
        · rw [show decide (x < boundS U S (k + 1)) = false by simpa using hx2]
    | true =>
      rw [if_pos rfl]
      have hp : pieceS U S k = (s, boundS U S (k + 1) - 1) := by unfold pieceS; rw [hS]
      rw [hp]
      have hnew : ∀ x, inI (s, boundS U S (k + 1) - 1) x = (decide (s ≤ x) && decide (x < boundS U S (k + 1))) := by
        intro x; unfold inI; rw [Bool.eq_iff_iff]; simp; omega
      have hall : ∀ x, (hasL (goP U P S k) x || inI (s, boundS U S (k + 1) - 1) x) = (decide (x < boundS U S (k + 1)) && P x) := by
        intro x
        rw [ih.has x, hnew x]
        by_cases hx : x < boundS U S k
        · rw [show decide (x < boundS U S k) = true by simpa using hx, show decide (x < boundS U S (k + 1)) = true by simp; omega, show decide (s ≤ x) = false by simp; omega]; simp
        · rw [show decide (x < boundS U S k) = false by simpa using hx]
          by_cases hx2 : x < boundS U S (k + 1)
          · rw [hstep x hx2 (by omega), hh, show decide (x < boundS U S (k + 1)) = true by simpa using hx2, show decide (s ≤ x) = true by simp; omega]; simp
          · rw [show decide (x < boundS U S (k + 1)) = false by simpa using hx2]; simp
      by_cases hL : goP U P S k = []
      · rw [hL, putL_nil]
        refine ⟨⟨by simp; omega, by simp, trivial⟩, fun x => ?_, fun y hy => ?_⟩
        · rw [← hall x, hL]; simp [hasL]
        · rw [List.mem_singleton.1 hy]; simp; omega
      · obtain ⟨m, y, hm⟩ := snoc_of hL
        rw [hm] at ih hall ⊢
        obtain ⟨c1, c2, c3⟩ := (canon_snoc m y).1 ih.can
        have hyl := ih.low y (by simp)
        by_cases hn : y.2 + 1 = s
        · rw [putL_near m y _ (by simpa using hn)]
          refine ⟨(canon_snoc _ _).2 ⟨c1, by simp; omega, c3⟩, fun x => ?_, fun u hu => ?_⟩
          · rw [← hall x, hasL_append, hasL_append, Bool.or_assoc]
            congr 1
            unfold hasL inI
            simp only [List.any_cons, List.any_nil, Bool.or_false]
            rw [Bool.eq_iff_iff]
            simp
            omega
          · rcases List.mem_append.1 hu with hu | hu
            · have := ih.low u (by simp [hu]); omega
            · rw [List.mem_singleton.1 hu]; simp; omega
        · rw [putL_far m y _ (by simpa using hn)]
          refine ⟨(canon_snoc _ _).2 ⟨ih.can, by simp; omega, fun u hu => ?_⟩, fun x => ?_, fun u hu => ?_⟩
          · rw [List.getLast?_concat] at hu; cases hu; simp; omega
          · rw [← hall x, hasL_append]; simp [hasL]
          · rcases List.mem_append.1 hu with hu | hu
            · have := ih.low u hu; omega
            · rw [List.mem_singleton.1 hu]; simp; omega
theorem bound_all (U : Int) (S : List Int) : boundS U S S.length = U + 1 := by unfold boundS; rw [List.getElem?_eq_none_iff.2 (Nat.le_refl _)]
/-- Lists that an operation may take: each interval in order, from 0 to U. -/
def okL (U : Int) (l : List Iv) : Prop := ∀ y ∈ l, 0 ≤ y.1 ∧ y.1 ≤ y.2 ∧ y.2 ≤ U
/-- On a piece of a list's starts, the set of each part of that list is the same everywhere. -/
theorem part_same {U : Int} {l m : List Iv} (hs : ∀ y ∈ l, y ∈ m) (k : Nat) (hk : k < (startsL U m).length) (hb : ∀ y ∈ l, y.2 ≤ U) (z : Int) (h1 : (startsL U m).getD k 0 ≤ z) (h2 : z < boundS U (startsL U m) (k + 1)) (hz : z ≤ U) :
    hasL l z = hasL l ((startsL U m).getD k 0) := by
  have ha := starts_asc U m
  rw [Bool.eq_iff_iff, hasL_iff, hasL_iff]
  constructor
  · rintro ⟨y, hy, h3, h4⟩
    refine ⟨y, hy, ?_, by omega⟩
    apply Classical.byContradiction; intro hn
    have := no_start ha k hk y.1 z ((starts_mem U m _).2 (.inr ⟨y, hs y hy, .inl rfl⟩)) (by omega) h2
    omega
  · rintro ⟨y, hy, h3, h4⟩
    refine ⟨y, hy, by omega, ?_⟩
    apply Classical.byContradiction; intro hn
    have hyu : y.2 < U := by have := hb y hy; omega
    have := no_start ha k hk (y.2 + 1) z ((starts_mem U m _).2 (.inr ⟨y, hs y hy, .inr ⟨hyu, rfl⟩⟩)) (by omega) h2
    omega
theorem has_low {U : Int} {l : List Iv} (h : okL U l) {x : Int} (hx : x < 0) : hasL l x = false := by
  rw [Bool.eq_false_iff]
  intro hh
  obtain ⟨y, hy, h1, h2⟩ := (hasL_iff _ _).1 hh
  have := h y hy
  omega
theorem has_high {U : Int} {l : List Iv} (h : okL U l) {x : Int} (hx : U < x) : hasL l x = false := by
  rw [Bool.eq_false_iff]
  intro hh
  obtain ⟨y, hy, h1, h2⟩ := (hasL_iff _ _).1 hh
  have := h y hy
  omega
theorem starts_range {U : Int} (h0U : 0 ≤ U) {l : List Iv} (h : okL U l) : ∀ y ∈ startsL U l, 0 ≤ y ∧ y ≤ U := by
  intro y hy
  rcases (starts_mem U l y).1 hy with rfl | ⟨z, hz, rfl | ⟨h1, rfl⟩⟩
  · exact ⟨by omega, h0U⟩
  · have := h z hz; omega
  · have := h z hz; omega
/-- What an operation takes, off the two memberships. -/
def opP (f : Bool → Bool → Bool) (a b : List Iv) (x : Int) : Bool := f (hasL a x) (hasL b x)
/-- The list of an operation, as the reference makes it. -/
def opL (U : Int) (f : Bool → Bool → Bool) (a b : List Iv) : List Iv := goP U (opP f a b) (startsL U (a ++ b)) (startsL U (a ++ b)).length
theorem okL_app {U : Int} {a b : List Iv} (ha : okL U a) (hb : okL U b) : okL U (a ++ b) := fun y hy => (List.mem_append.1 hy).elim (ha y) (hb y)
theorem op_inv {U : Int} (h0U : 0 ≤ U) (f : Bool → Bool → Bool) (hf : f false false = false) {a b : List Iv} (ha : okL U a) (hb : okL U b) :
    ∀ k, k ≤ (startsL U (a ++ b)).length → PInv U (opP f a b) (startsL U (a ++ b)) k (goP U (opP f a b) (startsL U (a ++ b)) k) :=
  pInv_go (starts_asc U _) ((starts_mem U _ 0).2 (.inl rfl)) (fun y hy => (starts_range h0U (okL_app ha hb) y hy).1) (fun y hy => (starts_range h0U (okL_app ha hb) y hy).2)
    (fun x hx => by unfold opP; rw [has_low ha hx, has_low hb hx]; exact hf)
    (fun k hk z h1 h2 h3 => by
      unfold opP
      rw [part_same (l := a) (m := a ++ b) (fun y hy => List.mem_append_left _ hy) k hk (fun y hy => (ha y hy).2.2) z h1 h2 h3,
        part_same (l := b) (m := a ++ b) (fun y hy => List.mem_append_right _ hy) k hk (fun y hy => (hb y hy).2.2) z h1 h2 h3])
theorem op_canon {U : Int} (h0U : 0 ≤ U) (f : Bool → Bool → Bool) (hf : f false false = false) {a b : List Iv} (ha : okL U a) (hb : okL U b) : canon (opL U f a b) := (op_inv h0U f hf ha hb _ (Nat.le_refl _)).can
/-- A number is in the list exactly if the operation takes it. -/
theorem op_has {U : Int} (h0U : 0 ≤ U) (f : Bool → Bool → Bool) (hf : f false false = false) {a b : List Iv} (ha : okL U a) (hb : okL U b) (x : Int) : hasL (opL U f a b) x = f (hasL a x) (hasL b x) := by
  have h := (op_inv h0U f hf ha hb _ (Nat.le_refl _)).has x
  rw [bound_all] at h
  rw [show opL U f a b = goP U (opP f a b) (startsL U (a ++ b)) (startsL U (a ++ b)).length from rfl, h]
  by_cases hx : x < U + 1
  · rw [show decide (x < U + 1) = true by simpa using hx]; rfl
  · rw [show decide (x < U + 1) = false by simpa using hx, has_high ha (by omega), has_high hb (by omega), hf]; rfl
theorem pieceS_ok {U : Int} {S : List Int} (ha : ascL S) (h0 : ∀ y ∈ S, 0 ≤ y ∧ y ≤ U) (k : Nat) (hk : k < S.length) : 0 ≤ (pieceS U S k).1 ∧ (pieceS U S k).1 ≤ (pieceS U S k).2 ∧ (pieceS U S k).2 ≤ U := by
  have hlt := starts_lt ha (fun y hy => (h0 y hy).2) k hk
  have e : S.getD k 0 = S[k] := by simp [hk]
  have h1 := h0 S[k] (List.getElem_mem hk)
  unfold pieceS
  refine ⟨by simp only; omega, by simp only; omega, ?_⟩
  simp only
  unfold boundS
  split
  · rename_i y hy
    have := h0 y (List.mem_of_getElem? hy)
    omega
  · omega
theorem putL_ok {U : Int} {L : List Iv} {s : Iv} (h : okL U L) (hs : 0 ≤ s.1 ∧ s.1 ≤ s.2 ∧ s.2 ≤ U) : okL U (putL L s) := by
  by_cases hL : L = []
  · subst hL; rw [putL_nil]; intro y hy; rw [List.mem_singleton.1 hy]; exact hs
  · obtain ⟨m, y, rfl⟩ := snoc_of hL
    have hy := h y (by simp)
    by_cases hf : y.2 + 1 = s.1
    · rw [putL_near _ _ _ hf]
      intro z hz
      rcases List.mem_append.1 hz with hz | hz
      · exact h z (by simp [hz])
      · rw [List.mem_singleton.1 hz]; exact ⟨hy.1, by simp only; omega, hs.2.2⟩
    · rw [putL_far _ _ _ hf]
      intro z hz
      rcases List.mem_append.1 hz with hz | hz
      · exact h z hz
      · rw [List.mem_singleton.1 hz]; exact hs
theorem goP_ok {U : Int} (P : Int → Bool) {S : List Int} (ha : ascL S) (h0 : ∀ y ∈ S, 0 ≤ y ∧ y ≤ U) : ∀ k, k ≤ S.length → okL U (goP U P S k) := by
  intro k
  induction k with
  | zero => intro _ y hy; simp [goP] at hy
  | succ k ih =>
    intro hk
    unfold goP
    split
    · exact putL_ok (ih (by omega)) (pieceS_ok ha h0 k (by omega))
    · exact ih (by omega)
theorem op_ok {U : Int} (h0U : 0 ≤ U) (f : Bool → Bool → Bool) {a b : List Iv} (ha : okL U a) (hb : okL U b) : okL U (opL U f a b) :=
  goP_ok _ (starts_asc U _) (starts_range h0U (okL_app ha hb)) _ (Nat.le_refl _)
theorem canon_okL {U : Int} {l : List Iv} (h : canon l) (hb : ∀ y ∈ l, 0 ≤ y.1 ∧ y.2 ≤ U) : okL U l := fun y hy => ⟨(hb y hy).1, canon_ok l h y hy, (hb y hy).2⟩
end Go.Proofs.YtgeggdaokjimjaaDoor
