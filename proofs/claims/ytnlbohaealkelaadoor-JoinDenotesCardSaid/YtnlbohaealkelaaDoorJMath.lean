/- Entries of one replica calculated with: plain mathematics. No conditions. -/
import Derived.Test.YtnlbohaealkelaaDoorNMath
namespace Go.Proofs.YtnlbohaealkelaaDoor
/-- No counter below 0 is in a correct list. -/
theorem good_neg {L : List Iv} (h : GoodL L) {x : Int} (hx : x < 0) : hasL L x = false := by
  rw [Bool.eq_false_iff]
  intro hh
  obtain ⟨y, hy, h1, h2⟩ := (hasL_iff _ _).1 hh
  have := h.ok y hy
  omega
theorem good_ext {A B : List Iv} (ha : GoodL A) (hb : GoodL B) (h : ∀ x : Int, 0 ≤ x → hasL A x = hasL B x) : A = B := good_eq ha hb fun x => by
  by_cases hx : 0 ≤ x
  · exact h x hx
  · rw [good_neg ha (by omega), good_neg hb (by omega)]
/-- The entry of a list knows the list's numbers. -/
theorem of_has8 {L : List Iv} (h : GoodL L) {c : Int} (hc : 0 ≤ c) : ((!L.isEmpty) && hasE (topL L) (holesL L) c) = hasL L c := by
  by_cases hL : L = []
  · subst hL; rfl
  · have h1 := known_has (of_good h hL) hc
    rw [of_known h hL] at h1
    rw [← h1, show (!L.isEmpty) = true from by cases L with | nil => exact absurd rfl hL | cons _ _ => rfl, Bool.true_and]
theorem or_some {A B : List Iv} (ha : GoodL A) (hb : GoodL B) : orL A B = [] ↔ A = [] ∧ B = [] := by
  constructor
  · intro h
    have hx : ∀ x, hasL A x = false ∧ hasL B x = false := fun x => by
      have := or_has ha hb x
      rw [h] at this
      have e : hasL ([] : List Iv) x = false := rfl
      rw [e] at this
      cases h1 : hasL A x <;> cases h2 : hasL B x <;> simp_all
    exact ⟨good_eq ha good_nil fun x => (hx x).1, good_eq hb good_nil fun x => (hx x).2⟩
  · rintro ⟨rfl, rfl⟩
    exact good_eq (orL_good good_nil good_nil) good_nil fun x => by rw [or_has good_nil good_nil]; rfl
theorem single_good {c : Int} (h0 : 0 ≤ c) (h1 : c ≤ 18446744073709551615) : GoodL [(c, c)] := good_one (Int.le_refl _) h0 h1
theorem single_has (c x : Int) : hasL [(c, c)] x = decide (x = c) := by
  unfold hasL inI
  rw [Bool.eq_iff_iff]; simp; omega
/-- Behind the greatest one. -/
theorem next_holes {K : List Iv} (h : GoodL K) (hne : K ≠ []) (hn : topL K + 1 ≤ 18446744073709551615) :
    orL K [(topL K + 1, topL K + 1)] ≠ [] ∧ topL (orL K [(topL K + 1, topL K + 1)]) = topL K + 1 ∧ holesL (orL K [(topL K + 1, topL K + 1)]) = holesL K := by
  have ht := top_range h hne
  have hs := single_good (c := topL K + 1) (by omega) hn
  have hg := orL_good h hs
  have hL : orL K [(topL K + 1, topL K + 1)] ≠ [] := fun e => by
    have := (or_some h hs).1 e
    exact hne this.1
  have hsp := top_spec h.can hne
  have hsq := top_spec hg.can hL
  have hmem : hasL (orL K [(topL K + 1, topL K + 1)]) (topL K + 1) = true := by rw [or_has h hs, single_has]; simp
  have hle : ∀ x, hasL K x = true → x ≤ topL K := fun x hx => by
    obtain ⟨y, hy, h1, h2⟩ := (hasL_iff _ _).1 hx
    have := hsp.1 y hy
    omega
  have htop : topL (orL K [(topL K + 1, topL K + 1)]) = topL K + 1 := by
    obtain ⟨y, hy, h1, h2⟩ := (hasL_iff _ _).1 hmem
    have h3 := hsq.1 y hy
    have h4 := hsq.2
    rw [or_has h hs, single_has] at h4
    cases hk : hasL K (topL (orL K [(topL K + 1, topL K + 1)])) with
    | true => have := hle _ hk; omega
    | false => rw [hk] at h4; simp at h4; exact h4
  refine ⟨hL, htop, ?_⟩
  refine good_ext (of_good hg hL).good (of_good h hne).good fun x hx => ?_
  have h1 := known_has (of_good hg hL) hx
  have h2 := known_has (of_good h hne) hx
  rw [of_known hg hL, htop, or_has h hs, single_has] at h1
  rw [of_known h hne] at h2
  have h3 := (of_good hg hL).hole
  have h4 := (of_good h hne).hole
  rw [htop] at h3
  have b1 : hasL (holesL (orL K [(topL K + 1, topL K + 1)])) x = true → x ≤ topL K + 1 := fun hh => by
    obtain ⟨y, hy, k1, k2⟩ := (hasL_iff _ _).1 hh
    have := h3 y hy
    omega
  have b2 : hasL (holesL K) x = true → x ≤ topL K := fun hh => by
    obtain ⟨y, hy, k1, k2⟩ := (hasL_iff _ _).1 hh
    have := h4 y hy
    omega
  unfold hasE at h1 h2
  by_cases c1 : x ≤ topL K
  · have d1 : decide (x ≤ topL K + 1) = true := by simp; omega
    have d2 : decide (x ≤ topL K) = true := by simp; omega
    have d3 : decide (x = topL K + 1) = false := by simp; omega
    rw [d1, d3] at h1
    rw [d2] at h2
    rw [Bool.or_false, Bool.true_and] at h1
    rw [Bool.true_and] at h2
    have h5 := h1.symm.trans h2
    clear h1 h2 b1 b2
    revert h5
    cases hasL (holesL (orL K [(topL K + 1, topL K + 1)])) x <;> cases hasL (holesL K) x <;> simp
  · have e2 : hasL (holesL K) x = false := by
      rw [Bool.eq_false_iff]; intro hh; exact c1 (b2 hh)
    rw [e2]
    rw [Bool.eq_false_iff]
    intro hh
    have hx1 := b1 hh
    have : x = topL K + 1 := by omega
    subst this
    rw [hh] at h1
    simp at h1
theorem or_nil8 {A : List Iv} (ha : GoodL A) : orL [] A = A := good_eq (orL_good good_nil ha) ha fun x => by rw [or_has good_nil ha]; rfl
theorem or_nil8' {A : List Iv} (ha : GoodL A) : orL A [] = A := good_eq (orL_good ha good_nil) ha fun x => by
  rw [or_has ha good_nil]; have e : hasL ([] : List Iv) x = false := rfl; rw [e, Bool.or_false]
theorem good_start {R : List Iv} (h : GoodL R) : ∀ s ∈ R.map (·.1), hasL R s = true ∧ hasL R (s - 1) = false := by
  intro s hs
  obtain ⟨y, hy, rfl⟩ := List.mem_map.1 hs
  have hok := h.ok y hy
  refine ⟨(hasL_iff _ _).2 ⟨y, hy, Int.le_refl _, hok.2.1⟩, ?_⟩
  rw [Bool.eq_false_iff]
  intro hh
  obtain ⟨z, hz, h1, h2⟩ := (hasL_iff _ _).1 hh
  obtain ⟨i, hi⟩ := List.mem_iff_getElem?.1 hy
  obtain ⟨j, hj⟩ := List.mem_iff_getElem?.1 hz
  rcases Nat.lt_trichotomy i j with hij | hij | hij
  · have := canon_up R h.can i j y z hij hi hj; omega
  · subst hij
    obtain rfl := Option.some.inj (hi.symm.trans hj)
    omega
  · have := canon_up R h.can j i z y hij hj hi; omega
theorem starts_nodup {R : List Iv} (h : GoodL R) : (R.map (·.1)).Nodup := by
  rw [List.nodup_iff_pairwise_ne, List.pairwise_map, List.pairwise_iff_getElem]
  intro i j hi hj hij
  have h1 : R[i]? = some R[i] := by simp [hi]
  have h2 : R[j]? = some R[j] := by simp [hj]
  have h3 := canon_up R h.can i j _ _ hij h1 h2
  have h4 := h.ok R[i] (List.getElem_mem hi)
  intro e
  have e' : R[i].1 = R[j].1 := e
  omega
/-- A number that enters a list is where an interval begins. -/
theorem enter_start {A : List Iv} {s : Int} (h1 : hasL A s = true) (h0 : hasL A (s - 1) = false) : s ∈ A.map (·.1) := by
  obtain ⟨y, hy, a, b⟩ := (hasL_iff _ _).1 h1
  refine List.mem_map.2 ⟨y, hy, ?_⟩
  apply Classical.byContradiction
  intro hne
  have : hasL A (s - 1) = true := (hasL_iff _ _).2 ⟨y, hy, by have : y.1 ≠ s := hne; omega, by omega⟩
  rw [h0] at this
  cases this
theorem leave_end {B : List Iv} {s : Int} (h1 : hasL B s = false) (h0 : hasL B (s - 1) = true) : s ∈ B.map (·.2 + 1) := by
  obtain ⟨y, hy, a, b⟩ := (hasL_iff _ _).1 h0
  refine List.mem_map.2 ⟨y, hy, ?_⟩
  apply Classical.byContradiction
  intro hne
  have : hasL B s = true := (hasL_iff _ _).2 ⟨y, hy, by omega, by have : y.2 + 1 ≠ s := hne; omega⟩
  rw [h1] at this
  cases this
theorem or_count {A B : List Iv} (ha : GoodL A) (hb : GoodL B) : (orL A B).length ≤ A.length + B.length := by
  have hg := orL_good ha hb
  have := (starts_nodup hg).length_le_of_subset (l₂ := A.map (·.1) ++ B.map (·.1)) (fun s hs => by
    obtain ⟨h1, h0⟩ := good_start hg s hs
    rw [or_has ha hb] at h1 h0
    rw [List.mem_append]
    rw [Bool.or_eq_false_iff] at h0
    rw [Bool.or_eq_true] at h1
    exact h1.imp (fun h => enter_start h h0.1) (fun h => enter_start h h0.2))
  simpa using this
theorem and_count {A B : List Iv} (ha : GoodL A) (hb : GoodL B) : (andL A B).length ≤ A.length + B.length := by
  have hg := andL_good ha hb
  have := (starts_nodup hg).length_le_of_subset (l₂ := A.map (·.1) ++ B.map (·.1)) (fun s hs => by
    obtain ⟨h1, h0⟩ := good_start hg s hs
    rw [and_has ha hb] at h1 h0
    rw [List.mem_append]
    rw [Bool.and_eq_false_iff] at h0
    rw [Bool.and_eq_true] at h1
    exact h0.imp (fun h => enter_start h1.1 h) (fun h => enter_start h1.2 h))
  simpa using this
theorem sub_count {A B : List Iv} (ha : GoodL A) (hb : GoodL B) : (subL A B).length ≤ A.length + B.length := by
  have hg := subL_good ha hb
  have := (starts_nodup hg).length_le_of_subset (l₂ := A.map (·.1) ++ B.map (·.2 + 1)) (fun s hs => by
    obtain ⟨h1, h0⟩ := good_start hg s hs
    rw [sub_has ha hb] at h1 h0
    rw [List.mem_append]
    rw [Bool.and_eq_false_iff] at h0
    rw [Bool.and_eq_true] at h1
    refine h0.imp (fun h => enter_start h1.1 h) (fun h => leave_end ?_ ?_)
    · simpa using h1.2
    · simpa using h)
  simpa using this
theorem known_count {m : Int} {H : List Iv} (h : GoodE m H) : (knownL m H).length ≤ H.length + 1 := by
  have := sub_count h.one h.good
  unfold knownL
  simp only [List.length_cons, List.length_nil] at this
  omega
theorem holes_count {L : List Iv} (h : GoodL L) : (holesL L).length ≤ L.length + 1 := by
  by_cases hL : L = []
  · subst hL; simp [holesL]
  · have ht := top_range h hL
    have := sub_count (good_one ht.1 (Int.le_refl _) ht.2 : GoodL [(0, topL L)]) h
    unfold holesL
    rw [if_neg hL]
    simp only [List.length_cons, List.length_nil] at this
    omega
end Go.Proofs.YtnlbohaealkelaaDoor
