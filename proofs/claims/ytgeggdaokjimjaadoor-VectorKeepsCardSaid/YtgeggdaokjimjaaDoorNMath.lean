/- Entries: what is known, and the canonical form; plain mathematics. No conditions. -/
import Derived.Test.YtgeggdaokjimjaaDoorOAlg
namespace Go.Proofs.YtgeggdaokjimjaaDoor
/-- A correct entry: its greatest counter and its holes. -/
structure GoodE (m : Int) (H : List Iv) : Prop where
  good : GoodL H
  low : 0 ≤ m
  top : m ≤ UM
  hole : ∀ y ∈ H, y.2 ≤ m
/-- The counters that are known. -/
def knownL (m : Int) (H : List Iv) : List Iv := subL [(0, m)] H
def hasE (m : Int) (H : List Iv) (c : Int) : Bool := decide (c ≤ m) && !hasL H c
/-- The greatest number of a list, and the holes below it. -/
def topL (L : List Iv) : Int := match L.getLast? with | some y => y.2 | none => 0
def holesL (L : List Iv) : List Iv := if L = [] then [] else subL [(0, topL L)] L
def canonB (m : Int) (H : List Iv) : Bool := !hasL H m
theorem one_has {m c : Int} (hc : 0 ≤ c) : hasL [(0, m)] c = decide (c ≤ m) := by
  unfold hasL inI
  simp [hc]
theorem GoodE.one {m : Int} {H : List Iv} (h : GoodE m H) : GoodL [(0, m)] := good_one h.low (Int.le_refl _) h.top
theorem known_good {m : Int} {H : List Iv} (h : GoodE m H) : GoodL (knownL m H) := subL_good h.one h.good
theorem known_has {m : Int} {H : List Iv} (h : GoodE m H) {c : Int} (hc : 0 ≤ c) : hasL (knownL m H) c = hasE m H c := by
  unfold knownL hasE
  rw [sub_has h.one h.good, one_has hc]
/-- All numbers of a correct list are at most its greatest one, which is in it. -/
theorem top_spec : ∀ {L : List Iv}, canon L → L ≠ [] → (∀ y ∈ L, y.2 ≤ topL L) ∧ hasL L (topL L) = true
  | [], _, h => absurd rfl h
  | [y], hc, _ => by
    refine ⟨fun z hz => by rw [List.mem_singleton.1 hz]; exact Int.le_refl _, ?_⟩
    exact (hasL_iff _ _).2 ⟨y, by simp, hc.1, Int.le_refl _⟩
  | y :: z :: r, hc, _ => by
    have ih := top_spec (L := z :: r) hc.2.2 (by simp)
    have e : topL (y :: z :: r) = topL (z :: r) := by unfold topL; rw [List.getLast?_cons_cons]
    rw [e]
    refine ⟨fun u hu => ?_, ?_⟩
    · rcases List.mem_cons.1 hu with rfl | hu
      · have h1 := hc.2.1 z rfl
        have h2 := ih.1 z (by simp)
        have h3 := hc.2.2.1
        omega
      · exact ih.1 u hu
    · obtain ⟨u, hu, h1⟩ := (hasL_iff _ _).1 ih.2
      exact (hasL_iff _ _).2 ⟨u, by simp at hu ⊢; exact .inr hu, h1⟩
theorem top_range {L : List Iv} (h : GoodL L) (hne : L ≠ []) : 0 ≤ topL L ∧ topL L ≤ UM := by
  obtain ⟨y, hy, h1, h2⟩ := (hasL_iff _ _).1 (top_spec h.can hne).2
  have := h.ok y hy
  omega
/-- The entry of a list is correct and canonical, and its counters are the list. -/
theorem of_good {L : List Iv} (h : GoodL L) (hne : L ≠ []) : GoodE (topL L) (holesL L) := by
  have ht := top_range h hne
  have ho : GoodL [(0, topL L)] := good_one ht.1 (Int.le_refl _) ht.2
  unfold holesL
  rw [if_neg hne]
  refine ⟨subL_good ho h, ht.1, ht.2, fun y hy => ?_⟩
  have hg := subL_good ho h
  have h1 := hg.ok y hy
  have h2 : hasL (subL [(0, topL L)] L) y.2 = true := (hasL_iff _ _).2 ⟨y, hy, h1.2.1, Int.le_refl _⟩
  rw [sub_has ho h, one_has (by omega)] at h2
  simp at h2
  exact h2.1
theorem of_canon {L : List Iv} (h : GoodL L) (hne : L ≠ []) : canonB (topL L) (holesL L) = true := by
  have ht := top_range h hne
  have ho : GoodL [(0, topL L)] := good_one ht.1 (Int.le_refl _) ht.2
  unfold canonB holesL
  rw [if_neg hne, sub_has ho h, (top_spec h.can hne).2]
  simp
theorem of_known {L : List Iv} (h : GoodL L) (hne : L ≠ []) : knownL (topL L) (holesL L) = L := by
  have ht := top_range h hne
  have ho : GoodL [(0, topL L)] := good_one ht.1 (Int.le_refl _) ht.2
  unfold knownL holesL
  rw [if_neg hne, not_not' h ho]
  refine good_eq (andL_good h ho) h fun x => ?_
  rw [and_has h ho]
  cases hx : hasL L x with
  | false => rfl
  | true =>
    obtain ⟨y, hy, h1, h2⟩ := (hasL_iff _ _).1 hx
    have h3 := (top_spec h.can hne).1 y hy
    have h4 := h.ok y hy
    rw [one_has (by omega)]
    simp; omega
/-- A canonical entry is the entry of its counters. -/
theorem canon_of {m : Int} {H : List Iv} (h : GoodE m H) (hc : canonB m H = true) : knownL m H ≠ [] ∧ topL (knownL m H) = m ∧ holesL (knownL m H) = H := by
  have hm : hasL (knownL m H) m = true := by rw [known_has h h.low]; unfold hasE; unfold canonB at hc; rw [hc]; simp
  have hne : knownL m H ≠ [] := fun e => by rw [e] at hm; cases hm
  have hk := known_good h
  have ht := top_spec hk.can hne
  have htr := top_range hk hne
  have e1 : topL (knownL m H) = m := by
    obtain ⟨y, hy, h1, h2⟩ := (hasL_iff _ _).1 hm
    have h3 := ht.1 y hy
    have h4 := ht.2
    rw [known_has h htr.1] at h4
    unfold hasE at h4
    simp at h4
    omega
  refine ⟨hne, e1, ?_⟩
  unfold holesL
  rw [if_neg hne, e1]
  unfold knownL
  rw [not_not' h.good h.one]
  refine good_eq (andL_good h.good h.one) h.good fun x => ?_
  rw [and_has h.good h.one]
  cases hx : hasL H x with
  | false => rfl
  | true =>
    obtain ⟨y, hy, h1, h2⟩ := (hasL_iff _ _).1 hx
    have h3 := h.hole y hy
    have h4 := h.good.ok y hy
    rw [one_has (by omega)]
    simp; omega
end Go.Proofs.YtgeggdaokjimjaaDoor
