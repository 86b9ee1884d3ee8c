/- Vectors: correct ones, their canonical form, the order of lists of numbers. Plain mathematics; no conditions of its own. -/
import Derived.Test.YtgeggdaokjimjaaDoorPRef3
import Derived.Test.YtgeggdaokjimjaaDoorPComp
namespace Go.Proofs.YtgeggdaokjimjaaDoor
open Go.RowKit
/-- A correct vector. -/
structure GoodV (V : List (Int × Int × List Iv)) : Prop where
  ent : ∀ x ∈ V, GoodE x.2.1 x.2.2
  asc : V.Pairwise fun x y => x.1 < y.1
theorem asc_of {V : List (Int × Int × List Iv)} (h : ∀ (j : Nat) x y, V[j]? = some x → V[j + 1]? = some y → x.1 < y.1) : V.Pairwise fun x y => x.1 < y.1 := by
  have key : ∀ (d i : Nat) x y, V[i]? = some x → V[i + (d + 1)]? = some y → x.1 < y.1 := by
    intro d
    induction d with
    | zero => intro i x y hx hy; exact h i x y hx hy
    | succ d ih =>
      intro i x y hx hy
      have hlt : i + (d + 1 + 1) < V.length := (List.getElem?_eq_some_iff.1 hy).1
      have hz : V[i + (d + 1)]? = some V[i + (d + 1)] := by simp [show i + (d + 1) < V.length by omega]
      have h1 := ih i x _ hx hz
      have h2 := h (i + (d + 1)) _ y hz (by rw [show i + (d + 1) + 1 = i + (d + 1 + 1) from by omega]; exact hy)
      omega
  rw [List.pairwise_iff_getElem]
  intro i j hi hj hij
  obtain ⟨d, rfl⟩ : ∃ d, j = i + (d + 1) := ⟨j - i - 1, by omega⟩
  exact key d i _ _ (by simp [hi]) (by simp [hj])
theorem badV_all {V : List (Int × Int × List Iv)} (h : rightV V = true) : ∀ j, j < V.length → badV V j = 0 := by
  unfold rightV chkVec at h
  rw [Option.isNone_iff_eq_none, List.findSome?_eq_none_iff] at h
  intro j hj
  have := h j (List.mem_range.2 hj)
  by_cases hb : badV V j = 0
  · exact hb
  · rw [if_neg hb] at this; cases this
theorem good_of_right {V : List (Int × Int × List Iv)} (h64 : ∀ x ∈ V, All64 x.2.2 ∧ 0 ≤ x.2.1 ∧ x.2.1 ≤ UM) (h : rightV V = true) : GoodV V := by
  have hb := badV_all h
  have hc : ∀ (j : Nat) x, V[j]? = some x → codeE (chkN x.2.1 x.2.2) = 0 := by
    intro j x hx
    have hj : j < V.length := (List.getElem?_eq_some_iff.1 hx).1
    by_cases h0 : codeE (chkN x.2.1 x.2.2) = 0
    · exact h0
    · have := hb j hj
      rw [badV_code (r := x.1) (m := x.2.1) (H := x.2.2) hx h0] at this
      exact absurd this h0
  refine ⟨fun x hx => ?_, asc_of fun j x y hx hy => ?_⟩
  · obtain ⟨j, hj⟩ := List.mem_iff_getElem?.1 hx
    have h0 := hc j x hj
    have ho : okN x.2.1 x.2.2 = true := by rw [← okN_code, h0]; rfl
    exact (okN_iff (h64 x hx).1 (h64 x hx).2).1 ho
  · have h0 := hb (j + 1) (List.getElem?_eq_some_iff.1 hy).1
    rw [badV_next (r := y.1) (m := y.2.1) (H := y.2.2) (r' := x.1) (m' := x.2.1) (H' := x.2.2) hy hx (hc (j + 1) y hy)] at h0
    by_cases hle : y.1 ≤ x.1
    · rw [if_pos hle] at h0; cases h0
    · omega
theorem code_good {m : Int} {H : List Iv} (h : GoodE m H) : codeE (chkN m H) = 0 := by
  have := okN_good h
  rw [← okN_code] at this
  simpa using this
theorem right_of_good {V : List (Int × Int × List Iv)} (h : GoodV V) : rightV V = true := by
  unfold rightV
  rw [chkVec_none]
  · rfl
  intro j hj
  have hx : V[j]? = some V[j] := by simp [hj]
  have hc := code_good (h.ent V[j] (List.getElem_mem hj))
  cases j with
  | zero => exact badV_first (r := (V[0]).1) (m := (V[0]).2.1) (H := (V[0]).2.2) hx hc
  | succ j =>
    have hy : V[j]? = some V[j] := by simp [show j < V.length by omega]
    rw [badV_next (r := (V[j + 1]).1) (m := (V[j + 1]).2.1) (H := (V[j + 1]).2.2) (r' := (V[j]).1) (m' := (V[j]).2.1) (H' := (V[j]).2.2) hx hy hc]
    have := List.pairwise_iff_getElem.1 h.asc j (j + 1) (by omega) hj (by omega)
    rw [if_neg (by omega)]
def canE (x : Int × Int × List Iv) : Option (Int × Int × List Iv) := if knownL x.2.1 x.2.2 = [] then none else some (x.1, topL (knownL x.2.1 x.2.2), holesL (knownL x.2.1 x.2.2))
def canonV (V : List (Int × Int × List Iv)) : List (Int × Int × List Iv) := V.filterMap canE
theorem canE_some {x y : Int × Int × List Iv} (h : GoodE x.2.1 x.2.2) (hy : canE x = some y) : y.1 = x.1 ∧ GoodE y.2.1 y.2.2 ∧ canonB y.2.1 y.2.2 = true ∧ knownL y.2.1 y.2.2 = knownL x.2.1 x.2.2 := by
  unfold canE at hy
  by_cases hk : knownL x.2.1 x.2.2 = []
  · rw [if_pos hk] at hy; cases hy
  · rw [if_neg hk] at hy
    obtain rfl := Option.some.inj hy
    have hg := known_good h
    exact ⟨rfl, of_good hg hk, of_canon hg hk, of_known hg hk⟩
theorem canE_id {x : Int × Int × List Iv} (h : GoodE x.2.1 x.2.2) (hc : canonB x.2.1 x.2.2 = true) : canE x = some x := by
  obtain ⟨h1, h2, h3⟩ := canon_of h hc
  unfold canE
  rw [if_neg h1, h2, h3]
theorem filterMap_self {α : Type} {f : α → Option α} : ∀ {l : List α}, (∀ x ∈ l, f x = some x) → l.filterMap f = l
  | [], _ => rfl
  | x :: l, h => by rw [List.filterMap_cons_some (h x (by simp)), filterMap_self fun y hy => h y (by simp [hy])]
theorem canonV_good {V : List (Int × Int × List Iv)} (h : GoodV V) : GoodV (canonV V) ∧ ∀ y ∈ canonV V, canonB y.2.1 y.2.2 = true := by
  refine ⟨⟨fun y hy => ?_, ?_⟩, fun y hy => ?_⟩
  · obtain ⟨x, hx, e⟩ := List.mem_filterMap.1 hy
    exact (canE_some (h.ent x hx) e).2.1
  · have key : ∀ l : List (Int × Int × List Iv), (∀ x ∈ l, GoodE x.2.1 x.2.2) → l.Pairwise (fun x y => x.1 < y.1) → (l.filterMap canE).Pairwise fun x y => x.1 < y.1 := by
      intro l
      induction l with
      | nil => intro _ _; exact List.Pairwise.nil
      | cons a l ih =>
        intro hg hp
        have hp' := List.pairwise_cons.1 hp
        have hr := ih (fun x hx => hg x (by simp [hx])) hp'.2
        cases ha : canE a with
        | none => rw [List.filterMap_cons_none ha]; exact hr
        | some b =>
          rw [List.filterMap_cons_some ha, List.pairwise_cons]
          refine ⟨fun y hy => ?_, hr⟩
          obtain ⟨x, hx, e⟩ := List.mem_filterMap.1 hy
          have h1 := (canE_some (hg a (by simp)) ha).1
          have h2 := (canE_some (hg x (by simp [hx])) e).1
          have := hp'.1 x hx
          omega
    exact key V h.ent h.asc
  · obtain ⟨x, hx, e⟩ := List.mem_filterMap.1 hy
    exact (canE_some (h.ent x hx) e).2.2.1
theorem canV_of {V : List (Int × Int × List Iv)} (h : GoodV V) (hc : ∀ y ∈ V, canonB y.2.1 y.2.2 = true) : canV V = true := by
  unfold canV
  rw [List.all_eq_true]
  intro x hx
  rw [okN_good (h.ent x hx), hc x hx]; rfl
theorem canonV_canonical {V : List (Int × Int × List Iv)} (h : GoodV V) : (canV (canonV V) && rightV (canonV V)) = true := by
  obtain ⟨h1, h2⟩ := canonV_good h
  rw [canV_of h1 h2, right_of_good h1]; rfl
theorem canonV_id {V : List (Int × Int × List Iv)} (h : GoodV V) (hc : ∀ y ∈ V, canonB y.2.1 y.2.2 = true) : canonV V = V := filterMap_self fun x hx => canE_id (h.ent x hx) (hc x hx)
theorem canonV_idem {V : List (Int × Int × List Iv)} (h : GoodV V) : canonV (canonV V) = canonV V := canonV_id (canonV_good h).1 (canonV_good h).2
theorem canonV_self {V : List (Int × Int × List Iv)} (h : GoodV V) : decide (canonV V = V) = (canV V && rightV V) := by
  rw [right_of_good h, Bool.and_true]
  cases hc : canV V with
  | true =>
    unfold canV at hc
    rw [List.all_eq_true] at hc
    have : canonV V = V := canonV_id h fun y hy => by have := hc y hy; rw [Bool.and_eq_true] at this; exact this.2
    simp [this]
  | false =>
    have : canonV V ≠ V := fun e => by
      have h1 := canV_of (canonV_good h).1 (canonV_good h).2
      rw [e, hc] at h1; cases h1
    simp [this]
theorem canonV_len (V : List (Int × Int × List Iv)) : (canonV V).length ≤ V.length := List.length_filterMap_le _ _
theorem hasV_iff {V : List (Int × Int × List Iv)} (h : V.Pairwise fun x y => x.1 < y.1) (r c : Int) : hasV V r c = true ↔ ∃ x ∈ V, x.1 = r ∧ hasE x.2.1 x.2.2 c = true := by
  unfold hasV
  cases hf : V.findIdx? (fun x => decide (x.1 = r)) with
  | none =>
    rw [List.findIdx?_eq_none_iff] at hf
    constructor
    · intro e; cases e
    · intro ⟨x, hx, hr, _⟩
      have := hf x hx
      simp [hr] at this
  | some k =>
    rw [List.findIdx?_eq_some_iff_getElem] at hf
    obtain ⟨hk, hd, _⟩ := hf
    have hx : V[k]? = some V[k] := by simp [hk]
    have hr : (V[k]).1 = r := by simpa using hd
    simp only [hx]
    constructor
    · intro e; exact ⟨V[k], List.getElem_mem hk, hr, e⟩
    intro ⟨y, hy, hyr, hyc⟩
    obtain ⟨j, hj, ej⟩ := List.mem_iff_getElem.1 hy
    have hp := List.pairwise_iff_getElem.1 h
    have : j = k := by
      rcases Nat.lt_trichotomy j k with hlt | he | hgt
      · have := hp j k hj hk hlt; rw [ej, hyr, hr] at this; omega
      · exact he
      · have := hp k j hk hj hgt; rw [ej, hyr, hr] at this; omega
    subst this
    rw [ej]; exact hyc
theorem canonV_has {V : List (Int × Int × List Iv)} (h : GoodV V) (r : Int) {c : Int} (hc : 0 ≤ c) : hasV (canonV V) r c = hasV V r c := by
  rw [Bool.eq_iff_iff, hasV_iff (canonV_good h).1.asc, hasV_iff h.asc]
  constructor
  · rintro ⟨y, hy, hr, hh⟩
    obtain ⟨x, hx, e⟩ := List.mem_filterMap.1 hy
    obtain ⟨h1, h2, _, h4⟩ := canE_some (h.ent x hx) e
    refine ⟨x, hx, by omega, ?_⟩
    rw [← known_has (h.ent x hx) hc, ← h4, known_has h2 hc]; exact hh
  · rintro ⟨x, hx, hr, hh⟩
    have hne : knownL x.2.1 x.2.2 ≠ [] := fun e => by
      rw [← known_has (h.ent x hx) hc, e] at hh; cases hh
    have e : canE x = some (x.1, topL (knownL x.2.1 x.2.2), holesL (knownL x.2.1 x.2.2)) := by unfold canE; rw [if_neg hne]
    obtain ⟨h1, h2, _, h4⟩ := canE_some (h.ent x hx) e
    refine ⟨_, List.mem_filterMap.2 ⟨x, hx, e⟩, hr, ?_⟩
    rw [← known_has h2 hc, h4, known_has (h.ent x hx) hc]; exact hh
theorem cmpL_self : ∀ A : List Int, cmpL A A = 0
  | [] => rfl
  | x :: a => by unfold cmpL; rw [if_neg (by omega), if_neg (by omega)]; exact cmpL_self a
theorem cmpL_neg : ∀ A B : List Int, cmpL B A = - cmpL A B
  | [], [] => rfl
  | [], _ :: _ => rfl
  | _ :: _, [] => rfl
  | x :: a, y :: b => by
    unfold cmpL
    have := cmpL_neg a b
    by_cases h1 : x < y
    · rw [if_neg (by omega), if_pos h1, if_pos h1]; rfl
    · by_cases h2 : y < x
      · rw [if_pos h2, if_neg h1, if_pos h2]
      · rw [if_neg h2, if_neg h1, if_neg h1, if_neg h2]; exact this
theorem cmpL_zero : ∀ {A B : List Int}, cmpL A B = 0 → A = B
  | [], [], _ => rfl
  | x :: a, y :: b, h => by
    unfold cmpL at h
    by_cases h1 : x < y
    · rw [if_pos h1] at h; cases h
    · rw [if_neg h1] at h
      by_cases h2 : y < x
      · rw [if_pos h2] at h; cases h
      · rw [if_neg h2] at h
        rw [cmpL_zero h, show x = y by omega]
theorem cmpL_trans : ∀ {A B C : List Int}, cmpL A B ≤ 0 → cmpL B C ≤ 0 → cmpL A C ≤ 0
  | [], _, [], _, _ => by decide
  | [], _, _ :: _, _, _ => by show (-1 : Int) ≤ 0; decide
  | _ :: _, [], _, h, _ => absurd (show (1 : Int) ≤ 0 from h) (by decide)
  | _ :: _, _ :: _, [], _, h => absurd (show (1 : Int) ≤ 0 from h) (by decide)
  | x :: a, y :: b, z :: c, h, h' => by
    unfold cmpL at h h' ⊢
    by_cases h1 : x < y
    · by_cases h3 : y < z
      · rw [if_pos (by omega)]; decide
      · rw [if_neg h3] at h'
        by_cases h4 : z < y
        · rw [if_pos h4] at h'; exact absurd h' (by decide)
        · rw [if_pos (by omega)]; decide
    · rw [if_neg h1] at h
      by_cases h2 : y < x
      · rw [if_pos h2] at h; exact absurd h (by decide)
      · rw [if_neg h2] at h
        by_cases h3 : y < z
        · rw [if_pos (by omega)]; decide
        · rw [if_neg h3] at h'
          by_cases h4 : z < y
          · rw [if_pos h4] at h'; exact absurd h' (by decide)
          · rw [if_neg h4] at h'
            rw [if_neg (by omega), if_neg (by omega)]
            exact cmpL_trans h h'
theorem ivN_inj : ∀ {H H' : List Iv}, ivN H = ivN H' → H = H'
  | [], [], _ => rfl
  | [], y :: H', h => by have := congrArg List.length h; rw [ivN_len, ivN_len] at this; simp at this
  | y :: H, [], h => by have := congrArg List.length h; rw [ivN_len, ivN_len] at this; simp at this
  | y :: H, y' :: H', h => by
    unfold ivN at h
    rw [List.flatMap_cons, List.flatMap_cons] at h
    obtain ⟨h1, h2⟩ := List.append_inj h rfl
    rw [ivN_inj (show ivN H = ivN H' from h2)]
    have a1 := (List.cons.inj h1).1
    have a2 := (List.cons.inj (List.cons.inj h1).2).1
    rw [show y = y' from Prod.ext a1 a2]
theorem ent_inj : ∀ {V V' : List (Int × Int × List Iv)}, V.length = V'.length → V.flatMap entN = V'.flatMap entN → V = V'
  | [], [], _, _ => rfl
  | [], _ :: _, h, _ => by simp at h
  | _ :: _, [], h, _ => by simp at h
  | x :: V, x' :: V', hl, h => by
    rw [List.flatMap_cons, List.flatMap_cons] at h
    unfold entN at h
    simp only [List.cons_append, List.nil_append, List.cons.injEq] at h
    obtain ⟨h1, h2, h3, h4⟩ := h
    have hll : (ivN x.2.2).length = (ivN x'.2.2).length := by rw [ivN_len, ivN_len]; omega
    obtain ⟨h5, h6⟩ := List.append_inj h4 hll
    have h7 := ivN_inj h5
    rw [ent_inj (V := V) (V' := V') (by simpa using hl) h6, show x = x' from Prod.ext h1 (Prod.ext h2 h7)]
theorem nums_inj {V V' : List (Int × Int × List Iv)} (h : numsV V = numsV V') : V = V' := by
  unfold numsV at h
  obtain ⟨h1, h2⟩ := List.cons.inj h
  exact ent_inj (by omega) h2
theorem cmp_same (V V' : List (Int × Int × List Iv)) : decide (cmpL (numsV V) (numsV V') = 0) = decide (V = V') := by
  by_cases h : V = V'
  · subst h; simp [cmpL_self]
  · have : cmpL (numsV V) (numsV V') ≠ 0 := fun e => h (nums_inj (cmpL_zero e))
    simp [h, this]
end Go.Proofs.YtgeggdaokjimjaaDoor
