/- The changes of two lists merged, and the pieces between them: plain mathematics. No conditions. -/
import Derived.Test.YtnlbohaealkelaaDoorOAlg
namespace Go.Proofs.YtnlbohaealkelaaDoor
/-- The numbers at which the membership in a list changes. -/
def edgeL (U : Int) : List Iv → List Int
  | [] => []
  | y :: l => y.1 :: (if y.2 < U then (y.2 + 1) :: edgeL U l else [])
/-- A change: the number, and the membership from there on. -/
abbrev Ch := Int × Bool × Bool
/-- The changes of two lists in ascending order. p, q: the membership in front. -/
def mg : Nat → List Int → List Int → Bool → Bool → List Ch
  | 0, _, _, _, _ => []
  | _ + 1, [], [], _, _ => []
  | n + 1, x :: xs, [], p, q => (x, !p, q) :: mg n xs [] (!p) q
  | n + 1, [], y :: ys, p, q => (y, p, !q) :: mg n [] ys p (!q)
  | n + 1, x :: xs, y :: ys, p, q =>
    if x < y then (x, !p, q) :: mg n xs (y :: ys) (!p) q
    else if y < x then (y, p, !q) :: mg n (x :: xs) ys p (!q)
    else (x, !p, !q) :: mg n xs ys (!p) (!q)
/-- The pieces that are taken. -/
def pc (U : Int) (f : Bool → Bool → Bool) : List Ch → Int → Bool → List Iv
  | [], s, t => if t then [(s, U)] else []
  | x :: r, s, t => if f x.2.1 x.2.2 = t then pc U f r s t else if t then (s, x.1 - 1) :: pc U f r x.1 false else pc U f r x.1 true
/-- The membership at a number, off the changes. -/
def memE : List Int → Bool → Int → Bool
  | [], p, _ => p
  | e :: r, p, x => if e ≤ x then memE r (!p) x else p
def valC (f : Bool → Bool → Bool) : List Ch → Bool → Int → Bool
  | [], t, _ => t
  | c :: r, t, x => if c.1 ≤ x then valC f r (f c.2.1 c.2.2) x else t
theorem valC_cons (f : Bool → Bool → Bool) (c : Ch) (r : List Ch) (t : Bool) (x : Int) : valC f (c :: r) t x = if c.1 ≤ x then valC f r (f c.2.1 c.2.2) x else t := rfl
/-- Ascending, beyond a bound, up to U. -/
def upE (U : Int) : Int → List Int → Prop
  | _, [] => True
  | b, e :: r => b < e ∧ e ≤ U ∧ upE U e r
def upC (U : Int) : Int → List Ch → Prop
  | _, [] => True
  | b, c :: r => b < c.1 ∧ c.1 ≤ U ∧ upC U c.1 r
theorem memE_before {U : Int} {l : List Int} {b x : Int} (p : Bool) (h : upE U b l) (hx : x ≤ b) : memE l p x = p := by
  cases l with
  | nil => rfl
  | cons e r => unfold memE; rw [if_neg (by have := h.1; omega)]
theorem valC_before {U : Int} {f : Bool → Bool → Bool} {l : List Ch} {b x : Int} (t : Bool) (h : upC U b l) (hx : x ≤ b) : valC f l t x = t := by
  cases l with
  | nil => rfl
  | cons e r => unfold valC; rw [if_neg (by have := h.1; omega)]
theorem edge_up {U : Int} : ∀ {l : List Iv} {b : Int}, canon l → (∀ y ∈ l, y.2 ≤ U) → (∀ y, l.head? = some y → b < y.1) → upE U b (edgeL U l)
  | [], _, _, _, _ => trivial
  | y :: l, b, ⟨h1, h2, h3⟩, hU, hb => by
    have hy := hU y (by simp)
    have hb := hb y rfl
    refine ⟨hb, by omega, ?_⟩
    split
    · rename_i hlt
      exact ⟨by omega, by omega, edge_up h3 (fun z hz => hU z (by simp [hz])) h2⟩
    · trivial
theorem edge_mem {U : Int} : ∀ {l : List Iv}, canon l → (∀ y ∈ l, y.2 ≤ U) → ∀ x, x ≤ U → memE (edgeL U l) false x = hasL l x
  | [], _, _, _, _ => rfl
  | y :: l, ⟨h1, h2, h3⟩, hU, x, hx => by
    have hy := hU y (by simp)
    have ih := edge_mem h3 (fun z hz => hU z (by simp [hz])) x hx
    have hcb := canon_behind l _ h3 h2
    rw [hasL_cons]
    unfold edgeL memE
    by_cases c1 : y.1 ≤ x
    · rw [if_pos c1]
      by_cases c2 : y.2 < U
      · rw [if_pos c2]
        unfold memE
        by_cases c3 : y.2 + 1 ≤ x
        · rw [if_pos c3, show inI y x = false by unfold inI; simp; omega]
          simpa using ih
        · rw [if_neg c3, show inI y x = true by unfold inI; simp; omega]
          rfl
      · rw [if_neg c2, show inI y x = true by unfold inI; simp; omega]
        rfl
    · rw [if_neg c1, show inI y x = false by unfold inI; simp; omega]
      symm
      rw [Bool.false_or, Bool.eq_false_iff]
      intro hh
      obtain ⟨z, hz, h4, h5⟩ := (hasL_iff _ _).1 hh
      have := hcb z hz
      omega
theorem edge_len (U : Int) : ∀ l : List Iv, (edgeL U l).length ≤ 2 * l.length
  | [] => by simp [edgeL]
  | y :: l => by
    have := edge_len U l
    unfold edgeL
    split <;> simp <;> omega
theorem mg_up {U : Int} : ∀ (n : Nat) {xs ys : List Int} {b : Int} (p q : Bool), upE U b xs → upE U b ys → upC U b (mg n xs ys p q)
  | 0, _, _, _, _, _, _, _ => trivial
  | n + 1, [], [], _, _, _, _, _ => trivial
  | n + 1, x :: xs, [], b, p, q, ⟨h1, h2, h3⟩, _ => ⟨h1, h2, mg_up n _ _ h3 trivial⟩
  | n + 1, [], y :: ys, b, p, q, _, ⟨h1, h2, h3⟩ => ⟨h1, h2, mg_up n _ _ trivial h3⟩
  | n + 1, x :: xs, y :: ys, b, p, q, ⟨h1, h2, h3⟩, ⟨k1, k2, k3⟩ => by
    unfold mg
    split
    · rename_i c; exact ⟨h1, h2, mg_up n _ _ h3 ⟨c, k2, k3⟩⟩
    · split
      · rename_i c; exact ⟨k1, k2, mg_up n _ _ ⟨c, h2, h3⟩ k3⟩
      · rename_i c d
        obtain rfl : x = y := by omega
        exact ⟨h1, h2, mg_up n _ _ h3 k3⟩
theorem mg_val {U : Int} (f : Bool → Bool → Bool) (x : Int) : ∀ (n : Nat) {xs ys : List Int} {b : Int} (p q : Bool), upE U b xs → upE U b ys → xs.length + ys.length ≤ n →
    valC f (mg n xs ys p q) (f p q) x = f (memE xs p x) (memE ys q x)
  | 0, [], [], _, _, _, _, _, _ => rfl
  | 0, _ :: _, _, _, _, _, _, _, h => by simp at h
  | 0, [], _ :: _, _, _, _, _, _, h => by simp at h
  | n + 1, [], [], _, _, _, _, _, _ => rfl
  | n + 1, u :: xs, [], b, p, q, ⟨h1, h2, h3⟩, _, hn => by
    unfold mg valC
    show (if u ≤ x then _ else _) = _
    by_cases c : u ≤ x
    · rw [if_pos c, mg_val f x n (!p) q h3 (ys := []) trivial (by simp at hn ⊢; omega)]
      simp only [memE]; rw [if_pos c]
    · rw [if_neg c]; simp only [memE]; rw [if_neg c]
  | n + 1, [], v :: ys, b, p, q, _, ⟨k1, k2, k3⟩, hn => by
    unfold mg valC
    show (if v ≤ x then _ else _) = _
    by_cases c : v ≤ x
    · rw [if_pos c, mg_val f x n p (!q) (xs := []) trivial k3 (by simp at hn ⊢; omega)]
      simp only [memE]; rw [if_pos c]
    · rw [if_neg c]; simp only [memE]; rw [if_neg c]
  | n + 1, u :: xs, v :: ys, b, p, q, ⟨h1, h2, h3⟩, ⟨k1, k2, k3⟩, hn => by
    unfold mg
    split
    · rename_i c
      unfold valC
      show (if u ≤ x then _ else _) = _
      by_cases d : u ≤ x
      · rw [if_pos d, mg_val f x n (!p) q h3 (ys := v :: ys) ⟨c, k2, k3⟩ (by simp at hn ⊢; omega)]
        rw [show memE (u :: xs) p x = memE xs (!p) x from by simp only [memE]; rw [if_pos d]]
      · rw [if_neg d, memE_before p (b := x) (l := u :: xs) ⟨by omega, h2, h3⟩ (Int.le_refl _), memE_before q (b := x) (l := v :: ys) ⟨by omega, k2, k3⟩ (Int.le_refl _)]
    · split
      · rename_i c
        unfold valC
        show (if v ≤ x then _ else _) = _
        by_cases d : v ≤ x
        · rw [if_pos d, mg_val f x n p (!q) (xs := u :: xs) ⟨c, h2, h3⟩ k3 (by simp at hn ⊢; omega)]
          rw [show memE (v :: ys) q x = memE ys (!q) x from by simp only [memE]; rw [if_pos d]]
        · rw [if_neg d, memE_before p (b := x) (l := u :: xs) ⟨by omega, h2, h3⟩ (Int.le_refl _), memE_before q (b := x) (l := v :: ys) ⟨by omega, k2, k3⟩ (Int.le_refl _)]
      · rename_i c d
        obtain rfl : u = v := by omega
        unfold valC
        show (if u ≤ x then _ else _) = _
        by_cases d : u ≤ x
        · rw [if_pos d, mg_val f x n (!p) (!q) h3 k3 (by simp at hn ⊢; omega)]
          simp only [memE]; rw [if_pos d, if_pos d]
        · rw [if_neg d]; simp only [memE]; rw [if_neg d, if_neg d]
/-- The pieces: a correct list, beyond the start, of the numbers at which the value holds. -/
theorem pc_spec {U : Int} (f : Bool → Bool → Bool) : ∀ (C : List Ch) (s b : Int) (t : Bool), upC U b C → (t = true → s ≤ b ∧ s ≤ U) →
    canon (pc U f C s t) ∧ (∀ y, (pc U f C s t).head? = some y → if t then y.1 = s else b < y.1) ∧
    (∀ x, hasL (pc U f C s t) x = (decide (x ≤ U) && (if t then decide (s ≤ x) && valC f C true x else valC f C false x)))
  | [], s, b, t, _, ht => by
    cases t with
    | false => exact ⟨trivial, by simp [pc], by simp [pc, hasL, valC]⟩
    | true =>
      have h := ht rfl
      refine ⟨⟨h.2, by simp, trivial⟩, by simp [pc], fun x => ?_⟩
      simp only [pc, if_pos, hasL, List.any_cons, List.any_nil, Bool.or_false, valC, Bool.and_true]
      unfold inI
      rw [Bool.and_comm]
  | c :: r, s, b, t, ⟨h1, h2, h3⟩, ht => by
    unfold pc
    by_cases e : f c.2.1 c.2.2 = t
    · rw [if_pos e]
      obtain ⟨k1, k2, k3⟩ := pc_spec f r s c.1 t h3 (fun h => by have := ht h; omega)
      refine ⟨k1, ?_, fun x => ?_⟩
      · intro y hy
        have := k2 y hy
        cases t with
        | true => exact this
        | false => simp only [Bool.false_eq_true, if_false] at this ⊢; omega
      · rw [k3 x]
        rw [valC_cons, valC_cons]
        rw [e]
        by_cases d : c.1 ≤ x
        · rw [if_pos d, if_pos d]
          cases t <;> rfl
        · rw [if_neg d, if_neg d]
          rw [valC_before true h3 (by omega), valC_before false h3 (by omega)]
    · rw [if_neg e]
      cases t with
      | true =>
        rw [if_pos rfl]
        have ef : f c.2.1 c.2.2 = false := by cases hf : f c.2.1 c.2.2 with | true => exact absurd hf e | false => rfl
        have hs := ht rfl
        obtain ⟨k1, k2, k3⟩ := pc_spec f r c.1 c.1 false h3 (fun h => by cases h)
        simp only [Bool.false_eq_true, if_false] at k2 k3
        refine ⟨⟨by simp only; omega, fun y hy => by have := k2 y hy; simp only; omega, k1⟩, by simp, fun x => ?_⟩
        rw [hasL_cons, k3 x]
        rw [valC_cons, valC_cons]
        rw [ef]
        simp only [if_true]
        by_cases d : c.1 ≤ x
        · rw [if_pos d, show inI (s, c.1 - 1) x = false by unfold inI; simp; omega, show decide (s ≤ x) = true by simp; omega]; simp
        · rw [if_neg d, valC_before false h3 (by omega)]
          unfold inI
          rw [show decide (x ≤ c.1 - 1) = true by simp; omega, show decide (x ≤ U) = true by simp; omega]; simp
      | false =>
        rw [if_neg (by simp)]
        have ef : f c.2.1 c.2.2 = true := by cases hf : f c.2.1 c.2.2 with | false => exact absurd hf e | true => rfl
        obtain ⟨k1, k2, k3⟩ := pc_spec f r c.1 c.1 true h3 (fun _ => ⟨Int.le_refl _, h2⟩)
        simp only [if_true] at k2 k3
        refine ⟨k1, fun y hy => ?_, fun x => ?_⟩
        · have := k2 y hy; simp only [Bool.false_eq_true, if_false]; omega
        · rw [k3 x]
          rw [valC_cons, valC_cons]
          rw [ef]
          simp only [Bool.false_eq_true, if_false]
          by_cases d : c.1 ≤ x
          · rw [if_pos d, show decide (c.1 ≤ x) = true by simpa using d]; simp
          · rw [if_neg d, show decide (c.1 ≤ x) = false by simpa using d]; simp
/-- All changes of two lists. -/
def chL (U : Int) (a b : List Iv) : List Ch := mg ((edgeL U a).length + (edgeL U b).length) (edgeL U a) (edgeL U b) false false
/-- The pieces of two lists are the list of the operation. -/
theorem pc_op {U : Int} (h0U : 0 ≤ U) (f : Bool → Bool → Bool) (hf : f false false = false) {a b : List Iv} (ca : canon a) (cb : canon b) (ha : okL U a) (hb : okL U b) : pc U f (chL U a b) 0 false = opL U f a b := by
  have ea : upE U (-1) (edgeL U a) := edge_up ca (fun y hy => (ha y hy).2.2) (fun y hy => by have := ha y (List.mem_of_mem_head? hy); omega)
  have eb : upE U (-1) (edgeL U b) := edge_up cb (fun y hy => (hb y hy).2.2) (fun y hy => by have := hb y (List.mem_of_mem_head? hy); omega)
  obtain ⟨k1, k2, k3⟩ := pc_spec (U := U) f (chL U a b) 0 (-1) false (mg_up _ false false ea eb) (fun h => by cases h)
  refine op_unique h0U f hf ha hb k1 fun x => ?_
  rw [k3 x]
  simp only [Bool.false_eq_true, if_false]
  by_cases hx : x ≤ U
  · have hv := mg_val f x ((edgeL U a).length + (edgeL U b).length) false false ea eb (Nat.le_refl _)
    rw [hf] at hv
    rw [show chL U a b = mg ((edgeL U a).length + (edgeL U b).length) (edgeL U a) (edgeL U b) false false from rfl, hv, edge_mem ca (fun y hy => (ha y hy).2.2) x hx, edge_mem cb (fun y hy => (hb y hy).2.2) x hx]
    simp [hx]
  · rw [has_high ha (by omega), has_high hb (by omega), hf]; simp [hx]
/-- The changes, whatever the fuel. -/
theorem mg_fuel : ∀ (n m : Nat) (xs ys : List Int) (p q : Bool), xs.length + ys.length ≤ n → xs.length + ys.length ≤ m → mg n xs ys p q = mg m xs ys p q
  | 0, 0, _, _, _, _, _, _ => rfl
  | 0, m + 1, [], [], _, _, _, _ => rfl
  | 0, m + 1, _ :: _, _, _, _, h, _ => by simp at h
  | 0, m + 1, [], _ :: _, _, _, h, _ => by simp at h
  | n + 1, 0, [], [], _, _, _, _ => rfl
  | n + 1, 0, _ :: _, _, _, _, _, h => by simp at h
  | n + 1, 0, [], _ :: _, _, _, _, h => by simp at h
  | n + 1, m + 1, [], [], _, _, _, _ => rfl
  | n + 1, m + 1, x :: xs, [], p, q, h, k => by
    show _ :: _ = _ :: _
    rw [mg_fuel n m xs [] (!p) q (by simp at h ⊢; omega) (by simp at k ⊢; omega)]
  | n + 1, m + 1, [], y :: ys, p, q, h, k => by
    show _ :: _ = _ :: _
    rw [mg_fuel n m [] ys p (!q) (by simp at h ⊢; omega) (by simp at k ⊢; omega)]
  | n + 1, m + 1, x :: xs, y :: ys, p, q, h, k => by
    unfold mg
    rw [mg_fuel n m xs (y :: ys) (!p) q (by simp at h ⊢; omega) (by simp at k ⊢; omega), mg_fuel n m (x :: xs) ys p (!q) (by simp at h ⊢; omega) (by simp at k ⊢; omega), mg_fuel n m xs ys (!p) (!q) (by simp at h ⊢; omega) (by simp at k ⊢; omega)]
def mgL (xs ys : List Int) (p q : Bool) : List Ch := mg (xs.length + ys.length) xs ys p q
theorem mgL_nil (p q : Bool) : mgL [] [] p q = [] := rfl
theorem mgL_left (x : Int) (xs : List Int) (p q : Bool) : mgL (x :: xs) [] p q = (x, !p, q) :: mgL xs [] (!p) q := rfl
theorem mgL_right (y : Int) (ys : List Int) (p q : Bool) : mgL [] (y :: ys) p q = (y, p, !q) :: mgL [] ys p (!q) := by
  unfold mgL
  rw [show ([] : List Int).length + (y :: ys).length = ys.length + 1 by simp]
  show _ :: _ = _
  rw [mg_fuel ys.length (([] : List Int).length + ys.length) [] ys p (!q) (by simp) (by simp)]
theorem mgL_lt {x y : Int} (h : x < y) (xs ys : List Int) (p q : Bool) : mgL (x :: xs) (y :: ys) p q = (x, !p, q) :: mgL xs (y :: ys) (!p) q := by
  unfold mgL
  rw [show (x :: xs).length + (y :: ys).length = (xs.length + (y :: ys).length) + 1 by simp; omega]
  conv => lhs; unfold mg
  rw [if_pos h]
theorem mgL_gt {x y : Int} (h : y < x) (xs ys : List Int) (p q : Bool) : mgL (x :: xs) (y :: ys) p q = (y, p, !q) :: mgL (x :: xs) ys p (!q) := by
  unfold mgL
  rw [show (x :: xs).length + (y :: ys).length = ((x :: xs).length + ys.length) + 1 by simp; omega]
  conv => lhs; unfold mg
  rw [if_neg (by omega), if_pos h]
theorem mgL_eq (x : Int) (xs ys : List Int) (p q : Bool) : mgL (x :: xs) (x :: ys) p q = (x, !p, !q) :: mgL xs ys (!p) (!q) := by
  unfold mgL
  rw [show (x :: xs).length + (x :: ys).length = (xs.length + ys.length + 1) + 1 by simp; omega]
  conv => lhs; unfold mg
  rw [if_neg (by omega), if_neg (by omega), mg_fuel (xs.length + ys.length + 1) (xs.length + ys.length) xs ys (!p) (!q) (by omega) (by omega)]
/-- Where the pieces stand behind some changes. -/
structure StP (U : Int) (f : Bool → Bool → Bool) (C : List Ch) (L pre : List Iv) (s : Int) (t : Bool) (front : List Ch) : Prop where
  list : ∀ rest, front ++ rest = C → pre ++ pc U f rest s t = L
  up : ∀ rest, front ++ rest = C → upC U (if t then s else -1) rest
  nn : t = true → 0 ≤ s
section
variable {U : Int} {f : Bool → Bool → Bool} {C front : List Ch} {L pre : List Iv} {s : Int} {t : Bool} {x : Ch}
theorem StP.rest (hx : front ++ [x] <+: C) : ∃ r, front ++ x :: r = C := by
  obtain ⟨r, hr⟩ := hx
  exact ⟨r, by rw [← hr]; simp⟩
theorem StP.start (hu : upC U (-1) C) (hl : pc U f C 0 false = L) : StP U f C L [] 0 false [] :=
  ⟨fun rest h => by rw [List.nil_append] at h ⊢; rw [h]; exact hl, fun rest h => by rw [List.nil_append] at h; rw [h]; exact hu, fun h => by cases h⟩
theorem upC_low {b b' : Int} (h : b' ≤ b) : ∀ {l : List Ch}, upC U b l → upC U b' l
  | [], _ => trivial
  | _ :: _, ⟨h1, h2, h3⟩ => ⟨by omega, h2, h3⟩
theorem StP.range (h : StP U f C L pre s t front) (hx : front ++ [x] <+: C) : 0 ≤ x.1 ∧ x.1 ≤ U ∧ (t = true → 0 ≤ s ∧ s < x.1) := by
  obtain ⟨r, hr⟩ := StP.rest hx
  obtain ⟨h1, h2, _⟩ := h.up _ hr
  cases t with
  | true => have := h.nn rfl; simp only [if_true] at h1; exact ⟨by omega, h2, fun _ => ⟨this, h1⟩⟩
  | false => simp only [Bool.false_eq_true, if_false] at h1; exact ⟨by omega, h2, fun h => by cases h⟩
theorem StP.same (h : StP U f C L pre s t front) (hx : front ++ [x] <+: C) (hf : f x.2.1 x.2.2 = t) : StP U f C L pre s t (front ++ [x]) := by
  have _ := hx
  refine ⟨fun rest hr => ?_, fun rest hr => ?_, h.nn⟩
  · have := h.list (x :: rest) (by rw [← hr]; simp)
    unfold pc at this
    rwa [if_pos hf] at this
  · obtain ⟨h1, h2, h3⟩ := h.up (x :: rest) (by rw [← hr]; simp)
    exact upC_low (by omega) h3
theorem StP.stop (h : StP U f C L pre s true front) (hx : front ++ [x] <+: C) (hf : f x.2.1 x.2.2 = false) : StP U f C L (pre ++ [(s, x.1 - 1)]) x.1 false (front ++ [x]) ∧ pre ++ [(s, x.1 - 1)] <+: L := by
  have key : ∀ rest, front ++ x :: rest = C → (pre ++ [(s, x.1 - 1)]) ++ pc U f rest x.1 false = L := by
    intro rest hr
    have := h.list (x :: rest) hr
    unfold pc at this
    rw [if_neg (by rw [hf]; simp), if_pos rfl] at this
    rw [← this]; simp
  refine ⟨⟨fun rest hr => key rest (by rw [← hr]; simp), fun rest hr => ?_, fun h => by cases h⟩, ?_⟩
  · obtain ⟨h1, h2, h3⟩ := h.up (x :: rest) (by rw [← hr]; simp)
    have := (h.range hx).1
    exact upC_low (by simp; omega) h3
  · obtain ⟨r, hr⟩ := StP.rest hx
    exact ⟨_, key r hr⟩
theorem StP.go (h : StP U f C L pre s false front) (hx : front ++ [x] <+: C) (hf : f x.2.1 x.2.2 = true) : StP U f C L pre x.1 true (front ++ [x]) := by
  refine ⟨fun rest hr => ?_, fun rest hr => ?_, fun _ => (h.range hx).1⟩
  · have := h.list (x :: rest) (by rw [← hr]; simp)
    unfold pc at this
    rwa [if_neg (by rw [hf]; simp), if_neg (by simp)] at this
  · obtain ⟨h1, h2, h3⟩ := h.up (x :: rest) (by rw [← hr]; simp)
    exact h3
theorem StP.done (h : StP U f C L pre s false C) : pre = L := by
  have := h.list [] (by simp)
  simpa [pc] using this
theorem StP.last (h : StP U f C L pre s true C) : pre ++ [(s, U)] = L := by
  have := h.list [] (by simp)
  simpa [pc] using this
end
theorem chL_up {U : Int} {a b : List Iv} (ca : canon a) (cb : canon b) (ha : okL U a) (hb : okL U b) : upC U (-1) (chL U a b) :=
  mg_up _ false false (edge_up ca (fun y hy => (ha y hy).2.2) (fun y hy => by have := ha y (List.mem_of_mem_head? hy); omega)) (edge_up cb (fun y hy => (hb y hy).2.2) (fun y hy => by have := hb y (List.mem_of_mem_head? hy); omega))
end Go.Proofs.YtnlbohaealkelaaDoor
