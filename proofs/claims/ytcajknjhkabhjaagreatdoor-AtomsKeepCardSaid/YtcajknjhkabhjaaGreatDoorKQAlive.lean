/- The example of chapter 11, in every state. Conditions: the contracts of package scope, and the fixed value of errors.errorType. -/
import Derived.Test.YtcajknjhkabhjaaGreatDoorKKBits
import Derived.Test.YtcajknjhkabhjaaGreatDoorKPCodeN
import Derived.Test.YtcajknjhkabhjaaGreatDoorKNKeeps
import Derived.Sort.Grow
import Derived.Test.YtcajknjhkabhjaaGreatDoorKRPdq
namespace Go.Proofs.YtcajknjhkabhjaaGreatDoor
open Go.RowKit
theorem g15 : GoodL [((1 : Int), (5 : Int))] := good_one (by decide) (by decide) (by decide)
theorem g49 : GoodL [((4 : Int), (9 : Int))] := good_one (by decide) (by decide) (by decide)
theorem one_good11 (r m : Int) (h0 : 0 ≤ m) (h1 : m ≤ 18446744073709551615) : GoodV [(r, m, ([] : List Iv))] := ⟨fun x hx => by rw [List.mem_singleton.1 hx]; exact ent10 h0 h1, List.pairwise_singleton _ _⟩
theorem kn_one11 (r0 m : Int) (h0 : 0 ≤ m) (h1 : m ≤ 18446744073709551615) (r : Int) : knV [(r0, m, ([] : List Iv))] r = if r = r0 then [(0, m)] else [] := by
 by_cases h : r = r0
 ·subst h
  rw [if_pos rfl, ← known_nil h0 h1]
  exact knV_mem (one_good11 r m h0 h1).asc (x := (r, m, [])) (by simp)
 ·rw [if_neg h]
  exact knV_none fun x hx e => by rw [List.mem_singleton.1 hx] at e; exact h e.symm
theorem kno_two {w : World} {b : Nat} {s1 v1 s2 v2 : Value} {x y : List Iv × List (Int × Int × List Iv)} (c0 : w.cell? ⟨b, 0, none⟩ = some s1) (c1 : w.cell? ⟨b, 1, none⟩ = some v1) (c2 : w.cell? ⟨b, 2, none⟩ = some s2) (c3 : w.cell? ⟨b, 3, none⟩ = some v2) (h1 : FragM w (s1, v1) x) (h2 : FragM w (s2, v2) y) :
 KnoS w (.slice (some ⟨b, 0, none⟩) 2 2) [x, y] := by
 refine ⟨⟨⟨[(s1, v1), (s2, v2)], ⟨_, _, rfl, (by show (2 : Nat) ≤ maxLen; decide), fun _ => ⟨b, 0, rfl, fun i e he => ?_⟩⟩, rfl, fun i e z he hx => ?_⟩, by simp⟩, sane_lit _ _ _ (Nat.le_refl _)⟩
 ·match i, he with
  | 0, he => simp at he; subst he; exact ⟨c0, c1⟩
  | 1, he => simp at he; subst he; exact ⟨c2, c3⟩
 ·match i, he, hx with
  | 0, he, hx => simp at he hx; subst he; subst hx; exact h1
  | 1, he, hx => simp at he hx; subst he; subst hx; exact h2
theorem vec_lit11 {w : World} {b : Nat} {r m : Int} (c0 : w.cell? ⟨b, 0, none⟩ = some (.int .u64 r)) (c1 : w.cell? ⟨b, 1, none⟩ = some (.int .u64 m)) (c2 : w.cell? ⟨b, 2, none⟩ = some (.slice none 0 0)) (hr : 0 ≤ r ∧ r ≤ 18446744073709551615) (hm : 0 ≤ m ∧ m ≤ 18446744073709551615) : VecS w (.slice (some ⟨b, 0, none⟩) 1 1) [(r, m, [])] :=
 vec_one9 c0 c1 c2 ⟨ivs_nil _, (fun x hx => by cases hx), sane_nil, hm.1, hm.2, by simp⟩ hr
end Go.Proofs.YtcajknjhkabhjaaGreatDoor
namespace Go.Proofs.YtcajknjhkabhjaaGreatDoor
open Go.RowKit
theorem FragIn.call {lim : Nat} {w w' : World} {f : Value × Value} (h : FragIn lim w f) (hb : Below w.heap.size w w') : FragIn lim w' f := by
 obtain ⟨h1, h2, h3, es, h4, h5⟩ := h
 exact ⟨h1, h2.call hb, h3, es, h4.call hb, fun e he => (h5 e he).call hb⟩
theorem knoArg.few {w : World} {v : Value} (h : knoArg w v) : (∃ p n c, v = .slice p n c) ∧ ∃ b, (∀ W, Below w.heap.size w W → Calls Tryz.prog 35 #[v] W (IsEnd b W)) ∧ (b = true → ∃ F, KnoS w v F ∧ smallK F) := by
 obtain ⟨hs, fs, hv, hi⟩ := h
 have each : ∀ i, i < fs.length → ∃ b, ∀ f, fs[i]? = some f → (∀ W, Below w.heap.size w W → Calls Tryz.prog 52 #[f.2] W (IsEnd b W)) ∧ (b = true → ∃ V, VecS w f.2 V ∧ V.length ≤ 20 ∧ ∀ x ∈ V, x.2.2.length ≤ 30) := by
  intro i hlt
  obtain ⟨_, b, h1, h2⟩ := (frag_vec (hi _ (List.getElem_mem hlt))).few
  refine ⟨b, fun f hf => ?_⟩
  obtain ⟨_, rfl⟩ := List.getElem?_eq_some_iff.1 hf
  exact ⟨h1, h2⟩
 obtain ⟨B, hB⟩ := Go.Deep.choose_lt each
 have lt : ∀ {i f}, fs[i]? = some f → i < fs.length := fun hf => (List.getElem?_eq_some_iff.1 hf).1
 refine ⟨?_, fewKB fs B, fun W hb => few11_any v fs W (hv.call hb) (fun f hf => (hi f hf).call hb) B (fun i f hf W2 hb2 => (hB i (lt hf) f hf).1 W2 (hb.trans (hb2.mono hb.size))), fun hf => ?_⟩
 ·obtain ⟨p, cap, e, _⟩ := hv; exact ⟨p, _, cap, e⟩
 ·obtain ⟨h1, h2⟩ := fewKB_true hf
  obtain ⟨F, h3, h4⟩ := few_kno hv hi B (fun i f hf hb => (hB i (lt hf) f hf).2 hb) h1 h2
  exact ⟨F, ⟨h3, hs⟩, h4⟩
theorem KnoM.all1 {w : World} {v : Value} {F : List (List Iv × List (Int × Int × List Iv))} (h : KnoM w v F) : (∀ x ∈ F, All64 x.1) ∧ ∀ x ∈ F, ∀ y ∈ x.2, All64 y.2.2 ∧ 0 ≤ y.2.1 ∧ y.2.1 ≤ UM := by
 have key : ∀ x ∈ F, All64 x.1 ∧ ∀ y ∈ x.2, All64 y.2.2 ∧ 0 ≤ y.2.1 ∧ y.2.1 ≤ UM := by
  rintro ⟨L, V⟩ hx
  obtain ⟨i, hi⟩ := List.mem_iff_getElem?.1 hx
  obtain ⟨_, _, _, _, _, _, _, _, _, _, ha⟩ := h.elem hi
  exact ⟨ha.all, ha.vec.m.all64⟩
 exact ⟨fun x hx => (key x hx).1, fun x hx => (key x hx).2⟩
end Go.Proofs.YtcajknjhkabhjaaGreatDoor
namespace Go.Proofs.YtcajknjhkabhjaaGreatDoor
open Go.RowKit
def Fits : List (List (Int × Int × List Iv)) → Nat → Nat → Prop
 | [], _, _ => True
 | V :: st, a, b => ∃ a1 b1, smallV a1 b1 V ∧ a1 ≤ a ∧ b1 + 3 ≤ b ∧ Fits st (a - a1) (b - (b1 + 3))
theorem Fits.push {V : List (Int × Int × List Iv)} {st : List (List (Int × Int × List Iv))} {a b n m : Nat} (h : Fits st a b) (hV : smallV n m V) : Fits (V :: st) (a + n) (b + (m + 3)) :=
 ⟨n, m, hV, by omega, by omega, by rw [Nat.add_sub_cancel, Nat.add_sub_cancel]; exact h⟩
theorem Fits.fold {A B : List (Int × Int × List Iv)} {st : List (List (Int × Int × List Iv))} {a b : Nat} (gA : GoodV A) (gB : GoodV B) (h : Fits (B :: A :: st) a b) : Fits (opV orL A B :: st) a b := by
 obtain ⟨a1, b1, s1, h1, h2, a2, b2, s2, h3, h4, h5⟩ := h
 refine ⟨a2 + a1, b2 + b1 + 3, small_or gA gB s2 s1, by omega, by omega, ?_⟩
 rw [show a - (a2 + a1) = a - a1 - a2 by omega, show b - (b2 + b1 + 3 + 3) = b - (b1 + 3) - (b2 + 3) by omega]
 exact h5
theorem Fits.mono {st : List (List (Int × Int × List Iv))} : ∀ {a b a' b' : Nat}, Fits st a b → a ≤ a' → b ≤ b' → Fits st a' b' := by
 induction st with
 | nil => intros; trivial
 | cons V st ih =>
   rintro a b a' b' ⟨a1, b1, s, h1, h2, h3⟩ ha hb
   exact ⟨a1, b1, s, by omega, by omega, ih h3 (by omega) (by omega)⟩
theorem Fits.two {A B : List (Int × Int × List Iv)} {st : List (List (Int × Int × List Iv))} {a b : Nat} (h : Fits (B :: A :: st) a b) : smallV a b A ∧ smallV a b B := by
 obtain ⟨a1, b1, s1, h1, h2, a2, b2, s2, h3, h4, _⟩ := h
 exact ⟨s2.mono (by omega) (by omega), s1.mono (by omega) (by omega)⟩
def bV (V : List (Int × Int × List Iv)) : Nat := (V.map fun y => y.2.2.length).foldr max 0
def sumA (Vs : List (List (Int × Int × List Iv))) : Nat := (Vs.map List.length).sum
def sumB (Vs : List (List (Int × Int × List Iv))) : Nat := (Vs.map fun V => bV V + 3).sum
theorem bV_le : ∀ {V : List (Int × Int × List Iv)} {b : Nat}, (∀ y ∈ V, y.2.2.length ≤ b) → bV V ≤ b
 | [], _, _ => Nat.zero_le _
 | y :: V, b, h => by
   have := bV_le (V := V) fun z hz => h z (List.mem_cons_of_mem _ hz)
   have h1 := h y (by simp)
   unfold bV at this ⊢
   rw [List.map_cons, List.foldr_cons]
   omega
theorem le_bV : ∀ {V : List (Int × Int × List Iv)}, ∀ y ∈ V, y.2.2.length ≤ bV V
 | x :: V, y, hy => by
   have e : bV (x :: V) = max x.2.2.length (bV V) := rfl
   rcases List.mem_cons.1 hy with rfl | hy
   ·omega
   ·have := le_bV (V := V) y hy; omega
theorem small_self (V : List (Int × Int × List Iv)) : smallV V.length (bV V) V := ⟨Nat.le_refl _, le_bV⟩
theorem sumA_cons (V : List (Int × Int × List Iv)) (Vs : List (List (Int × Int × List Iv))) : sumA (V :: Vs) = V.length + sumA Vs := by unfold sumA; simp
theorem sumB_cons (V : List (Int × Int × List Iv)) (Vs : List (List (Int × Int × List Iv))) : sumB (V :: Vs) = (bV V + 3) + sumB Vs := by unfold sumB; simp
theorem sumA_snoc (Vs : List (List (Int × Int × List Iv))) (V : List (Int × Int × List Iv)) : sumA (Vs ++ [V]) = sumA Vs + V.length := by unfold sumA; simp
theorem sumB_snoc (Vs : List (List (Int × Int × List Iv))) (V : List (Int × Int × List Iv)) : sumB (Vs ++ [V]) = sumB Vs + (bV V + 3) := by unfold sumB; simp
theorem sum_sub {Vs Us : List (List (Int × Int × List Iv))} (h : Vs.Sublist Us) : sumA Vs ≤ sumA Us ∧ sumB Vs ≤ sumB Us := by
 unfold sumA sumB
 induction h with
 | slnil => exact ⟨Nat.le_refl _, Nat.le_refl _⟩
 | cons x _ ih => simp only [List.map_cons, List.sum_cons]; omega
 | cons_cons x _ ih => simp only [List.map_cons, List.sum_cons]; omega
theorem sum_le {n m k : Nat} : ∀ {Vs : List (List (Int × Int × List Iv))}, Vs.length ≤ k → (∀ V ∈ Vs, smallV n m V) → sumA Vs ≤ k * n ∧ sumB Vs ≤ k * (m + 3)
 | [], _, _ => ⟨Nat.zero_le _, Nat.zero_le _⟩
 | V :: Vs, hl, h => by
   obtain ⟨k, rfl⟩ : ∃ j, k = j + 1 := ⟨k - 1, by simp at hl; omega⟩
   obtain ⟨h1, h2⟩ := sum_le (Vs := Vs) (k := k) (by simpa using hl) fun U hU => h U (List.mem_cons_of_mem _ hU)
   have h3 := h V (by simp)
   have h4 := bV_le h3.2
   have h5 := h3.1
   rw [sumA_cons, sumB_cons, Nat.succ_mul, Nat.succ_mul]
   omega
structure StK (Vs st : List (List (Int × Int × List Iv))) : Prop where
 good : ∀ V ∈ st, GoodV V
 fits : Fits st (sumA Vs) (3 + sumB Vs)
 has : ∀ r c : Int, 0 ≤ c → st.any (fun V => hasV V r c) = Vs.any fun V => hasV V r c
 last : ∃ up B, st = up ++ [B] ∧ ∀ y ∈ B, canonB y.2.1 y.2.2 = true
theorem StK.start : StK [] [[]] :=
 ⟨fun V hV => (by obtain rfl := List.mem_singleton.1 hV; exact goodV_nil.1), ⟨0, 0, ⟨by simp, fun x hx => by cases hx⟩, by simp [sumA], by simp [sumB], trivial⟩, fun r c _ => by simp [hasV_nil], [], [], rfl, fun y hy => by cases hy⟩
theorem StK.push {Vs st : List (List (Int × Int × List Iv))} {V : List (Int × Int × List Iv)} (h : StK Vs st) (gV : GoodV V) : StK (Vs ++ [V]) (V :: st) := by
 refine ⟨fun U hU => ?_, ?_, fun r c hc => ?_, ?_⟩
 ·rcases List.mem_cons.1 hU with rfl | hU
  ·exact gV
  ·exact h.good U hU
 ·have := h.fits.push (small_self V)
  rw [sumA_snoc, sumB_snoc, ← Nat.add_assoc]
  exact this
 ·rw [List.any_cons, List.any_append, h.has r c hc]
  simp [Bool.or_comm]
 ·obtain ⟨up, B, e, hB⟩ := h.last
  exact ⟨V :: up, B, by rw [e]; rfl, hB⟩
theorem StK.fold {Vs st : List (List (Int × Int × List Iv))} {A B : List (Int × Int × List Iv)} (h : StK Vs (B :: A :: st)) : StK Vs (opV orL A B :: st) := by
 have gB := h.good B (by simp)
 have gA := h.good A (by simp)
 refine ⟨fun U hU => ?_, h.fits.fold gA gB, fun r c hc => ?_, ?_⟩
 ·rcases List.mem_cons.1 hU with rfl | hU
  ·exact or_good gA gB
  ·exact h.good U (by simp [hU])
 ·rw [← h.has r c hc, List.any_cons, List.any_cons, List.any_cons, hasV_kn (or_good gA gB) r hc, or_kn gA gB, or_has (knV_good gA r) (knV_good gB r), ← hasV_kn gA r hc, ← hasV_kn gB r hc, ← Bool.or_assoc, Bool.or_comm (hasV A r c)]
 ·obtain ⟨up, C, e, hC⟩ := h.last
  cases st with
  | nil => exact ⟨[], _, rfl, (opV_good (fun _ _ h h' => orL_good h h') gA gB).2⟩
  | cons V st =>
    match up, e with
    | [], e => simp at e
    | [x], e => simp at e
    | x :: y :: up, e =>
      simp only [List.cons_append, List.cons.injEq] at e
      exact ⟨opV orL A B :: up, C, by rw [e.2.2]; rfl, hC⟩
theorem StK.two {Vs st : List (List (Int × Int × List Iv))} {A B : List (Int × Int × List Iv)} (h : StK Vs (B :: A :: st)) (hl : sumA Vs ≤ 900 ∧ sumB Vs ≤ 900) : (GoodV A ∧ GoodV B) ∧ smallV 1000 1000 A ∧ smallV 1000 1000 B :=
 ⟨⟨h.good A (by simp), h.good B (by simp)⟩, h.fits.two.1.mono (by omega) (by omega), h.fits.two.2.mono (by omega) (by omega)⟩
def wthK (t : Int) : Nat → List (Value × Value) → List (List Iv × List (Int × Int × List Iv)) → List (Nat × (Value × Value) × List Iv × List (Int × Int × List Iv))
 | i, f :: fs, x :: F => if hasL x.1 t = true then (i, f, x) :: wthK t (i + 1) fs F else wthK t (i + 1) fs F
 | _, _, _ => []
theorem wth_at {t : Int} {fs : List (Value × Value)} {F : List (List Iv × List (Int × Int × List Iv))} {k : Nat} {f : Value × Value} {x : List Iv × List (Int × Int × List Iv)} (hf : fs[k]? = some f) (hx : F[k]? = some x) :
 wthK t k (fs.drop k) (F.drop k) = if hasL x.1 t = true then (k, f, x) :: wthK t (k + 1) (fs.drop (k + 1)) (F.drop (k + 1)) else wthK t (k + 1) (fs.drop (k + 1)) (F.drop (k + 1)) := by
 obtain ⟨k1, e1⟩ := List.getElem?_eq_some_iff.1 hf
 obtain ⟨k2, e2⟩ := List.getElem?_eq_some_iff.1 hx
 rw [List.drop_eq_getElem_cons k1, List.drop_eq_getElem_cons k2, e1, e2]
 rfl
theorem wth_end {t : Int} {fs : List (Value × Value)} {F : List (List Iv × List (Int × Int × List Iv))} {k : Nat} (h : F.length ≤ k) : wthK t k (fs.drop k) (F.drop k) = [] := by
 rw [List.drop_eq_nil_of_le h]
 cases fs.drop k <;> rfl
theorem wth_any {t r c : Int} : ∀ (i : Nat) (fs : List (Value × Value)) (F : List (List Iv × List (Int × Int × List Iv))), fs.length = F.length → (wthK t i fs F).any (fun y => hasV y.2.2.2 r c) = hasK F t r c
 | _, [], [], _ => rfl
 | i, f :: fs, x :: F, h => by
   have ih := wth_any (t := t) (r := r) (c := c) (i + 1) fs F (by simpa using h)
   unfold wthK hasK
   rw [List.any_cons]
   cases hx : hasL x.1 t with
   | false => rw [if_neg (by simp), ih]; simp [hasK]
   | true => rw [if_pos rfl, List.any_cons, ih]; simp [hasK]
 | _, [], _ :: _, h => by simp at h
 | _, _ :: _, [], h => by simp at h
theorem wth_sub {t : Int} : ∀ (i : Nat) (fs : List (Value × Value)) (F : List (List Iv × List (Int × Int × List Iv))), ((wthK t i fs F).map (·.2.2.2)).Sublist (F.map (·.2))
 | _, [], F => by rw [show wthK t _ [] F = [] by cases F <;> rfl]; exact List.nil_sublist _
 | _, _ :: _, [] => List.nil_sublist _
 | i, f :: fs, x :: F => by
   have ih := wth_sub (t := t) (i + 1) fs F
   unfold wthK
   split
   ·rw [List.map_cons, List.map_cons]; exact ih.cons_cons _
   ·rw [List.map_cons]; exact ih.cons _
theorem wth_len {t : Int} : ∀ (i : Nat) (fs : List (Value × Value)) (F : List (List Iv × List (Int × Int × List Iv))), (wthK t i fs F).length ≤ F.length
 | _, [], [] => by simp [wthK]
 | i, f :: fs, x :: F => by
   have ih := wth_len (t := t) (i + 1) fs F
   unfold wthK
   split <;> simp <;> omega
 | _, [], _ :: _ => by simp [wthK]
 | _, _ :: _, [] => by simp [wthK]
theorem wth_mem {t : Int} : ∀ (i : Nat) (fs : List (Value × Value)) (F : List (List Iv × List (Int × Int × List Iv))) (y : Nat × (Value × Value) × List Iv × List (Int × Int × List Iv)), y ∈ wthK t i fs F → ∃ k, y.1 = i + k ∧ fs[k]? = some y.2.1 ∧ F[k]? = some y.2.2
 | i, f :: fs, x :: F, y, h => by
   unfold wthK at h
   have key : y ∈ wthK t (i + 1) fs F → ∃ k, y.1 = i + k ∧ (f :: fs)[k]? = some y.2.1 ∧ (x :: F)[k]? = some y.2.2 := fun h => by
    obtain ⟨k, h1, h2, h3⟩ := wth_mem (i + 1) fs F y h
    exact ⟨k + 1, by omega, by simpa using h2, by simpa using h3⟩
   split at h
   ·rcases List.mem_cons.1 h with rfl | h
    ·exact ⟨0, rfl, rfl, rfl⟩
    ·exact key h
   ·exact key h
 | _, [], _, _, h => by simp [wthK] at h
 | _, _ :: _, [], _, h => by simp [wthK] at h
theorem StK.end {t : Int} {F : List (List Iv × List (Int × Int × List Iv))} {fs : List (Value × Value)} {V : List (Int × Int × List Iv)} (hl : fs.length = F.length) (hF : GoodK F) (h : StK ((wthK t 0 fs F).map (·.2.2.2)) [V]) : V = atK F t := by
 have gV := h.good V (by simp)
 obtain ⟨gA, cA⟩ := atK_good (t := t) F [] goodV_nil hF
 obtain ⟨up, B, e, hB⟩ := h.last
 have hVB : B = V := by
  match up, e with
  | [], e => simpa using e.symm
  | x :: up, e => simp at e
 subst hVB
 refine canV_eq gV hB gA cA fun r => good_ext (knV_good gV r) (knV_good gA r) fun c hc => ?_
 have h5 := hasV_kn gA r hc
 change hasV (atK F t) r c = hasL (knV (atK F t) r) c at h5
 rw [← hasV_kn gV r hc, ← h5]
 have h1 := h.has r c hc
 rw [List.any_map] at h1
 have h2 := wth_any (t := t) (r := r) (c := c) 0 fs F hl
 have h3 := atK_hasK hF t r hc
 simp only [List.any_cons, List.any_nil, Bool.or_false] at h1
 rw [h1]
 exact h2.trans h3.symm
def pcK (n : Nat) : Nat := [0, 1, 1, 2, 1, 2, 2, 3, 1, 2, 2, 3, 2, 3].getD n 0
theorem pc_tz {n : Nat} (h : n < 13) : pcK n + 1 = pcK (n + 1) + tzK (n + 1) := by
 have : ∀ n, n < 13 → pcK n + 1 = pcK (n + 1) + tzK (n + 1) := by decide
 exact this n h
theorem pc_pos {n : Nat} (h : n < 13) : 1 ≤ pcK (n + 1) := by
 have : ∀ n, n < 13 → 1 ≤ pcK (n + 1) := by decide
 exact this n h
def midA (F : List (List Iv × List (Int × Int × List Iv))) : Prop := F.length ≤ 13 ∧ sumA (F.map (·.2)) ≤ 900 ∧ sumB (F.map (·.2)) ≤ 900
theorem pre_sum {t : Int} {fs : List (Value × Value)} {F : List (List Iv × List (Int × Int × List Iv))} (h : midA F) {l : List (Nat × (Value × Value) × List Iv × List (Int × Int × List Iv))} (hp : l <+: wthK t 0 fs F) : sumA (l.map (·.2.2.2)) ≤ 900 ∧ sumB (l.map (·.2.2.2)) ≤ 900 := by
 have h1 := sum_sub ((hp.sublist.map (·.2.2.2)).trans (wth_sub 0 fs F))
 have := h.2
 omega
def flatK (F : List (List Iv × List (Int × Int × List Iv))) : List Iv := F.flatMap (·.1)
theorem flatK_snoc {F : List (List Iv × List (Int × Int × List Iv))} {k : Nat} {x : List Iv × List (Int × Int × List Iv)} (h : F[k]? = some x) : flatK (F.take (k + 1)) = flatK (F.take k) ++ x.1 := by
 unfold flatK
 rw [List.take_add_one, h]
 simp
theorem flatK_mem {F : List (List Iv × List (Int × Int × List Iv))} {y : Iv} (h : y ∈ flatK F) : ∃ x ∈ F, y ∈ x.1 := by
 unfold flatK at h
 simpa using h
theorem flatK_has (t : Int) : ∀ F : List (List Iv × List (Int × Int × List Iv)), hasL (flatK F) t = F.any fun x => hasL x.1 t
 | [] => rfl
 | x :: F => by
   have e : flatK (x :: F) = x.1 ++ flatK F := by simp [flatK]
   rw [e, hasL_append, flatK_has t F, List.any_cons]
theorem flatK_len {n : Nat} : ∀ F : List (List Iv × List (Int × Int × List Iv)), (∀ x ∈ F, x.1.length ≤ n) → (flatK F).length ≤ F.length * n
 | [], _ => by simp [flatK]
 | x :: F, h => by
   have ih := flatK_len F fun y hy => h y (by simp [hy])
   have h1 := h x (by simp)
   have e : flatK (x :: F) = x.1 ++ flatK F := by simp [flatK]
   rw [e, List.length_append, List.length_cons, Nat.succ_mul]
   omega
theorem flatK_norm {F : List (List Iv × List (Int × Int × List Iv))} (hF : GoodK F) : normL (flatK F) = itemsK F := by
 refine (norm_unique (fun y hy => ?_) (itemsK_good F [] good_nil hF).can fun t => ?_).symm
 ·obtain ⟨x, hx, hy⟩ := flatK_mem hy
  exact canon_ok x.1 (hF x hx).1.can y hy
 ·rw [flatK_has]
  have := itemsK_has t F [] good_nil hF
  rw [show hasL ([] : List Iv) t = false from rfl, Bool.false_or] at this
  exact this
end Go.Proofs.YtcajknjhkabhjaaGreatDoor
namespace Go.Proofs.YtcajknjhkabhjaaGreatDoor
open Go.RowKit Go.Shelf Go.ChangeShapes Go.WideShapes
attribute [local go_sem] Oper.semAt_some
def slv : Value → Value
 | .slice p n c => .slice p n c
 | _ => .slice none 0 0
theorem slv_sh (v : Value) : ∃ p n c, slv v = .slice p n c := by
 unfold slv
 split
 ·exact ⟨_, _, _, rfl⟩
 ·exact ⟨_, _, _, rfl⟩
def encF (y : Nat × (Value × Value) × List Iv × List (Int × Int × List Iv)) : Array Value := #[.int .i64 (y.1 : Int), .agg #[slv y.2.1.1, slv y.2.1.2]]
structure KnoF (W : World) (v : Value) (fs : List (Value × Value)) (F : List (List Iv × List (Int × Int × List Iv))) : Prop where
 at1 : KnoAt W v fs
 len : fs.length = F.length
 el : ∀ (i : Nat) (f : Value × Value) (x : List Iv × List (Int × Int × List Iv)), fs[i]? = some f → F[i]? = some x → FragM W f x
theorem KnoM.named {W : World} {v : Value} {F : List (List Iv × List (Int × Int × List Iv))} (h : KnoM W v F) : ∃ fs, KnoF W v fs F := by
 obtain ⟨⟨fs, h1, h2, h3⟩, _⟩ := h
 exact ⟨fs, h1, h2, h3⟩
theorem KnoF.call {w w' : World} {v : Value} {fs : List (Value × Value)} {F : List (List Iv × List (Int × Int × List Iv))} (h : KnoF w v fs F) (hb : Below w.heap.size w w') : KnoF w' v fs F :=
 ⟨h.at1.call hb, h.len, fun i f x hf hx => (h.el i f x hf hx).call hb⟩
theorem KnoF.elem {w : World} {v : Value} {fs : List (Value × Value)} {F : List (List Iv × List (Int × Int × List Iv))} (h : KnoF w v fs F) {i : Nat} {L : List Iv} {V : List (Int × Int × List Iv)} (hi : F[i]? = some (L, V)) :
 ∃ b o cap p c q d, v = .slice (some ⟨b, o, none⟩) F.length cap ∧ fs[i]? = some (.slice p L.length c, .slice q V.length d) ∧ w.cell? ⟨b, o + i * 2, none⟩ = some (.slice p L.length c) ∧ w.cell? ⟨b, o + i * 2 + 1, none⟩ = some (.slice q V.length d) ∧ FragM w (.slice p L.length c, .slice q V.length d) (L, V) := by
 obtain ⟨⟨p, cap, h1, _, h5⟩, h2, h3⟩ := h
 have hlt : i < F.length := (List.getElem?_eq_some_iff.1 hi).1
 have hlf : i < fs.length := by omega
 obtain ⟨f, he⟩ : ∃ f, fs[i]? = some f := ⟨fs[i], by simp [hlf]⟩
 obtain ⟨b, o, rfl, h6⟩ := h5 (by intro e; rw [e] at h2; simp at h2; omega)
 obtain ⟨c0, c1⟩ := h6 i _ he
 have ha := h3 i _ _ he hi
 obtain ⟨f1, f2⟩ := f
 obtain ⟨q, cq, hs, _⟩ := ha.at1.shape
 obtain ⟨q2, cq2, hs2⟩ := ha.vec.m.shape
 dsimp only at hs hs2 c0 c1
 subst hs hs2
 exact ⟨b, o, cap, q, cq, q2, cq2, by rw [h1, h2], he, c0, c1, ha⟩
set_option maxRecDepth 100000 in
theorem with_call (p : Option Addr) (n c : Nat) (t : Int) (w : World) : Calls Tryz.prog 63 #[.slice p n c, .int .u64 t] w (fun e w' =>
 e = .returned (.func (.func 106) #[] #[.pointer (some ⟨w.heap.size, 0, none⟩), .pointer (some ⟨w.heap.size + 1, 0, none⟩)]) ∧
  w' = (w.alloc (.cells #[.slice p n c] 23)).alloc (.cells #[.int .u64 t] 28)) := by
 go_enter Tryz.func63, Tryz.ntmps63
 go_wp2_with fail
 go_ret
 exact ⟨by simp, by simp⟩
structure WtS (ka kb : Nat) (v : Value) (t : Int) (w0 : World) (T : Nat → Prop) (W : World) : Prop where
 ca : W.cell? ⟨ka, 0, none⟩ = some v
 cb : W.cell? ⟨kb, 0, none⟩ = some (.int .u64 t)
 low : Below w0.heap.size w0 W
 ta : T ka
 tb : T kb
 k0 : ∀ k, k < w0.heap.size → T k
theorem WtS.apart {ka kb : Nat} {v : Value} {t : Int} {w0 : World} {T : Nat → Prop} {A B : World} (h : WtS ka kb v t w0 T A) (k : Apart (fun k => ¬ T k) A B) : WtS ka kb v t w0 T B :=
 ⟨k.cell h.ca (fun n => n h.ta), k.cell h.cb (fun n => n h.tb), h.low.trans (k.below h.low.size fun i hi n => n (h.k0 i hi)), h.ta, h.tb, h.k0⟩
theorem WtS.mv {ka kb : Nat} {v : Value} {t : Int} {w0 : World} {T : Nat → Prop} {A B : World} (h : WtS ka kb v t w0 T A) (k : Below A.heap.size A B) : WtS ka kb v t w0 T B :=
 ⟨keep_cell h.ca k, keep_cell h.cb k, h.low.trans (k.mono h.low.size), h.ta, h.tb, h.k0⟩
set_option maxRecDepth 100000 in
set_option maxHeartbeats 8000000 in
theorem with_iter (n : Nat) (ka kb : Nat) (v : Value) (t : Int) (fs : List (Value × Value)) (F : List (List Iv × List (Int × Int × List Iv))) (w0 W0 : World) (keep : Nat → Prop) (hk0 : ∀ k, k < w0.heap.size → keep k) (hka : keep ka) (hkb : keep kb) (hb : Below w0.heap.size w0 W0) (hv : KnoF w0 v fs F) (hlen : F.length ≤ 100000) (hF : GoodK F)
 (hca : W0.cell? ⟨ka, 0, none⟩ = some v) (hcb : W0.cell? ⟨kb, 0, none⟩ = some (.int .u64 t)) : IterT n Tryz.prog 106 #[.pointer (some ⟨ka, 0, none⟩), .pointer (some ⟨kb, 0, none⟩)] encF (wthK t 0 fs F) keep W0 := by
 obtain ⟨p, cs, rfl⟩ : ∃ p cs, v = .slice p F.length cs := by obtain ⟨p, c, e, _⟩ := hv.at1; exact ⟨p, c, by rw [e, hv.len]⟩
 intro l J Jx hab hY hJ0
 have HN := Lib.hid (show WtS ka kb _ t w0 keep W0 from ⟨hca, hcb, hb, hka, hkb, hk0⟩); clear hca hcb hb hka hkb hk0
 have HV := Lib.hid (And.intro hv hF); clear hv hF
 have HJ0 := Lib.hid hJ0; clear hJ0
 have HK := Lib.hid hab; clear hab
 obtain ⟨L, hL⟩ : ∃ L, wthK t 0 fs F = L := ⟨_, rfl⟩
 rw [hL] at hY ⊢
 have HY := Lib.hid hY; clear hY
 have HL : Hid ([] ++ wthK t 0 (fs.drop 0) (F.drop 0) = L) := Lib.hid (by simpa using hL); clear hL
 have KH := Lib.hid rhas_any
 obtain ⟨a0, b0, _⟩ := HN.out
 refine callsIn_of_wp Tryz.func106 rfl trivial ?_ rfl
 simp only [Tryz.ntmps106, List.size_toArray, List.length_cons, List.length_nil, Nat.reduceAdd, Nat.reduceSub, Array.replicate_succ, Array.replicate_zero, List.push_toArray, List.append_toArray, List.nil_append, List.cons_append]
 gi_wp2
 gi_loopw [8] (fun i wr => ∃ (k : Nat) (T : Nat → Prop) (g : List (Nat × (Value × Value) × List Iv × List (Int × Int × List Iv))), i = .int .i64 k ∧ k ≤ F.length ∧ g ++ wthK t k (fs.drop k) (F.drop k) = L ∧ WtS ka kb (.slice p F.length cs) t w0 T wr ∧ J g T wr) (fun i _ => F.length - (intOf i).toNat)
 case atStart => exact ⟨0, keep, _, rfl, Nat.zero_le _, HL.out, HN.out, HJ0.out⟩
 case round =>
  clear a0 b0
  obtain ⟨k, T2, g, rfl, hk, hg, ho, hj⟩ := hrel
  have HG := Lib.hid hg; clear hg
  have HO := Lib.hid ho; clear ho
  have HJ := Lib.hid hj; clear hj
  by_cases hlt : k < F.length
  ·obtain ⟨⟨I, V⟩, hx⟩ : ∃ x, F[k]? = some x := ⟨F[k], by simp [hlt]⟩
   obtain ⟨b, o, cb', px, cx, qx, dx, eb, hfk, c0, c1, hfr⟩ := (HV.out.1.call HO.out.low).elem hx
   cases eb
   have hgI := (HV.out.2 _ (List.mem_of_getElem? hx)).1
   have HW := Lib.hid (wth_at (t := t) hfk hx)
   obtain ⟨w2, hw2⟩ : ∃ w2, wr.alloc (.cells #[.slice px I.length cx, .slice qx V.length dx] 49) = w2 := ⟨_, rfl⟩
   have hb2 : Below wr.heap.size wr w2 := hw2 ▸ below_new _ _
   have t0 : w2.cell? ⟨wr.heap.size, 0, none⟩ = some (.slice px I.length cx) := by rw [← hw2]; simp
   have t1 : w2.cell? ⟨wr.heap.size, 1, none⟩ = some (.slice qx V.length dx) := by rw [← hw2]; simp
   have d0 := keep_cell HO.out.cb hb2
   have K := Lib.hid (KH.out I _ t w2 (hfr.at1.call hb2) hgI.can)
   have HB2 := Lib.hid hb2
   have i1 : (0 : Int) ≤ (k : Int) := by omega
   have i2 : (k : Int) < (F.length : Int) := by omega
   have HLT := Lib.hid hlt
   have HM := Lib.hid hk; clear hk
   clear hfr hgI hb2 hx hfk
   cases hh : hasL I t with
   | false =>
     rw [hh] at K
     have HWW := Lib.hid (HW.out.trans (if_neg (by rw [hh]; simp))); clear HW hh
     gi_wp2
     refine ⟨trivial, fun h => (by cases h), ?_⟩
     refine (callsIn_wide.2 K.out).mono ?_
     rintro en w3 ⟨rfl, hb3⟩
     have HB3 := Lib.hid (below_call HB2.out hb3); clear hb3 t0 t1 d0 c0 c1
     gi_wp2
     refine ⟨fun f hf => (by cases hf), ?_⟩
     gi_wp2
     go_roundw
     case rel => exact ⟨k + 1, T2, g, by go_num, HLT.out, by rw [← HWW.out]; exact HG.out, HO.out.mv HB3.out, HK.out.go _ _ _ _ _ HJ.out (Ext.of_below HB3.out (HK.out.low _ _ _ HJ.out))⟩
     case measure => have := HLT.out; simp [intOf] at this ⊢; omega
   | true =>
     rw [hh] at K
     have HWW := Lib.hid (HW.out.trans (if_pos hh)); clear HW hh
     gi_wp2
     refine ⟨trivial, fun h => (by cases h), ?_⟩
     refine (callsIn_wide.2 K.out).mono ?_
     rintro en w3 ⟨rfl, hb3⟩
     have u0 := keep_cell t0 hb3
     have u1 := keep_cell t1 hb3
     have HB3 := Lib.hid (below_call HB2.out hb3); clear hb3 t0 t1 d0 c0 c1
     have HJ3 := Lib.hid (HK.out.go _ _ _ _ _ HJ.out (Ext.of_below HB3.out (HK.out.low _ _ _ HJ.out)))
     have HO3 := Lib.hid (HO.out.mv HB3.out)
     have HP : Hid (g ++ [(k, (.slice px I.length cx, .slice qx V.length dx), (I, V))] ++ wthK t (k + 1) (fs.drop (k + 1)) (F.drop (k + 1)) = L) := Lib.hid (by rw [← HG.out, HWW.out]; simp)
     clear HWW HG HJ HO
     gi_wp2
     obtain ⟨fn, tmps, assign, body, hy, hR⟩ := HY.out g (k, (.slice px I.length cx, .slice qx V.length dx), (I, V)) T2 w3 HJ3.out ⟨_, HP.out⟩
     dsimp only [encF, slv] at hy
     rw [hy, Oper.uponIn_round]
     refine ⟨fun h => (by cases h), (RoundIn.anyDepth hR).mono ?_⟩
     clear hy hR u0 u1
     rintro en W5 ⟨hap, ⟨rfl, hJ5⟩ | ⟨rfl, hJ5⟩⟩
     ·have HJ5 := Lib.hid hJ5
      have HO5 := Lib.hid (HO3.out.apart hap); clear hap hJ5 HJ3 HO3
      gi_wp2
      go_roundw
      case rel => exact ⟨k + 1, T2, _, by go_num, HLT.out, HP.out, HO5.out, HJ5.out⟩
      case measure => have := HLT.out; simp [intOf] at this ⊢; omega
     ·have HJ5 := Lib.hid hJ5; clear hap hJ5 HJ3 HO3
      gi_wp2
      refine bodyPost_ret (results_none rfl _ _ _) rfl ?_
      exact ⟨⟨_, rfl⟩, .inr HJ5.out⟩
  ·obtain rfl : k = F.length := by omega
   have HZ := Lib.hid (show g = L by rw [← HG.out, wth_end (Nat.le_refl _)]; simp)
   gi_wp2
   refine bodyPost_end (results_none rfl _ _ _) rfl ?_
   exact ⟨⟨_, rfl⟩, .inl ⟨T2, by rw [← HZ.out]; exact HJ.out⟩⟩
end Go.Proofs.YtcajknjhkabhjaaGreatDoor
namespace Go.Proofs.YtcajknjhkabhjaaGreatDoor
open Go.RowKit
theorem ivC_app (k l : List Iv) : ivC (k ++ l) = ivC k ++ ivC l := by simp [ivC]
section
variable {ops : Array Oper} {rest : List Oper} {o : Oper} {a : Act} {Q : Exit → Act → World → Prop}
theorem append_onE (hgd : o.guard = none) (s x : Operand) (w0 w : World) (hB : Below w0.heap.size w0 w) (v0 v : Value) (k l : List Iv)
 (ho : o.op = .call { callee := .builtin .append, args := #[s, x], argTypes := #[32, 32] })
 (hs : a.eval s = v0) (hx : a.eval x = v) (hown : OwnL w w0.heap.size v0 k) (hv : IvsAt w v l) (hsv : SaneE v) (hl : k.length + l.length ≤ 10000)
 (h : ∀ v' w', OwnL w' w0.heap.size v' (k ++ l) → Below w0.heap.size w0 w' → wpList Tryz.prog ops Q rest (a.put o.dst v') w') : wpList Tryz.prog ops Q (o :: rest) a w := by
 obtain ⟨i0, hi', hz0, hz1, hz2⟩ := info_parts infoIv
 obtain ⟨p, cap, rfl, _⟩ := hv.shape
 cases p with
 | none =>
   obtain ⟨h1, h2⟩ := hsv.1 _ _ rfl
   obtain rfl : l = [] := List.eq_nil_of_length_eq_zero h1
   subst h2
   refine wpList_plain hgd fun _ hK => ?_
   have hr := run_append_owned_none (P := Tryz.prog) w w0.heap.size 32 o.type 35 i0 2 Tryz.underlying32 hi' v0 k.length (ivC k) hown
   unfold Oper.wp execOp
   simp only [ho, resolve, invoke, builtin, Sem.run_bind, Sem.run_pure, Result.andThen_ok, List.map_toArray, List.map_cons, List.map_nil, hs, hx, List.length_nil, hr]
   exact hK _ _ (h v0 w (by rw [List.append_nil]; exact hown) hB)
 | some ad =>
   have hnews : ∀ j u, (ivC l)[j]? = some u → w.cell? (ad.add j) = some u := by
    intro j u hj
    have hne : l ≠ [] := by rintro rfl; simp [ivC] at hj
    obtain ⟨q, cp, e, _, h3⟩ := hv
    obtain ⟨b, of, e2, _⟩ := h3 hne
    cases e
    cases e2
    exact ivs_cells (cap := cap) (n := l.length) ⟨_, _, rfl, by omega, h3⟩ j u hj
   refine wpList_append_own _ hgd s x 32 ho w0.heap.size 35 i0 (.agg #[.int .u64 0, .int .u64 0]) 2 16 Tryz.underlying32 hi' hz0 hz1 hz2 rfl (by decide) v0 k.length (ivC k) hs hown ad l.length cap (ivC l) hx (ivC_len l) hnews (ivC_one l) (by unfold maxLen; omega) (by omega) hB.size ?_
   intro v' w' hown' hgrow _
   refine h v' w' ?_ (own_grown hB hown hgrow hB.size)
   unfold OwnL
   rw [List.length_append, ivC_app]
   exact hown'
end
def midI (F : List (List Iv × List (Int × Int × List Iv))) : Prop := F.length ≤ 500 ∧ (flatK F).length ≤ 1000
theorem smallK.midI {F : List (List Iv × List (Int × Int × List Iv))} (h : smallK F) : midI F := by
 have h1 := flatK_len (n := 20) F fun x hx => (h.2 x hx).1
 have := h.1
 exact ⟨by omega, by omega⟩
theorem flat_of_mem {F : List (List Iv × List (Int × Int × List Iv))} {x : List Iv × List (Int × Int × List Iv)} (h : x ∈ F) : x.1.length ≤ (flatK F).length := by
 obtain ⟨s, t, rfl⟩ := List.append_of_mem h
 simp [flatK]; omega
theorem items_le0 : ∀ (F : List (List Iv × List (Int × Int × List Iv))) (A : List Iv), GoodL A → GoodK F → (F.foldl (fun A x => orL A x.1) A).length ≤ A.length + (flatK F).length
 | [], A, _, _ => by simp
 | x :: F, A, hA, h => by
   have h1 := items_le0 F (orL A x.1) (orL_good hA (goodK_cons h).1.1) (goodK_cons h).2
   have h2 := or_count hA (goodK_cons h).1.1
   have e : flatK (x :: F) = x.1 ++ flatK F := by simp [flatK]
   rw [e, List.length_append, List.foldl_cons]
   omega
theorem items_le {F : List (List Iv × List (Int × Int × List Iv))} (hF : GoodK F) : (itemsK F).length ≤ (flatK F).length := by
 have := items_le0 F [] good_nil hF
 rw [List.length_nil, Nat.zero_add] at this
 exact this
set_option maxRecDepth 100000 in
set_option maxHeartbeats 4000000 in
theorem sItems_any (F : List (List Iv × List (Int × Int × List Iv))) (v : Value) (w : World) (hv : KnoS w v F) (hF : GoodK F) (hs : midI F) : Calls Tryz.prog 60 #[v] w (IsKn (itemsK F) w) := by
 obtain ⟨p, cap, rfl⟩ := hv.m.shape
 have hlen := hs.1
 have hN := flatK_norm hF
 have h64 : All64 (flatK F) := fun y hy => by
  obtain ⟨x, hx, hyx⟩ := flatK_mem hy
  exact (hF x hx).1.all y hyx
 have hok : ∀ y ∈ flatK F, y.1 ≤ y.2 := fun y hy => by
  obtain ⟨x, hx, hyx⟩ := flatK_mem hy
  exact canon_ok x.1 (hF x hx).1.can y hyx
 have hfl : ∀ k, (flatK (F.take k)).length ≤ 1000 := fun k => by
  have e : flatK F = flatK (F.take k) ++ flatK (F.drop k) := by unfold flatK; rw [← List.flatMap_append, List.take_append_drop]
  have h1 := hs.2
  rw [e, List.length_append] at h1
  omega
 have h20 : ∀ (i : Nat) x, F[i]? = some x → x.1.length ≤ 1000 := fun i x hx => Nat.le_trans (flat_of_mem (List.mem_of_getElem? hx)) hs.2
 have hin : (itemsK F).length ≤ 1000 := Nat.le_trans (items_le hF) hs.2
 have HV := Lib.hid hv.m
 have KN := Lib.hid (fun s W hi => (hN ▸ normal_ok (flatK F) s W hi h64 hok : Calls Tryz.prog 105 #[s] W (IsList (itemsK F) W)))
 have HFL := Lib.hid (And.intro hfl h20)
 have HIN := Lib.hid hin
 clear hv hF hs hN h64 hok hfl h20 hin
 generalize itemsK F = IL at *
 go_enter Tryz.func60, Tryz.ntmps60
 go_wp2_with fail
 go_loopw [3, 10] (fun u i wr => ∃ k : Nat, i = .int .i64 k ∧ k ≤ F.length ∧ OwnL wr w.heap.size u (flatK (F.take k)) ∧ Below w.heap.size w wr) (fun _ i _ => F.length - (intOf i).toNat)
 case atStart => exact ⟨0, rfl, Nat.zero_le _, OwnL.nil _ _, Below.refl _ _⟩
 case round =>
  obtain ⟨k, rfl, hk, hown, hb⟩ := hrel
  have HB := Lib.hid hb; clear hb
  have HO := Lib.hid hown
  obtain ⟨pu, cu, rfl, _⟩ := own_shape hown
  clear hown
  by_cases hlt : k < F.length
  ·obtain ⟨⟨L, V⟩, hx⟩ : ∃ x, F[k]? = some x := ⟨F[k], by simp [hlt]⟩
   obtain ⟨b, o, cap', p1, c1, q1, d1, e, c0, c1', hf⟩ := (HV.out.call HB.out).elem hx
   cases e
   obtain ⟨wE, hwE⟩ : ∃ wE, wr.alloc (.cells #[.slice p1 L.length c1, .slice q1 V.length d1] 49) = wE := ⟨_, rfl⟩
   have hbE : Below wr.heap.size wr wE := hwE ▸ below_new wr _
   have t0 : wE.cell? ⟨wr.heap.size, 0, none⟩ = some (.slice p1 L.length c1) := by rw [← hwE]; simp
   have HBE := Lib.hid (below_call HB.out hbE)
   have HF := Lib.hid (And.intro (hf.call hbE).at1 (hf.call hbE).sane)
   have HOE := Lib.hid (HO.out.below hbE)
   have HSN := Lib.hid (flatK_snoc hx)
   have hl20 := HFL.out.2 k _ hx
   have hfk := HFL.out.1 k
   dsimp only at hl20 HSN
   have i1 : (0 : Int) ≤ (k : Int) := by omega
   have i2 : (k : Int) < (F.length : Int) := by omega
   clear hf hbE hx
   go_wp2_with (at_builtin; refine append_onE rfl _ _ w wE HBE.out _ _ (flatK (F.take k)) L rfl rfl rfl HOE.out HF.out.1 HF.out.2 (by omega) ?_; intro v' w' ho hb'; obtain ⟨q', c', rfl, _⟩ := own_shape ho; have HOO := Lib.hid ho; have HBB := Lib.hid hb'; clear ho hb')
   go_roundw
   case rel => exact ⟨k + 1, by go_num, by omega, by rw [HSN.out]; have h := HOO.out; rw [List.length_append] at h; exact h, HBB.out⟩
   case measure => simp [intOf]; omega
  ·obtain rfl : k = F.length := by omega
   have hfk := HFL.out.1 F.length
   rw [List.take_of_length_le (Nat.le_refl _)] at HO hfk
   have K := Lib.hid (KN.out _ wr (HO.out.ivs (by omega)))
   clear hfk
   go_wp2_with fail
   refine K.out.mono ?_
   rintro e w1 ⟨u, rfl, hu, h⟩
   have HU := Lib.hid hu
   have H1 := Lib.hid h
   obtain ⟨pv, cv, rfl, _⟩ := own_shape hu
   clear hu h
   go_wp2_with fail
   go_ret
   have hin := HIN.out
   obtain ⟨k1, k2, k3⟩ := kn_own HU.out (by omega)
   exact ⟨_, rfl, k1, k2, k3.base HB.out.size, below_call HB.out H1.out⟩
end Go.Proofs.YtcajknjhkabhjaaGreatDoor
