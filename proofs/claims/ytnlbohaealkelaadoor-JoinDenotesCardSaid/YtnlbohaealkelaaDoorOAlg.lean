/- The laws of sets for the reference's operations: plain mathematics. No conditions. -/
import Derived.Test.YtnlbohaealkelaaDoorOMath
import Derived.Test.YtnlbohaealkelaaDoorRIv
namespace Go.Proofs.YtnlbohaealkelaaDoor
def UM : Int := 18446744073709551615
def fOr (p q : Bool) : Bool := p || q
def fAnd (p q : Bool) : Bool := p && q
def fSub (p q : Bool) : Bool := p && !q
theorem UM_pos : 0 ≤ UM := by decide
theorem fOr_ff : fOr false false = false := rfl
theorem fAnd_ff : fAnd false false = false := rfl
theorem fSub_ff : fSub false false = false := rfl
/-- The union, the meet, the difference. -/
def orL (a b : List Iv) : List Iv := opL UM fOr a b
def andL (a b : List Iv) : List Iv := opL UM fAnd a b
def subL (a b : List Iv) : List Iv := opL UM fSub a b
/-- A correct list of numbers of 64 bits. -/
structure GoodL (l : List Iv) : Prop where
  can : canon l
  ok : okL UM l
theorem good_nil : GoodL [] := ⟨trivial, fun y hy => by cases hy⟩
theorem good_of {l : List Iv} (h : canon l) (h64 : All64 l) : GoodL l := ⟨h, canon_okL h fun y hy => ⟨(h64 y hy).1.1, (h64 y hy).2.2⟩⟩
theorem GoodL.all {l : List Iv} (h : GoodL l) : All64 l := fun x hx => by
  have := h.ok x hx
  unfold UM at this
  exact ⟨by omega, by omega⟩
theorem good_one {x y : Int} (h : x ≤ y) (hx : 0 ≤ x) (hy : y ≤ 18446744073709551615) : GoodL [(x, y)] := good_of ⟨h, by simp, trivial⟩ fun z hz => by rw [List.mem_singleton.1 hz]; exact ⟨⟨hx, by simp only; omega⟩, by simp only; omega, hy⟩
theorem orL_good {a b : List Iv} (ha : GoodL a) (hb : GoodL b) : GoodL (orL a b) := ⟨op_canon UM_pos _ fOr_ff ha.ok hb.ok, op_ok UM_pos _ ha.ok hb.ok⟩
theorem andL_good {a b : List Iv} (ha : GoodL a) (hb : GoodL b) : GoodL (andL a b) := ⟨op_canon UM_pos _ fAnd_ff ha.ok hb.ok, op_ok UM_pos _ ha.ok hb.ok⟩
theorem subL_good {a b : List Iv} (ha : GoodL a) (hb : GoodL b) : GoodL (subL a b) := ⟨op_canon UM_pos _ fSub_ff ha.ok hb.ok, op_ok UM_pos _ ha.ok hb.ok⟩
theorem or_has {a b : List Iv} (ha : GoodL a) (hb : GoodL b) (x : Int) : hasL (orL a b) x = (hasL a x || hasL b x) := op_has UM_pos _ fOr_ff ha.ok hb.ok x
theorem and_has {a b : List Iv} (ha : GoodL a) (hb : GoodL b) (x : Int) : hasL (andL a b) x = (hasL a x && hasL b x) := op_has UM_pos _ fAnd_ff ha.ok hb.ok x
theorem sub_has {a b : List Iv} (ha : GoodL a) (hb : GoodL b) (x : Int) : hasL (subL a b) x = (hasL a x && !hasL b x) := op_has UM_pos _ fSub_ff ha.ok hb.ok x
theorem good_eq {a b : List Iv} (ha : GoodL a) (hb : GoodL b) (h : ∀ x, hasL a x = hasL b x) : a = b := canon_unique _ _ ha.can hb.can h
theorem op_len (f : Bool → Bool → Bool) (a b : List Iv) : (opL UM f a b).length ≤ (startsL UM (a ++ b)).length := goP_len _ _ _
theorem or_comm' {a b : List Iv} (ha : GoodL a) (hb : GoodL b) : orL a b = orL b a := good_eq (orL_good ha hb) (orL_good hb ha) fun x => by rw [or_has ha hb, or_has hb ha, Bool.or_comm]
theorem and_comm' {a b : List Iv} (ha : GoodL a) (hb : GoodL b) : andL a b = andL b a := good_eq (andL_good ha hb) (andL_good hb ha) fun x => by rw [and_has ha hb, and_has hb ha, Bool.and_comm]
theorem or_self' {a : List Iv} (ha : GoodL a) : orL a a = a := good_eq (orL_good ha ha) ha fun x => by rw [or_has ha ha, Bool.or_self]
theorem and_self' {a : List Iv} (ha : GoodL a) : andL a a = a := good_eq (andL_good ha ha) ha fun x => by rw [and_has ha ha, Bool.and_self]
theorem or_assoc' {a b c : List Iv} (ha : GoodL a) (hb : GoodL b) (hc : GoodL c) : orL (orL a b) c = orL a (orL b c) :=
  good_eq (orL_good (orL_good ha hb) hc) (orL_good ha (orL_good hb hc)) fun x => by rw [or_has (orL_good ha hb) hc, or_has ha (orL_good hb hc), or_has ha hb, or_has hb hc, Bool.or_assoc]
theorem and_assoc' {a b c : List Iv} (ha : GoodL a) (hb : GoodL b) (hc : GoodL c) : andL (andL a b) c = andL a (andL b c) :=
  good_eq (andL_good (andL_good ha hb) hc) (andL_good ha (andL_good hb hc)) fun x => by rw [and_has (andL_good ha hb) hc, and_has ha (andL_good hb hc), and_has ha hb, and_has hb hc, Bool.and_assoc]
theorem and_or' {a b c : List Iv} (ha : GoodL a) (hb : GoodL b) (hc : GoodL c) : andL (orL a b) c = orL (andL a c) (andL b c) :=
  good_eq (andL_good (orL_good ha hb) hc) (orL_good (andL_good ha hc) (andL_good hb hc)) fun x => by
    rw [and_has (orL_good ha hb) hc, or_has (andL_good ha hc) (andL_good hb hc), or_has ha hb, and_has ha hc, and_has hb hc]
    cases hasL a x <;> cases hasL b x <;> cases hasL c x <;> rfl
theorem parts' {a b : List Iv} (ha : GoodL a) (hb : GoodL b) : orL (andL a b) (subL a b) = a :=
  good_eq (orL_good (andL_good ha hb) (subL_good ha hb)) ha fun x => by
    rw [or_has (andL_good ha hb) (subL_good ha hb), and_has ha hb, sub_has ha hb]
    cases hasL a x <;> cases hasL b x <;> rfl
theorem sub_self' {a : List Iv} (ha : GoodL a) : subL a a = [] := good_eq (subL_good ha ha) good_nil fun x => by
  rw [sub_has ha ha]
  cases hasL a x <;> rfl
/-- What an interval has outside of its part outside a list is its part in the list. -/
theorem not_not' {a w : List Iv} (ha : GoodL a) (hw : GoodL w) : subL w (subL w a) = andL a w :=
  good_eq (subL_good hw (subL_good hw ha)) (andL_good ha hw) fun x => by
    rw [sub_has hw (subL_good hw ha), and_has ha hw, sub_has hw ha]
    cases hasL a x <;> cases hasL w x <;> rfl
end Go.Proofs.YtnlbohaealkelaaDoor
