/- The laws of sets for the reference's operations: plain mathematics. No conditions. -/
import Derived.Test.YtgeggdaokjimjaaDoorOMath
import Derived.Test.YtgeggdaokjimjaaDoorRIv
namespace Go.Proofs.YtgeggdaokjimjaaDoor
def UM : Int := 18446744073709551615
def fAnd (p q : Bool) : Bool := p && q
def fSub (p q : Bool) : Bool := p && !q
theorem UM_pos : 0 ≤ UM := by decide
theorem fAnd_ff : fAnd false false = false := rfl
theorem fSub_ff : fSub false false = false := rfl
def andL (a b : List Iv) : List Iv := opL UM fAnd a b
def subL (a b : List Iv) : List Iv := opL UM fSub a b
/-- A correct list of numbers of 64 bits. -/
structure GoodL (l : List Iv) : Prop where
  can : canon l
  ok : okL UM l
theorem good_nil : GoodL [] := ⟨trivial, fun y hy => by cases hy⟩
theorem good_of {l : List Iv} (h : canon l) (h64 : All64 l) : GoodL l := ⟨h, canon_okL h fun y hy => ⟨(h64 y hy).1.1, (h64 y hy).2.2⟩⟩
theorem GoodL.all {l : List Iv} (h : GoodL l) : All64 l := fun x hx => by
  have := h.ok x hx
  unfold UM at this
  exact ⟨by omega, by omega⟩
theorem good_one {x y : Int} (h : x ≤ y) (hx : 0 ≤ x) (hy : y ≤ 18446744073709551615) : GoodL [(x, y)] := good_of ⟨h, by simp, trivial⟩ fun z hz => by rw [List.mem_singleton.1 hz]; exact ⟨⟨hx, by simp only; omega⟩, by simp only; omega, hy⟩
theorem andL_good {a b : List Iv} (ha : GoodL a) (hb : GoodL b) : GoodL (andL a b) := ⟨op_canon UM_pos _ fAnd_ff ha.ok hb.ok, op_ok UM_pos _ ha.ok hb.ok⟩
theorem subL_good {a b : List Iv} (ha : GoodL a) (hb : GoodL b) : GoodL (subL a b) := ⟨op_canon UM_pos _ fSub_ff ha.ok hb.ok, op_ok UM_pos _ ha.ok hb.ok⟩
theorem and_has {a b : List Iv} (ha : GoodL a) (hb : GoodL b) (x : Int) : hasL (andL a b) x = (hasL a x && hasL b x) := op_has UM_pos _ fAnd_ff ha.ok hb.ok x
theorem sub_has {a b : List Iv} (ha : GoodL a) (hb : GoodL b) (x : Int) : hasL (subL a b) x = (hasL a x && !hasL b x) := op_has UM_pos _ fSub_ff ha.ok hb.ok x
theorem good_eq {a b : List Iv} (ha : GoodL a) (hb : GoodL b) (h : ∀ x, hasL a x = hasL b x) : a = b := canon_unique _ _ ha.can hb.can h
/-- What an interval has outside of its part outside a list is its part in the list. -/
theorem not_not' {a w : List Iv} (ha : GoodL a) (hw : GoodL w) : subL w (subL w a) = andL a w :=
  good_eq (subL_good hw (subL_good hw ha)) (andL_good ha hw) fun x => by
    rw [sub_has hw (subL_good hw ha), and_has ha hw, sub_has hw ha]
    cases hasL a x <;> cases hasL w x <;> rfl
end Go.Proofs.YtgeggdaokjimjaaDoor
