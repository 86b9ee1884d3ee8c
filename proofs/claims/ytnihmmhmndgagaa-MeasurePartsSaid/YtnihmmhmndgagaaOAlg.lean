/- The laws of sets for the reference's operations: plain mathematics. No conditions. -/
import Derived.Test.YtnihmmhmndgagaaOMath
import Derived.Test.YtnihmmhmndgagaaRIv
namespace Go.Proofs.Ytnihmmhmndgagaa
def UM : Int := 18446744073709551615
/-- A correct list of numbers of 64 bits. -/
structure GoodL (l : List Iv) : Prop where
  can : canon l
  ok : okL UM l
theorem good_nil : GoodL [] := ⟨trivial, fun y hy => by cases hy⟩
theorem good_of {l : List Iv} (h : canon l) (h64 : All64 l) : GoodL l := ⟨h, canon_okL h fun y hy => ⟨(h64 y hy).1.1, (h64 y hy).2.2⟩⟩
theorem GoodL.all {l : List Iv} (h : GoodL l) : All64 l := fun x hx => by
  have := h.ok x hx
  unfold UM at this
  exact ⟨by omega, by omega⟩
end Go.Proofs.Ytnihmmhmndgagaa
