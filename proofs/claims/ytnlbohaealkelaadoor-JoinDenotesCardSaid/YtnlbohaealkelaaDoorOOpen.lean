/- The arguments of the laws of layer 5: lists of intervals that are taken or turned away; an interval. No conditions. -/
import Derived.Test.YtnlbohaealkelaaDoorRIvOpen
import Derived.Test.YtnlbohaealkelaaDoorORef
import Derived.Test.YtnlbohaealkelaaDoorRIv
import Derived.Lib.SmallJoins
import Derived.OpenShut
namespace Go.Proofs.YtnlbohaealkelaaDoor
open Go.RowKit Go.ChangeShapes Go.WideShapes
section
variable {H : Type} {enc : TypeId × Value → H}
set_option maxRecDepth 100000 in
theorem sane_open {W : World} {base : Nat} {v : Value} (hv : Value.okWide Tryd.prog W .any base 24 v) : ∀ n c, v = .slice none n c → n = 0 ∧ c = 0 := by
  intro n c e
  subst e
  simp only [Value.okWide, Tryd.underlying24, Cell.okWide] at hv
  cases n <;> cases c <;> simp_all [Cell.ok, Tryd.underlying24]
set_option maxRecDepth 100000 in
theorem sane6_open {W : World} {base : Nat} {v : Value} (hv : Value.okWide Tryd.prog W .any base 24 v) : (∀ n c, v = .slice none n c → n = 0 ∧ c = 0) ∧ ∀ a n c, v = .slice (some a) n c → n ≤ c := by
  refine ⟨sane_open hv, fun a n c e => ?_⟩
  subst e
  simp only [Value.okWide, Tryd.underlying24, Cell.okWide] at hv
  simp_all [Cell.ok, Tryd.underlying24]
end
end Go.Proofs.YtnlbohaealkelaaDoor
