/- The arguments of the laws of layer 5: lists of intervals that are taken or turned away; an interval. No conditions. -/
import Derived.Test.YtnihmmhmndgagaaRIvOpen
import Derived.Test.YtnihmmhmndgagaaORight
import Derived.Lib.SmallJoins
import Derived.OpenShut
namespace Go.Proofs.Ytnihmmhmndgagaa
open Go.RowKit Go.ChangeShapes Go.WideShapes
section
variable {H : Type} {enc : TypeId × Value → H}
set_option maxRecDepth 100000 in
theorem arg_open {W : World} {base : Nat} {v : Value} {d : DataW H} {p : List MemPlace} (hv : Value.okWide Try.prog W .any base 23 v) (h : DataW.Trod enc Try.prog W 0 (fun _ => true) true 23 v d p) :
    okArg W v ∨ badArg W v := arg_split (ivs_open hv h)
set_option maxRecDepth 100000 in
theorem sane_open {W : World} {base : Nat} {v : Value} (hv : Value.okWide Try.prog W .any base 23 v) : ∀ n c, v = .slice none n c → n = 0 ∧ c = 0 := by
  intro n c e
  subst e
  simp only [Value.okWide, Try.underlying23, Cell.okWide] at hv
  cases n <;> cases c <;> simp_all [Cell.ok, Try.underlying23]
set_option maxRecDepth 100000 in
theorem sane6_open {W : World} {base : Nat} {v : Value} (hv : Value.okWide Try.prog W .any base 23 v) : (∀ n c, v = .slice none n c → n = 0 ∧ c = 0) ∧ ∀ a n c, v = .slice (some a) n c → n ≤ c := by
  refine ⟨sane_open hv, fun a n c e => ?_⟩
  subst e
  simp only [Value.okWide, Try.underlying23, Cell.okWide] at hv
  simp_all [Cell.ok, Try.underlying23]
set_option maxRecDepth 100000 in
theorem iv_open5 {W : World} {base : Nat} {v : Value} {d : DataW H} {p : List MemPlace} (hv : Value.okWide Try.prog W .any base 37 v) (h : DataW.Trod enc Try.prog W 0 (fun _ => true) true 37 v d p) :
    ∃ a b : Int, v = .agg #[.int .u64 a, .int .u64 b] ∧ (0 ≤ a ∧ a ≤ 18446744073709551615) ∧ (0 ≤ b ∧ b ≤ 18446744073709551615) := by
  obtain ⟨c0, c1, y0, y1, m, rfl, _, _, hy0, hy1⟩ := Go.Joins.open_agg2 Try.underlying37 (by kernel_rfl) (by kernel_rfl) hv h
  obtain ⟨a, e0, _, wa⟩ := DataW.trod_int Try.underlying24 hy0
  obtain ⟨b, e1, _, wb⟩ := DataW.trod_int Try.underlying24 hy1
  simp at e0 e1
  subst e0 e1
  exact ⟨a, b, rfl, bounds_u64 wa, bounds_u64 wb⟩
end
end Go.Proofs.Ytnihmmhmndgagaa
