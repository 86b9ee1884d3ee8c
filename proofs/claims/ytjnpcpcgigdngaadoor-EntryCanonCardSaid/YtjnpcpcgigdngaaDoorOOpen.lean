/- The arguments of the laws of layer 5: lists of intervals that are taken or turned away; an interval. No conditions. -/
import Derived.Test.YtjnpcpcgigdngaaDoorRIvOpen
import Derived.Test.YtjnpcpcgigdngaaDoorORight
import Derived.Lib.SmallJoins
import Derived.OpenShut
namespace Go.Proofs.YtjnpcpcgigdngaaDoor
open Go.RowKit Go.ChangeShapes Go.WideShapes
section
variable {H : Type} {enc : TypeId × Value → H}
set_option maxRecDepth 100000 in
theorem arg_open {W : World} {base : Nat} {v : Value} {d : DataW H} {p : List MemPlace} (hv : Value.okWide Tryd.prog W .any base 24 v) (h : DataW.Trod enc Tryd.prog W 0 (fun _ => true) true 24 v d p) :
    okArg W v ∨ badArg W v := arg_split (ivs_open hv h)
set_option maxRecDepth 100000 in
theorem sane_open {W : World} {base : Nat} {v : Value} (hv : Value.okWide Tryd.prog W .any base 24 v) : ∀ n c, v = .slice none n c → n = 0 ∧ c = 0 := by
  intro n c e
  subst e
  simp only [Value.okWide, Tryd.underlying24, Cell.okWide] at hv
  cases n <;> cases c <;> simp_all [Cell.ok, Tryd.underlying24]
set_option maxRecDepth 100000 in
theorem sane6_open {W : World} {base : Nat} {v : Value} (hv : Value.okWide Tryd.prog W .any base 24 v) : (∀ n c, v = .slice none n c → n = 0 ∧ c = 0) ∧ ∀ a n c, v = .slice (some a) n c → n ≤ c := by
  refine ⟨sane_open hv, fun a n c e => ?_⟩
  subst e
  simp only [Value.okWide, Tryd.underlying24, Cell.okWide] at hv
  simp_all [Cell.ok, Tryd.underlying24]
set_option maxRecDepth 100000 in
theorem iv_open5 {W : World} {base : Nat} {v : Value} {d : DataW H} {p : List MemPlace} (hv : Value.okWide Tryd.prog W .any base 48 v) (h : DataW.Trod enc Tryd.prog W 0 (fun _ => true) true 48 v d p) :
    ∃ a b : Int, v = .agg #[.int .u64 a, .int .u64 b] ∧ (0 ≤ a ∧ a ≤ 18446744073709551615) ∧ (0 ≤ b ∧ b ≤ 18446744073709551615) := by
  obtain ⟨c0, c1, y0, y1, m, rfl, _, _, hy0, hy1⟩ := Go.Joins.open_agg2 Tryd.underlying48 (by kernel_rfl) (by kernel_rfl) hv h
  obtain ⟨a, e0, _, wa⟩ := DataW.trod_int Tryd.underlying22 hy0
  obtain ⟨b, e1, _, wb⟩ := DataW.trod_int Tryd.underlying22 hy1
  simp at e0 e1
  subst e0 e1
  exact ⟨a, b, rfl, bounds_u64 wa, bounds_u64 wb⟩
end
end Go.Proofs.YtjnpcpcgigdngaaDoor
