/- The arguments of the laws of layer 7: entries. No conditions. -/
import Derived.Test.YtnlbohaealkelaaDoorNLaws
import Derived.Test.YtnlbohaealkelaaDoorOOpen
import Derived.Lib.SmallJoins
import Derived.OpenShut
namespace Go.Proofs.YtnlbohaealkelaaDoor
open Go.RowKit Go.ChangeShapes Go.WideShapes
section
variable {H : Type} {enc : TypeId × Value → H}
set_option maxRecDepth 100000 in
theorem ent_open {W : World} {base : Nat} {v : Value} {d : DataW H} {p : List MemPlace} (hv : Value.okWide Tryd.prog W .any base 26 v) (h : DataW.Trod enc Tryd.prog W 0 (fun _ => true) true 26 v d p) : entArg W v := by
  obtain ⟨c0, c1, c2, y0, y1, y2, n, rfl, _, _, hy0, hy1, hy2⟩ := Go.Joins.open_agg3 Tryd.underlying26 (by kernel_rfl) (by kernel_rfl) hv h
  obtain ⟨a, e0, _, wa⟩ := DataW.trod_int Tryd.underlying22 hy0
  obtain ⟨b, e1, _, wb⟩ := DataW.trod_int Tryd.underlying22 hy1
  simp at e0 e1
  subst e0 e1
  have hct : Tryd.prog.cellTypes Tryd.prog.depth 26 = some [22, 22, 24] := by kernel_rfl
  have hc2 : Value.okWide Tryd.prog W .any base 24 c2 := by
    simp only [Value.okWide, Tryd.underlying26] at hv
    obtain ⟨cs, hcs, _, ts, hts, _, hall⟩ := hv
    rw [hct] at hts
    obtain rfl := Option.some.inj hts
    obtain ⟨u, hu, hk⟩ := hall 2 c2 (by rw [← (Value.agg.inj hcs)]; rfl)
    have hu2 : 24 = u := by simpa using hu
    subst hu2
    simpa only [Value.okWide, Tryd.underlying24] using hk
  have hcell : c2.cells = #[c2] := by
    obtain ⟨a0, len0, cap0, rfl⟩ := okWide_slice Tryd.underlying24 hc2
    rfl
  have hT : DataW.Trod enc Tryd.prog W 0 (fun _ => true) true 24 c2 y2.1 y2.2 := ⟨n, by rw [hcell]; exact hy2⟩
  exact ⟨a, b, c2, rfl, bounds_u64 wb, sane6_open hc2, ivs_open hc2 hT⟩
end
end Go.Proofs.YtnlbohaealkelaaDoor
