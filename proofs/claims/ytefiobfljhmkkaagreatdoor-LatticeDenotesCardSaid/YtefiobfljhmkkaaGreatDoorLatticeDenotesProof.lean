/- For all pairs of vectors and all versions, LatticeDenotes returns true. Condition: none beyond what the given statement says. -/
import Derived.Test.YtefiobfljhmkkaaGreatDoorLDen
import Derived.Test.YtefiobfljhmkkaaGreatDoorPAlive
import Derived.Test.YtefiobfljhmkkaaGreatDoorLCodeB
import Derived.Test.YtefiobfljhmkkaaGreatDoorTied
namespace Go.Proofs.YtefiobfljhmkkaaGreatDoor
open Go.ChangeShapes Go.WideShapes Go.RowKit

set_option maxRecDepth 100000 in
theorem latticeDenotesProof_lifted (os : Os) (started : os.Started) (H : Type) (enc : TypeId × Value → H) :
    ReturnsInHanded {} Tryz.checked os 3 .any (fun w args => (Rows.latticeDenotesSpec.pre enc Tryz.prog Tryz.f3 [] false w args ∧ laidMetH Tryz.prog [("errors.errorType", Rows.laid_errors_errorType)] w) ∧ sizedMet enc Tryz.prog Tryz.f3 (OpenSpec.ofChange Rows.latticeDenotesSpec) false w args)
      (Rows.latticeDenotesSpec.post enc Tryz.prog Tryz.f3 false true false false) := by
  refine lift_law (tb := 4) os started H enc Tryz.func3 (by kernel_rfl) rfl ?_ (by kernel_rfl) Tryz.underlying4 ?_
    (ChangeSpec.witness_at (enc := enc) (C := Tryz.checked) (os := os) (X := fun w _ => laidMetH Tryz.prog [("errors.errorType", Rows.laid_errors_errorType)] w) false (laidWorld os) #[.slice none 0 0, .slice none 0 0, .agg #[.int .u64 0, .int .u64 0]] 8 rfl (by kernel_rfl) (by kernel_rfl) (by kernel_rfl) (by kernel_rfl) (by kernel_rfl) (laidWorld_met os _)) ?_
  · have h : (Tryz.f3.params.toList.all fun t => Tryz.prog.readableRec t && decide (t < Tryz.prog.types.size)) = true := by kernel_rfl
    intro t ht
    have := List.all_eq_true.1 h t ht
    simpa using this
  · intro ds hl
    rw [Tryz.params3] at hl
    match ds, hl with
    | [d1, d2, d3], _ => simp [Rows.latticeDenotesSpec]
  · intro W base args ds p hg hval hA _
    rw [Tryz.params3] at hA hval
    obtain ⟨v0, v1, v2, d0, d1, d2, p0, p1, p2, rfl, rfl, rfl, h0, h1, h2⟩ := trodAll_three hA
    have ha0 := vec_arg (hval 0 23 v0 rfl rfl) h0
    have ha1 := vec_arg (hval 1 23 v1 rfl rfl) h1
    obtain ⟨r2, c2, rfl, br2, bc2⟩ := version_open (hval 2 25 v2 rfl rfl) h2
    exact lawDenotes10_any latC (fun V v r c w hv hg h0 h1 h2 h3 => vHas_any V v r c w hv.m hg h2 h3) ErrT (fun _ _ h hb => h.here hb) (fun V v w hg hv => vCanonical_any V v w hg hv.m) v0 v1 r2 c2 W hg ha0 ha1 br2 bc2

theorem latticeDenotesProof_row : Rows.LatticeDenotesSaid :=
  OpenClaim.holds_of_wide 3 Tryz.f3 rfl rfl rfl rfl rfl rfl rfl ⟨rfl, rfl, rfl, rfl, rfl⟩ rfl rfl rfl rfl rfl (by kernel_rfl) Tryz.func3 (by kernel_rfl)
    (of_decide_eq_true (by kernel_rfl)) (by unfold Func.isWrapper; rw [if_neg (of_decide_eq_false (by kernel_rfl))]; exact ⟨rfl, rfl⟩)
    (fun os started H enc _ => latticeDenotesProof_lifted os started H enc)

theorem LatticeDenotes_holds : Rows.LatticeDenotesCardSaid :=
  Claim7.holds_tied_plain_at .later [] [.handle] true Rows.latticeDenotesCard.stood.harness true
    latticeDenotesProof_row (fun _ h => by cases h) (by kernel_rfl) (fun _ h => by cases h) latticeDenotes_row_tie rfl ⟨rfl, rfl⟩ (by kernel_rfl) rfl
    (fun f fn hf hfn => by
      obtain rfl : f = 3 := Option.some.inj ((show Tryz.prog.funcNamed "kenning/kenninglaw10.LatticeDenotes" = some 3 by kernel_rfl).symm.trans hf) |>.symm
      obtain rfl : fn = Tryz.f3 := (Option.some.inj (Tryz.func3.symm.trans hfn)).symm
      refine ⟨by kernel_rfl, fun j t ht => ?_⟩
      have h : (Tryz.f3.params.toList.all fun t => !Tryz.prog.wantsStandIn t) = true := by kernel_rfl
      have := List.all_eq_true.1 h t (List.mem_of_getElem? (by rw [Array.getElem?_toList]; exact ht))
      have hx : Tryz.prog.wantsStandIn t = false := by simpa using this
      exact hx)
    (by kernel_rfl)
end Go.Proofs.YtefiobfljhmkkaaGreatDoor
