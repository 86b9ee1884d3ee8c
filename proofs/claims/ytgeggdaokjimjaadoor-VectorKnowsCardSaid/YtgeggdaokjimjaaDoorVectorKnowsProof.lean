/- For all vectors and versions, VectorKnows returns true. Condition: none beyond what the given statement says. -/
import Derived.Test.YtgeggdaokjimjaaDoorPLaws
import Derived.Test.YtgeggdaokjimjaaDoorPOpen
import Derived.Test.YtgeggdaokjimjaaDoorPCode
import Derived.Test.YtgeggdaokjimjaaDoorTied
namespace Go.Proofs.YtgeggdaokjimjaaDoor
open Go.ChangeShapes Go.WideShapes Go.RowKit

set_option maxRecDepth 100000 in
theorem vectorKnowsProof_lifted (os : Os) (started : os.Started) (H : Type) (enc : TypeId × Value → H) :
    ReturnsInHanded {} Tryd.checked os 4 .any (fun w args => (Rows.vectorKnowsSpec.pre enc Tryd.prog Tryd.f4 [] false w args ∧ laidMetH Tryd.prog [("errors.errorType", Rows.laid_errors_errorType)] w) ∧ sizedMet enc Tryd.prog Tryd.f4 (OpenSpec.ofChange Rows.vectorKnowsSpec) false w args)
      (Rows.vectorKnowsSpec.post enc Tryd.prog Tryd.f4 false true false false) := by
  refine lift_law (tb := 4) os started H enc Tryd.func4 (by kernel_rfl) rfl ?_ (by kernel_rfl) Tryd.underlying4 ?_
    (ChangeSpec.witness_at (enc := enc) (C := Tryd.checked) (os := os) (X := fun w _ => laidMetH Tryd.prog [("errors.errorType", Rows.laid_errors_errorType)] w) false (laidWorld os) #[.slice none 0 0, .int .u64 0, .int .u64 0] 8 rfl (by kernel_rfl) (by kernel_rfl) (by kernel_rfl) (by kernel_rfl) (by kernel_rfl) (laidWorld_met os _)) ?_
  · have h : (Tryd.f4.params.toList.all fun t => Tryd.prog.readableRec t && decide (t < Tryd.prog.types.size)) = true := by kernel_rfl
    intro t ht
    have := List.all_eq_true.1 h t ht
    simpa using this
  · intro ds hl
    rw [Tryd.params4] at hl
    match ds, hl with
    | [d1, d2, d3], _ => simp [Rows.vectorKnowsSpec]
  · intro W base args ds p hg hval hA _
    rw [Tryd.params4] at hA hval
    obtain ⟨v0, v1, v2, d0, d1, d2, p0, p1, p2, rfl, rfl, rfl, h0, h1, h2⟩ := trodAll_three hA
    have ha0 : vecArg W v0 := vec_open 30 (by omega) (hval 0 23 v0 rfl rfl) h0
    obtain ⟨x1, rfl, rfl, rfl, w1⟩ := open_int Tryd.underlying34 (hval 1 34 v1 rfl rfl) h1
    have b1 := bounds_u64 w1
    obtain ⟨x2, rfl, rfl, rfl, w2⟩ := open_int Tryd.underlying34 (hval 2 34 v2 rfl rfl) h2
    have b2 := bounds_u64 w2
    exact lawKnows9_any vecC v0 x1 x2 W hg ha0 b1 b2

theorem vectorKnowsProof_row : Rows.VectorKnowsSaid :=
  OpenClaim.holds_of_wide 4 Tryd.f4 rfl rfl rfl rfl rfl rfl rfl ⟨rfl, rfl, rfl, rfl, rfl⟩ rfl rfl rfl rfl rfl (by kernel_rfl) Tryd.func4 (by kernel_rfl)
    (of_decide_eq_true (by kernel_rfl)) (by unfold Func.isWrapper; rw [if_neg (of_decide_eq_false (by kernel_rfl))]; exact ⟨rfl, rfl⟩)
    (fun os started H enc _ => vectorKnowsProof_lifted os started H enc)

theorem VectorKnows_holds : Rows.VectorKnowsCardSaid :=
  Claim7.holds_tied_plain_at .later [] [.handle] true Rows.vectorKnowsCard.stood.harness true
    vectorKnowsProof_row (fun _ h => by cases h) (by kernel_rfl) (fun _ h => by cases h) vectorKnows_row_tie rfl ⟨rfl, rfl⟩ (by kernel_rfl) rfl
    (fun f fn hf hfn => by
      obtain rfl : f = 4 := Option.some.inj ((show Tryd.prog.funcNamed "kenning/kenninglaw09.VectorKnows" = some 4 by kernel_rfl).symm.trans hf) |>.symm
      obtain rfl : fn = Tryd.f4 := (Option.some.inj (Tryd.func4.symm.trans hfn)).symm
      refine ⟨by kernel_rfl, fun j t ht => ?_⟩
      have h : (Tryd.f4.params.toList.all fun t => !Tryd.prog.wantsStandIn t) = true := by kernel_rfl
      have := List.all_eq_true.1 h t (List.mem_of_getElem? (by rw [Array.getElem?_toList]; exact ht))
      have hx : Tryd.prog.wantsStandIn t = false := by simpa using this
      exact hx)
    (by kernel_rfl)
end Go.Proofs.YtgeggdaokjimjaaDoor
