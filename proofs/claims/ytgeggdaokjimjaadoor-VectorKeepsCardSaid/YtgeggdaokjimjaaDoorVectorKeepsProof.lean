/- For all vectors, VectorKeeps returns true. Condition: none beyond what the given statement says. -/
import Derived.Test.YtgeggdaokjimjaaDoorPKeeps
import Derived.Test.YtgeggdaokjimjaaDoorPOpen
import Derived.Test.YtgeggdaokjimjaaDoorPCode
import Derived.Test.YtgeggdaokjimjaaDoorTied
namespace Go.Proofs.YtgeggdaokjimjaaDoor
open Go.ChangeShapes Go.WideShapes Go.RowKit

set_option maxRecDepth 100000 in
theorem vectorKeepsProof_lifted (os : Os) (started : os.Started) (H : Type) (enc : TypeId × Value → H) :
    ReturnsInHanded {} Tryd.checked os 7 .any (fun w args => (Rows.vectorKeepsSpec.pre enc Tryd.prog Tryd.f7 [] false w args ∧ laidMetH Tryd.prog [("errors.errorType", Rows.laid_errors_errorType)] w) ∧ sizedMet enc Tryd.prog Tryd.f7 (OpenSpec.ofChange Rows.vectorKeepsSpec) false w args)
      (Rows.vectorKeepsSpec.post enc Tryd.prog Tryd.f7 false true false false) := by
  refine lift_law (tb := 4) os started H enc Tryd.func7 (by kernel_rfl) rfl ?_ (by kernel_rfl) Tryd.underlying4 ?_
    (ChangeSpec.witness_at (enc := enc) (C := Tryd.checked) (os := os) (X := fun w _ => laidMetH Tryd.prog [("errors.errorType", Rows.laid_errors_errorType)] w) false (laidWorld os) #[.slice none 0 0] 8 rfl (by kernel_rfl) (by kernel_rfl) (by kernel_rfl) (by kernel_rfl) (by kernel_rfl) (laidWorld_met os _)) ?_
  · have h : (Tryd.f7.params.toList.all fun t => Tryd.prog.readableRec t && decide (t < Tryd.prog.types.size)) = true := by kernel_rfl
    intro t ht
    have := List.all_eq_true.1 h t ht
    simpa using this
  · intro ds hl
    rw [Tryd.params7] at hl
    match ds, hl with
    | [d1], _ => simp [Rows.vectorKeepsSpec]
  · intro W base args ds p hg hval hA _
    rw [Tryd.params7] at hA hval
    obtain ⟨v0, d0, rfl, rfl, h0⟩ := trodAll_one hA
    have ha0 : vecArg W v0 := vec_open 30 (by omega) (hval 0 23 v0 rfl rfl) h0
    exact lawKeeps9_any vecC v0 W hg ha0

theorem vectorKeepsProof_row : Rows.VectorKeepsSaid :=
  OpenClaim.holds_of_wide 7 Tryd.f7 rfl rfl rfl rfl rfl rfl rfl ⟨rfl, rfl, rfl, rfl, rfl⟩ rfl rfl rfl rfl rfl (by kernel_rfl) Tryd.func7 (by kernel_rfl)
    (of_decide_eq_true (by kernel_rfl)) (by unfold Func.isWrapper; rw [if_neg (of_decide_eq_false (by kernel_rfl))]; exact ⟨rfl, rfl⟩)
    (fun os started H enc _ => vectorKeepsProof_lifted os started H enc)

theorem VectorKeeps_holds : Rows.VectorKeepsCardSaid :=
  Claim7.holds_tied_plain_at .later [] [.handle] true Rows.vectorKeepsCard.stood.harness true
    vectorKeepsProof_row (fun _ h => by cases h) (by kernel_rfl) (fun _ h => by cases h) vectorKeeps_row_tie rfl ⟨rfl, rfl⟩ (by kernel_rfl) rfl
    (fun f fn hf hfn => by
      obtain rfl : f = 7 := Option.some.inj ((show Tryd.prog.funcNamed "kenning/kenninglaw09.VectorKeeps" = some 7 by kernel_rfl).symm.trans hf) |>.symm
      obtain rfl : fn = Tryd.f7 := (Option.some.inj (Tryd.func7.symm.trans hfn)).symm
      refine ⟨by kernel_rfl, fun j t ht => ?_⟩
      have h : (Tryd.f7.params.toList.all fun t => !Tryd.prog.wantsStandIn t) = true := by kernel_rfl
      have := List.all_eq_true.1 h t (List.mem_of_getElem? (by rw [Array.getElem?_toList]; exact ht))
      have hx : Tryd.prog.wantsStandIn t = false := by simpa using this
      exact hx)
    (by kernel_rfl)
end Go.Proofs.YtgeggdaokjimjaaDoor
