/- For all vectors, three at a time, VectorOrder returns true. Condition: none beyond what the given statement says. -/
import Derived.Test.YtgeggdaokjimjaaDoorPLaws
import Derived.Test.YtgeggdaokjimjaaDoorPOpen
import Derived.Test.YtgeggdaokjimjaaDoorPCode
import Derived.Test.YtgeggdaokjimjaaDoorTied
namespace Go.Proofs.YtgeggdaokjimjaaDoor
open Go.ChangeShapes Go.WideShapes Go.RowKit

set_option maxRecDepth 100000 in
theorem vectorOrderProof_lifted (os : Os) (started : os.Started) (H : Type) (enc : TypeId × Value → H) :
    ReturnsInHanded {} Tryd.checked os 6 .any (fun w args => (Rows.vectorOrderSpec.pre enc Tryd.prog Tryd.f6 [] false w args ∧ laidMetH Tryd.prog [("errors.errorType", Rows.laid_errors_errorType)] w) ∧ sizedMet enc Tryd.prog Tryd.f6 (OpenSpec.ofChange Rows.vectorOrderSpec) false w args)
      (Rows.vectorOrderSpec.post enc Tryd.prog Tryd.f6 false true false false) := by
  refine lift_law (tb := 4) os started H enc Tryd.func6 (by kernel_rfl) rfl ?_ (by kernel_rfl) Tryd.underlying4 ?_
    (ChangeSpec.witness_at (enc := enc) (C := Tryd.checked) (os := os) (X := fun w _ => laidMetH Tryd.prog [("errors.errorType", Rows.laid_errors_errorType)] w) false (laidWorld os) #[.slice none 0 0, .slice none 0 0, .slice none 0 0] 8 rfl (by kernel_rfl) (by kernel_rfl) (by kernel_rfl) (by kernel_rfl) (by kernel_rfl) (laidWorld_met os _)) ?_
  · have h : (Tryd.f6.params.toList.all fun t => Tryd.prog.readableRec t && decide (t < Tryd.prog.types.size)) = true := by kernel_rfl
    intro t ht
    have := List.all_eq_true.1 h t ht
    simpa using this
  · intro ds hl
    rw [Tryd.params6] at hl
    match ds, hl with
    | [d1, d2, d3], _ => simp [Rows.vectorOrderSpec]
  · intro W base args ds p hg hval hA _
    rw [Tryd.params6] at hA hval
    obtain ⟨v0, v1, v2, d0, d1, d2, p0, p1, p2, rfl, rfl, rfl, h0, h1, h2⟩ := trodAll_three hA
    have ha0 : vecArg W v0 := vec_open 30 (by omega) (hval 0 23 v0 rfl rfl) h0
    have ha1 : vecArg W v1 := vec_open 30 (by omega) (hval 1 23 v1 rfl rfl) h1
    have ha2 : vecArg W v2 := vec_open 30 (by omega) (hval 2 23 v2 rfl rfl) h2
    exact lawOrder9_any vecC v0 v1 v2 W hg ha0 ha1 ha2

theorem vectorOrderProof_row : Rows.VectorOrderSaid :=
  OpenClaim.holds_of_wide 6 Tryd.f6 rfl rfl rfl rfl rfl rfl rfl ⟨rfl, rfl, rfl, rfl, rfl⟩ rfl rfl rfl rfl rfl (by kernel_rfl) Tryd.func6 (by kernel_rfl)
    (of_decide_eq_true (by kernel_rfl)) (by unfold Func.isWrapper; rw [if_neg (of_decide_eq_false (by kernel_rfl))]; exact ⟨rfl, rfl⟩)
    (fun os started H enc _ => vectorOrderProof_lifted os started H enc)

theorem VectorOrder_holds : Rows.VectorOrderCardSaid :=
  Claim7.holds_tied_plain_at .later [] [.handle] true Rows.vectorOrderCard.stood.harness true
    vectorOrderProof_row (fun _ h => by cases h) (by kernel_rfl) (fun _ h => by cases h) vectorOrder_row_tie rfl ⟨rfl, rfl⟩ (by kernel_rfl) rfl
    (fun f fn hf hfn => by
      obtain rfl : f = 6 := Option.some.inj ((show Tryd.prog.funcNamed "kenning/kenninglaw09.VectorOrder" = some 6 by kernel_rfl).symm.trans hf) |>.symm
      obtain rfl : fn = Tryd.f6 := (Option.some.inj (Tryd.func6.symm.trans hfn)).symm
      refine ⟨by kernel_rfl, fun j t ht => ?_⟩
      have h : (Tryd.f6.params.toList.all fun t => !Tryd.prog.wantsStandIn t) = true := by kernel_rfl
      have := List.all_eq_true.1 h t (List.mem_of_getElem? (by rw [Array.getElem?_toList]; exact ht))
      have hx : Tryd.prog.wantsStandIn t = false := by simpa using this
      exact hx)
    (by kernel_rfl)
end Go.Proofs.YtgeggdaokjimjaaDoor
