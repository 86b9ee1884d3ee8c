/- For every list of described errors, FaultLeast returns true. Condition: none beyond what the given statement says. -/
import Derived.Test.YtenfchkellkifaaDoorOpenList
namespace Go.Proofs.YtenfchkellkifaaDoor
open Go.ChangeShapes Go.WideShapes Go.RowKit

set_option maxRecDepth 100000 in
theorem leastProof_lifted (os : Os) (started : os.Started) (H : Type) (enc : TypeId × Value → H) :
    ReturnsInHanded {} Tryd.checked os 8 .any (fun w args => (Rows.faultLeastSpec.pre enc Tryd.prog Tryd.f8 [] false w args ∧ laidMetH Tryd.prog [("errors.errorType", Rows.laid_errors_errorType)] w) ∧ sizedMet enc Tryd.prog Tryd.f8 (OpenSpec.ofChange Rows.faultLeastSpec) false w args)
      (Rows.faultLeastSpec.post enc Tryd.prog Tryd.f8 false true false false) := by
  refine lift_law (tb := 4) os started H enc Tryd.func8 (by kernel_rfl) rfl ?_ (by kernel_rfl) Tryd.underlying4 ?_
    (ChangeSpec.witness_at (enc := enc) (C := Tryd.checked) (os := os) (X := fun w _ => laidMetH Tryd.prog [("errors.errorType", Rows.laid_errors_errorType)] w) false (laidWorld os) #[.slice none 0 0] 8 rfl (by kernel_rfl) (by kernel_rfl) (by kernel_rfl) (by kernel_rfl) (by kernel_rfl) (laidWorld_met os _)) ?_
  · have h : (Tryd.f8.params.toList.all fun t => Tryd.prog.readableRec t && decide (t < Tryd.prog.types.size)) = true := by kernel_rfl
    intro t ht
    have := List.all_eq_true.1 h t ht
    simpa using this
  · intro ds hl
    rw [Tryd.params8] at hl
    match ds, hl with
    | [d1], _ => simp [Rows.faultLeastSpec]
  · intro W base args ds p hg hval hA _
    rw [Tryd.params8] at hA hval
    obtain ⟨v0, d0, rfl, rfl, h0⟩ := trodAll_one hA
    obtain ⟨a, len, cap, rfl⟩ := okWide_slice Tryd.underlying52 (hval 0 52 v0 rfl rfl)
    obtain ⟨fuel, hd⟩ := h0
    obtain ⟨s, n, D, hs, hn⟩ := descs_of_trod hd
    obtain rfl : _ = s := by simpa [Value.cells] using hs
    exact least_law n D _ W hg hn

theorem leastProof_row : Rows.FaultLeastSaid :=
  OpenClaim.holds_of_wide 8 Tryd.f8 rfl rfl rfl rfl rfl rfl rfl ⟨rfl, rfl, rfl, rfl, rfl⟩ rfl rfl rfl rfl rfl (by kernel_rfl) Tryd.func8 (by kernel_rfl)
    (of_decide_eq_true (by kernel_rfl)) (by unfold Func.isWrapper; rw [if_neg (of_decide_eq_false (by kernel_rfl))]; exact ⟨rfl, rfl⟩)
    (fun os started H enc _ => leastProof_lifted os started H enc)

theorem FaultLeast_holds : Rows.FaultLeastCardSaid :=
  Claim7.holds_tied_plain_at .later [] [.handle] true Rows.faultLeastCard.stood.harness true
    leastProof_row (fun _ h => by cases h) (by kernel_rfl) (fun _ h => by cases h) faultLeast_row_tie rfl ⟨rfl, rfl⟩ (by kernel_rfl) rfl
    (fun f fn hf hfn => by
      obtain rfl : f = 8 := Option.some.inj ((show Tryd.prog.funcNamed "kenning/kenninglaw01.FaultLeast" = some 8 by kernel_rfl).symm.trans hf) |>.symm
      obtain rfl : fn = Tryd.f8 := (Option.some.inj (Tryd.func8.symm.trans hfn)).symm
      refine ⟨by kernel_rfl, fun j t ht => ?_⟩
      have h : (Tryd.f8.params.toList.all fun t => !Tryd.prog.wantsStandIn t) = true := by kernel_rfl
      have := List.all_eq_true.1 h t (List.mem_of_getElem? (by rw [Array.getElem?_toList]; exact ht))
      have hx : Tryd.prog.wantsStandIn t = false := by simpa using this
      exact hx)
    (by kernel_rfl)
end Go.Proofs.YtenfchkellkifaaDoor
