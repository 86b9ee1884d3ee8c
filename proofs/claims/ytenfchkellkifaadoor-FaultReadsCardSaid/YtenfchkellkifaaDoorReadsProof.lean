/- For every described error, FaultReads returns true. Condition: none beyond what the given statement says. -/
import Derived.Test.YtenfchkellkifaaDoorReads
import Derived.Test.YtenfchkellkifaaDoorOpen
namespace Go.Proofs.YtenfchkellkifaaDoor
open Go.ChangeShapes Go.WideShapes Go.RowKit

set_option maxRecDepth 100000 in
theorem readsProof_lifted (os : Os) (started : os.Started) (H : Type) (enc : TypeId × Value → H) :
    ReturnsInHanded {} Tryd.checked os 4 .any (fun w args => (Rows.faultReadsSpec.pre enc Tryd.prog Tryd.f4 [] false w args ∧ laidMetH Tryd.prog [("errors.errorType", Rows.laid_errors_errorType)] w) ∧ sizedMet enc Tryd.prog Tryd.f4 (OpenSpec.ofChange Rows.faultReadsSpec) false w args)
      (Rows.faultReadsSpec.post enc Tryd.prog Tryd.f4 false true false false) := by
  refine lift_law (tb := 4) os started H enc Tryd.func4 (by kernel_rfl) rfl ?_ (by kernel_rfl) Tryd.underlying4 ?_
    (ChangeSpec.witness_at (enc := enc) (C := Tryd.checked) (os := os) (X := fun w _ => laidMetH Tryd.prog [("errors.errorType", Rows.laid_errors_errorType)] w) false (laidWorld os) #[.agg #[.bool false, .int .i64 0, .bool false, .int .i64 0, .slice none 0 0]] 8 rfl (by kernel_rfl) (by kernel_rfl) (by kernel_rfl) (by kernel_rfl) (by kernel_rfl) (laidWorld_met os _)) ?_
  · have h : (Tryd.f4.params.toList.all fun t => Tryd.prog.readableRec t && decide (t < Tryd.prog.types.size)) = true := by kernel_rfl
    intro t ht
    have := List.all_eq_true.1 h t ht
    simpa using this
  · intro ds hl
    rw [Tryd.params4] at hl
    match ds, hl with
    | [d1], _ => simp [Rows.faultReadsSpec]
  · intro W base args ds p hg hval hA _
    rw [Tryd.params4] at hA hval
    obtain ⟨v0, d0, rfl, rfl, h0⟩ := trodAll_one hA
    obtain ⟨E, s, rfl, hn, _, _⟩ := desc_open (hval 0 36 v0 rfl rfl) h0
    exact reads_any E s W hg hn

theorem readsProof_row : Rows.FaultReadsSaid :=
  OpenClaim.holds_of_wide 4 Tryd.f4 rfl rfl rfl rfl rfl rfl rfl ⟨rfl, rfl, rfl, rfl, rfl⟩ rfl rfl rfl rfl rfl (by kernel_rfl) Tryd.func4 (by kernel_rfl)
    (of_decide_eq_true (by kernel_rfl)) (by unfold Func.isWrapper; rw [if_neg (of_decide_eq_false (by kernel_rfl))]; exact ⟨rfl, rfl⟩)
    (fun os started H enc _ => readsProof_lifted os started H enc)

theorem FaultReads_holds : Rows.FaultReadsCardSaid :=
  Claim7.holds_tied_plain_at .later [] [.handle] true Rows.faultReadsCard.stood.harness true
    readsProof_row (fun _ h => by cases h) (by kernel_rfl) (fun _ h => by cases h) faultReads_row_tie rfl ⟨rfl, rfl⟩ (by kernel_rfl) rfl
    (fun f fn hf hfn => by
      obtain rfl : f = 4 := Option.some.inj ((show Tryd.prog.funcNamed "kenning/kenninglaw01.FaultReads" = some 4 by kernel_rfl).symm.trans hf) |>.symm
      obtain rfl : fn = Tryd.f4 := (Option.some.inj (Tryd.func4.symm.trans hfn)).symm
      refine ⟨by kernel_rfl, fun j t ht => ?_⟩
      have h : (Tryd.f4.params.toList.all fun t => !Tryd.prog.wantsStandIn t) = true := by kernel_rfl
      have := List.all_eq_true.1 h t (List.mem_of_getElem? (by rw [Array.getElem?_toList]; exact ht))
      have hx : Tryd.prog.wantsStandIn t = false := by simpa using this
      exact hx)
    (by kernel_rfl)
end Go.Proofs.YtenfchkellkifaaDoor
