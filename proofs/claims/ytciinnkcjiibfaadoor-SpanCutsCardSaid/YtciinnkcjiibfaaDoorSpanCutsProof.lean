/- For all intervals and every number, SpanCuts returns true. Condition: none beyond what the given statement says. -/
import Derived.Test.YtciinnkcjiibfaaDoorSCuts
import Derived.Test.YtciinnkcjiibfaaDoorIvOpen
import Derived.Test.YtciinnkcjiibfaaDoorTied
namespace Go.Proofs.YtciinnkcjiibfaaDoor
open Go.ChangeShapes Go.WideShapes Go.RowKit

set_option maxRecDepth 100000 in
theorem spanCutsProof_lifted (os : Os) (started : os.Started) (H : Type) (enc : TypeId × Value → H) :
    ReturnsInHanded {} Tryd.checked os 7 .any (fun w args => (Rows.spanCutsSpec.pre enc Tryd.prog Tryd.f7 [] false w args ∧ laidMetH Tryd.prog [("errors.errorType", Rows.laid_errors_errorType)] w) ∧ sizedMet enc Tryd.prog Tryd.f7 (OpenSpec.ofChange Rows.spanCutsSpec) false w args)
      (Rows.spanCutsSpec.post enc Tryd.prog Tryd.f7 false true false false) := by
  refine lift_law (tb := 4) os started H enc Tryd.func7 (by kernel_rfl) rfl ?_ (by kernel_rfl) Tryd.underlying4 ?_
    (ChangeSpec.witness_at (enc := enc) (C := Tryd.checked) (os := os) (X := fun w _ => laidMetH Tryd.prog [("errors.errorType", Rows.laid_errors_errorType)] w) false (laidWorld os) #[.agg #[.int .u64 0, .int .u64 0], .agg #[.int .u64 0, .int .u64 0], .int .u64 0] 8 rfl (by kernel_rfl) (by kernel_rfl) (by kernel_rfl) (by kernel_rfl) (by kernel_rfl) (laidWorld_met os _)) ?_
  · have h : (Tryd.f7.params.toList.all fun t => Tryd.prog.readableRec t && decide (t < Tryd.prog.types.size)) = true := by kernel_rfl
    intro t ht
    have := List.all_eq_true.1 h t ht
    simpa using this
  · intro ds hl
    rw [Tryd.params7] at hl
    match ds, hl with
    | [d1, d2, d3], _ => simp [Rows.spanCutsSpec]
  · intro W base args ds p hg hval hA _
    rw [Tryd.params7] at hA hval
    obtain ⟨v0, v1, v2, d0, d1, d2, p0, p1, p2, rfl, rfl, rfl, h0, h1, h2⟩ := trodAll_three hA
    obtain ⟨a, b, rfl, ha, hb⟩ := iv_open (hval 0 24 v0 rfl rfl) h0
    obtain ⟨c, d, rfl, hc, hd⟩ := iv_open (hval 1 24 v1 rfl rfl) h1
    obtain ⟨x2, rfl, rfl, rfl, w2⟩ := open_int Tryd.underlying22 (hval 2 22 v2 rfl rfl) h2
    have b2 := bounds_u64 w2
    exact cuts_any a b c d x2 W hg ha hb hc hd

theorem spanCutsProof_row : Rows.SpanCutsSaid :=
  OpenClaim.holds_of_wide 7 Tryd.f7 rfl rfl rfl rfl rfl rfl rfl ⟨rfl, rfl, rfl, rfl, rfl⟩ rfl rfl rfl rfl rfl (by kernel_rfl) Tryd.func7 (by kernel_rfl)
    (of_decide_eq_true (by kernel_rfl)) (by unfold Func.isWrapper; rw [if_neg (of_decide_eq_false (by kernel_rfl))]; exact ⟨rfl, rfl⟩)
    (fun os started H enc _ => spanCutsProof_lifted os started H enc)

theorem SpanCuts_holds : Rows.SpanCutsCardSaid :=
  Claim7.holds_tied_plain_at .later [] [.handle] true Rows.spanCutsCard.stood.harness true
    spanCutsProof_row (fun _ h => by cases h) (by kernel_rfl) (fun _ h => by cases h) spanCuts_row_tie rfl ⟨rfl, rfl⟩ (by kernel_rfl) rfl
    (fun f fn hf hfn => by
      obtain rfl : f = 7 := Option.some.inj ((show Tryd.prog.funcNamed "kenning/kenninglaw03.SpanCuts" = some 7 by kernel_rfl).symm.trans hf) |>.symm
      obtain rfl : fn = Tryd.f7 := (Option.some.inj (Tryd.func7.symm.trans hfn)).symm
      refine ⟨by kernel_rfl, fun j t ht => ?_⟩
      have h : (Tryd.f7.params.toList.all fun t => !Tryd.prog.wantsStandIn t) = true := by kernel_rfl
      have := List.all_eq_true.1 h t (List.mem_of_getElem? (by rw [Array.getElem?_toList]; exact ht))
      have hx : Tryd.prog.wantsStandIn t = false := by simpa using this
      exact hx)
    (by kernel_rfl)
end Go.Proofs.YtciinnkcjiibfaaDoor
