/- For all lists of intervals and every number, SetopsDenote returns true. Condition: none beyond what the given statement says. -/
import Derived.Test.YtdchddiilnhbcaaDoorODenote
import Derived.Test.YtdchddiilnhbcaaDoorOSetC
import Derived.Test.YtdchddiilnhbcaaDoorOOpen
import Derived.Test.YtdchddiilnhbcaaDoorTied
namespace Go.Proofs.YtdchddiilnhbcaaDoor
open Go.ChangeShapes Go.WideShapes Go.RowKit

set_option maxRecDepth 100000 in
theorem setopsDenoteProof_lifted (os : Os) (started : os.Started) (H : Type) (enc : TypeId × Value → H) :
    ReturnsInHanded {} Tryd.checked os 3 .any (fun w args => (Rows.setopsDenoteSpec.pre enc Tryd.prog Tryd.f3 [] false w args ∧ laidMetH Tryd.prog [("errors.errorType", Rows.laid_errors_errorType)] w) ∧ sizedMet enc Tryd.prog Tryd.f3 (OpenSpec.ofChange Rows.setopsDenoteSpec) false w args)
      (Rows.setopsDenoteSpec.post enc Tryd.prog Tryd.f3 false true false false) := by
  refine lift_law (tb := 4) os started H enc Tryd.func3 (by kernel_rfl) rfl ?_ (by kernel_rfl) Tryd.underlying4 ?_
    (ChangeSpec.witness_at (enc := enc) (C := Tryd.checked) (os := os) (X := fun w _ => laidMetH Tryd.prog [("errors.errorType", Rows.laid_errors_errorType)] w) false (laidWorld os) #[.slice none 0 0, .slice none 0 0, .int .u64 0] 8 rfl (by kernel_rfl) (by kernel_rfl) (by kernel_rfl) (by kernel_rfl) (by kernel_rfl) (laidWorld_met os _)) ?_
  · have h : (Tryd.f3.params.toList.all fun t => Tryd.prog.readableRec t && decide (t < Tryd.prog.types.size)) = true := by kernel_rfl
    intro t ht
    have := List.all_eq_true.1 h t ht
    simpa using this
  · intro ds hl
    rw [Tryd.params3] at hl
    match ds, hl with
    | [d1, d2, d3], _ => simp [Rows.setopsDenoteSpec]
  · intro W base args ds p hg hval hA _
    rw [Tryd.params3] at hA hval
    obtain ⟨v0, v1, v2, d0, d1, d2, p0, p1, p2, rfl, rfl, rfl, h0, h1, h2⟩ := trodAll_three hA
    have ha0 := arg_open (hval 0 23 v0 rfl rfl) h0
    have ha1 := arg_open (hval 1 23 v1 rfl rfl) h1
    obtain ⟨x2, rfl, rfl, rfl, w2⟩ := open_int Tryd.underlying24 (hval 2 24 v2 rfl rfl) h2
    exact lawDenote5_any setC _ _ x2 W hg ha0 ha1

theorem setopsDenoteProof_row : Rows.SetopsDenoteSaid :=
  OpenClaim.holds_of_wide 3 Tryd.f3 rfl rfl rfl rfl rfl rfl rfl ⟨rfl, rfl, rfl, rfl, rfl⟩ rfl rfl rfl rfl rfl (by kernel_rfl) Tryd.func3 (by kernel_rfl)
    (of_decide_eq_true (by kernel_rfl)) (by unfold Func.isWrapper; rw [if_neg (of_decide_eq_false (by kernel_rfl))]; exact ⟨rfl, rfl⟩)
    (fun os started H enc _ => setopsDenoteProof_lifted os started H enc)

theorem SetopsDenote_holds : Rows.SetopsDenoteCardSaid :=
  Claim7.holds_tied_plain_at .later [] [.handle] true Rows.setopsDenoteCard.stood.harness true
    setopsDenoteProof_row (fun _ h => by cases h) (by kernel_rfl) (fun _ h => by cases h) setopsDenote_row_tie rfl ⟨rfl, rfl⟩ (by kernel_rfl) rfl
    (fun f fn hf hfn => by
      obtain rfl : f = 3 := Option.some.inj ((show Tryd.prog.funcNamed "kenning/kenninglaw05.SetopsDenote" = some 3 by kernel_rfl).symm.trans hf) |>.symm
      obtain rfl : fn = Tryd.f3 := (Option.some.inj (Tryd.func3.symm.trans hfn)).symm
      refine ⟨by kernel_rfl, fun j t ht => ?_⟩
      have h : (Tryd.f3.params.toList.all fun t => !Tryd.prog.wantsStandIn t) = true := by kernel_rfl
      have := List.all_eq_true.1 h t (List.mem_of_getElem? (by rw [Array.getElem?_toList]; exact ht))
      have hx : Tryd.prog.wantsStandIn t = false := by simpa using this
      exact hx)
    (by kernel_rfl)
end Go.Proofs.YtdchddiilnhbcaaDoor
