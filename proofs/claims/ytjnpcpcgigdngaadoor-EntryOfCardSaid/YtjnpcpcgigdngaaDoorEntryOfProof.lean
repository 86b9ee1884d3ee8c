/- For all replicas and lists, EntryOf returns true. Condition: none beyond what the given statement says. -/
import Derived.Test.YtjnpcpcgigdngaaDoorNLaws
import Derived.Test.YtjnpcpcgigdngaaDoorNOpen
import Derived.Test.YtjnpcpcgigdngaaDoorNSetC
import Derived.Test.YtjnpcpcgigdngaaDoorTied
namespace Go.Proofs.YtjnpcpcgigdngaaDoor
open Go.ChangeShapes Go.WideShapes Go.RowKit

set_option maxRecDepth 100000 in
theorem entryOfProof_lifted (os : Os) (started : os.Started) (H : Type) (enc : TypeId × Value → H) :
    ReturnsInHanded {} Tryd.checked os 5 .any (fun w args => (Rows.entryOfSpec.pre enc Tryd.prog Tryd.f5 [] false w args ∧ laidMetH Tryd.prog [("errors.errorType", Rows.laid_errors_errorType)] w) ∧ sizedMet enc Tryd.prog Tryd.f5 (OpenSpec.ofChange Rows.entryOfSpec) false w args)
      (Rows.entryOfSpec.post enc Tryd.prog Tryd.f5 false true false false) := by
  refine lift_law (tb := 4) os started H enc Tryd.func5 (by kernel_rfl) rfl ?_ (by kernel_rfl) Tryd.underlying4 ?_
    (ChangeSpec.witness_at (enc := enc) (C := Tryd.checked) (os := os) (X := fun w _ => laidMetH Tryd.prog [("errors.errorType", Rows.laid_errors_errorType)] w) false (laidWorld os) #[.int .u64 0, .slice none 0 0] 8 rfl (by kernel_rfl) (by kernel_rfl) (by kernel_rfl) (by kernel_rfl) (by kernel_rfl) (laidWorld_met os _)) ?_
  · have h : (Tryd.f5.params.toList.all fun t => Tryd.prog.readableRec t && decide (t < Tryd.prog.types.size)) = true := by kernel_rfl
    intro t ht
    have := List.all_eq_true.1 h t ht
    simpa using this
  · intro ds hl
    rw [Tryd.params5] at hl
    match ds, hl with
    | [d1, d2], _ => simp [Rows.entryOfSpec]
  · intro W base args ds p hg hval hA _
    rw [Tryd.params5] at hA hval
    obtain ⟨v0, v1, d0, d1, p0, p1, rfl, rfl, rfl, h0, h1⟩ := trodAll_two hA
    obtain ⟨x0, rfl, rfl, rfl, w0⟩ := open_int Tryd.underlying22 (hval 0 22 v0 rfl rfl) h0
    exact lawOf7_any entC x0 v1 W hg (sane6_open (hval 1 24 v1 rfl rfl)) (arg_open (hval 1 24 v1 rfl rfl) h1)

theorem entryOfProof_row : Rows.EntryOfSaid :=
  OpenClaim.holds_of_wide 5 Tryd.f5 rfl rfl rfl rfl rfl rfl rfl ⟨rfl, rfl, rfl, rfl, rfl⟩ rfl rfl rfl rfl rfl (by kernel_rfl) Tryd.func5 (by kernel_rfl)
    (of_decide_eq_true (by kernel_rfl)) (by unfold Func.isWrapper; rw [if_neg (of_decide_eq_false (by kernel_rfl))]; exact ⟨rfl, rfl⟩)
    (fun os started H enc _ => entryOfProof_lifted os started H enc)

theorem EntryOf_holds : Rows.EntryOfCardSaid :=
  Claim7.holds_tied_plain_at .later [] [.handle] true Rows.entryOfCard.stood.harness true
    entryOfProof_row (fun _ h => by cases h) (by kernel_rfl) (fun _ h => by cases h) entryOf_row_tie rfl ⟨rfl, rfl⟩ (by kernel_rfl) rfl
    (fun f fn hf hfn => by
      obtain rfl : f = 5 := Option.some.inj ((show Tryd.prog.funcNamed "kenning/kenninglaw07.EntryOf" = some 5 by kernel_rfl).symm.trans hf) |>.symm
      obtain rfl : fn = Tryd.f5 := (Option.some.inj (Tryd.func5.symm.trans hfn)).symm
      refine ⟨by kernel_rfl, fun j t ht => ?_⟩
      have h : (Tryd.f5.params.toList.all fun t => !Tryd.prog.wantsStandIn t) = true := by kernel_rfl
      have := List.all_eq_true.1 h t (List.mem_of_getElem? (by rw [Array.getElem?_toList]; exact ht))
      have hx : Tryd.prog.wantsStandIn t = false := by simpa using this
      exact hx)
    (by kernel_rfl)
end Go.Proofs.YtjnpcpcgigdngaaDoor
