/- For all pairs of entries, EntrySame returns true. Condition: none beyond what the given statement says. -/
import Derived.Test.YtjnpcpcgigdngaaDoorNLaws
import Derived.Test.YtjnpcpcgigdngaaDoorNOpen
import Derived.Test.YtjnpcpcgigdngaaDoorNSetC
import Derived.Test.YtjnpcpcgigdngaaDoorTied
namespace Go.Proofs.YtjnpcpcgigdngaaDoor
open Go.ChangeShapes Go.WideShapes Go.RowKit

set_option maxRecDepth 100000 in
theorem entrySameProof_lifted (os : Os) (started : os.Started) (H : Type) (enc : TypeId × Value → H) :
    ReturnsInHanded {} Tryd.checked os 7 .any (fun w args => (Rows.entrySameSpec.pre enc Tryd.prog Tryd.f7 [] false w args ∧ laidMetH Tryd.prog [("errors.errorType", Rows.laid_errors_errorType)] w) ∧ sizedMet enc Tryd.prog Tryd.f7 (OpenSpec.ofChange Rows.entrySameSpec) false w args)
      (Rows.entrySameSpec.post enc Tryd.prog Tryd.f7 false true false false) := by
  refine lift_law (tb := 4) os started H enc Tryd.func7 (by kernel_rfl) rfl ?_ (by kernel_rfl) Tryd.underlying4 ?_
    (ChangeSpec.witness_at (enc := enc) (C := Tryd.checked) (os := os) (X := fun w _ => laidMetH Tryd.prog [("errors.errorType", Rows.laid_errors_errorType)] w) false (laidWorld os) #[.agg #[.int .u64 0, .int .u64 0, .slice none 0 0], .agg #[.int .u64 0, .int .u64 0, .slice none 0 0]] 8 rfl (by kernel_rfl) (by kernel_rfl) (by kernel_rfl) (by kernel_rfl) (by kernel_rfl) (laidWorld_met os _)) ?_
  · have h : (Tryd.f7.params.toList.all fun t => Tryd.prog.readableRec t && decide (t < Tryd.prog.types.size)) = true := by kernel_rfl
    intro t ht
    have := List.all_eq_true.1 h t ht
    simpa using this
  · intro ds hl
    rw [Tryd.params7] at hl
    match ds, hl with
    | [d1, d2], _ => simp [Rows.entrySameSpec]
  · intro W base args ds p hg hval hA _
    rw [Tryd.params7] at hA hval
    obtain ⟨v0, v1, d0, d1, p0, p1, rfl, rfl, rfl, h0, h1⟩ := trodAll_two hA
    have ha0 := ent_open (hval 0 26 v0 rfl rfl) h0
    have ha1 := ent_open (hval 1 26 v1 rfl rfl) h1
    exact lawSame7_any entC v0 v1 W hg ha0 ha1

theorem entrySameProof_row : Rows.EntrySameSaid :=
  OpenClaim.holds_of_wide 7 Tryd.f7 rfl rfl rfl rfl rfl rfl rfl ⟨rfl, rfl, rfl, rfl, rfl⟩ rfl rfl rfl rfl rfl (by kernel_rfl) Tryd.func7 (by kernel_rfl)
    (of_decide_eq_true (by kernel_rfl)) (by unfold Func.isWrapper; rw [if_neg (of_decide_eq_false (by kernel_rfl))]; exact ⟨rfl, rfl⟩)
    (fun os started H enc _ => entrySameProof_lifted os started H enc)

theorem EntrySame_holds : Rows.EntrySameCardSaid :=
  Claim7.holds_tied_plain_at .later [] [.handle] true Rows.entrySameCard.stood.harness true
    entrySameProof_row (fun _ h => by cases h) (by kernel_rfl) (fun _ h => by cases h) entrySame_row_tie rfl ⟨rfl, rfl⟩ (by kernel_rfl) rfl
    (fun f fn hf hfn => by
      obtain rfl : f = 7 := Option.some.inj ((show Tryd.prog.funcNamed "kenning/kenninglaw07.EntrySame" = some 7 by kernel_rfl).symm.trans hf) |>.symm
      obtain rfl : fn = Tryd.f7 := (Option.some.inj (Tryd.func7.symm.trans hfn)).symm
      refine ⟨by kernel_rfl, fun j t ht => ?_⟩
      have h : (Tryd.f7.params.toList.all fun t => !Tryd.prog.wantsStandIn t) = true := by kernel_rfl
      have := List.all_eq_true.1 h t (List.mem_of_getElem? (by rw [Array.getElem?_toList]; exact ht))
      have hx : Tryd.prog.wantsStandIn t = false := by simpa using this
      exact hx)
    (by kernel_rfl)
end Go.Proofs.YtjnpcpcgigdngaaDoor
