/- For all entries, EntryCanon returns true. Condition: none beyond what the given statement says. -/
import Derived.Test.YtjnpcpcgigdngaaDoorNLaws
import Derived.Test.YtjnpcpcgigdngaaDoorNOpen
import Derived.Test.YtjnpcpcgigdngaaDoorNSetC
import Derived.Test.YtjnpcpcgigdngaaDoorTied
namespace Go.Proofs.YtjnpcpcgigdngaaDoor
open Go.ChangeShapes Go.WideShapes Go.RowKit

set_option maxRecDepth 100000 in
theorem entryCanonProof_lifted (os : Os) (started : os.Started) (H : Type) (enc : TypeId × Value → H) :
    ReturnsInHanded {} Tryd.checked os 6 .any (fun w args => (Rows.entryCanonSpec.pre enc Tryd.prog Tryd.f6 [] false w args ∧ laidMetH Tryd.prog [("errors.errorType", Rows.laid_errors_errorType)] w) ∧ sizedMet enc Tryd.prog Tryd.f6 (OpenSpec.ofChange Rows.entryCanonSpec) false w args)
      (Rows.entryCanonSpec.post enc Tryd.prog Tryd.f6 false true false false) := by
  refine lift_law (tb := 4) os started H enc Tryd.func6 (by kernel_rfl) rfl ?_ (by kernel_rfl) Tryd.underlying4 ?_
    (ChangeSpec.witness_at (enc := enc) (C := Tryd.checked) (os := os) (X := fun w _ => laidMetH Tryd.prog [("errors.errorType", Rows.laid_errors_errorType)] w) false (laidWorld os) #[.agg #[.int .u64 0, .int .u64 0, .slice none 0 0]] 8 rfl (by kernel_rfl) (by kernel_rfl) (by kernel_rfl) (by kernel_rfl) (by kernel_rfl) (laidWorld_met os _)) ?_
  · have h : (Tryd.f6.params.toList.all fun t => Tryd.prog.readableRec t && decide (t < Tryd.prog.types.size)) = true := by kernel_rfl
    intro t ht
    have := List.all_eq_true.1 h t ht
    simpa using this
  · intro ds hl
    rw [Tryd.params6] at hl
    match ds, hl with
    | [d1], _ => simp [Rows.entryCanonSpec]
  · intro W base args ds p hg hval hA _
    rw [Tryd.params6] at hA hval
    obtain ⟨v0, d0, rfl, rfl, h0⟩ := trodAll_one hA
    have ha0 := ent_open (hval 0 26 v0 rfl rfl) h0
    exact lawCanon7_any entC v0 W hg ha0

theorem entryCanonProof_row : Rows.EntryCanonSaid :=
  OpenClaim.holds_of_wide 6 Tryd.f6 rfl rfl rfl rfl rfl rfl rfl ⟨rfl, rfl, rfl, rfl, rfl⟩ rfl rfl rfl rfl rfl (by kernel_rfl) Tryd.func6 (by kernel_rfl)
    (of_decide_eq_true (by kernel_rfl)) (by unfold Func.isWrapper; rw [if_neg (of_decide_eq_false (by kernel_rfl))]; exact ⟨rfl, rfl⟩)
    (fun os started H enc _ => entryCanonProof_lifted os started H enc)

theorem EntryCanon_holds : Rows.EntryCanonCardSaid :=
  Claim7.holds_tied_plain_at .later [] [.handle] true Rows.entryCanonCard.stood.harness true
    entryCanonProof_row (fun _ h => by cases h) (by kernel_rfl) (fun _ h => by cases h) entryCanon_row_tie rfl ⟨rfl, rfl⟩ (by kernel_rfl) rfl
    (fun f fn hf hfn => by
      obtain rfl : f = 6 := Option.some.inj ((show Tryd.prog.funcNamed "kenning/kenninglaw07.EntryCanon" = some 6 by kernel_rfl).symm.trans hf) |>.symm
      obtain rfl : fn = Tryd.f6 := (Option.some.inj (Tryd.func6.symm.trans hfn)).symm
      refine ⟨by kernel_rfl, fun j t ht => ?_⟩
      have h : (Tryd.f6.params.toList.all fun t => !Tryd.prog.wantsStandIn t) = true := by kernel_rfl
      have := List.all_eq_true.1 h t (List.mem_of_getElem? (by rw [Array.getElem?_toList]; exact ht))
      have hx : Tryd.prog.wantsStandIn t = false := by simpa using this
      exact hx)
    (by kernel_rfl)
end Go.Proofs.YtjnpcpcgigdngaaDoor
