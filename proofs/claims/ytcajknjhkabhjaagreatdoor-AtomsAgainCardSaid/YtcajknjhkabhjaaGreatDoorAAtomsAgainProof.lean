/- For all knowledge, AtomsAgain returns true. Condition: none beyond what the given statement says. -/
import Derived.Test.YtcajknjhkabhjaaGreatDoorAZAlive
import Derived.Test.YtcajknjhkabhjaaGreatDoorAQIn
import Derived.ChangeMaps5
namespace Go.Proofs.YtcajknjhkabhjaaGreatDoor
open Go.ChangeShapes Go.WideShapes Go.RowKit
set_option maxRecDepth 100000 in
theorem atomsAgainProof_lifted (os : Os) (started : os.Started) (H : Type) (enc : TypeId × Value → H) :
 ReturnsInHanded {} Tryz.checked os 7 .any (fun w args => (Rows.atomsAgainSpec.pre enc Tryz.prog Tryz.f7 [] false w args ∧ laidMetH Tryz.prog laidL w) ∧ sizedMet enc Tryz.prog Tryz.f7 (OpenSpec.ofChange Rows.atomsAgainSpec) false w args)
  (Rows.atomsAgainSpec.post enc Tryz.prog Tryz.f7 false true false false) := by
 refine lift_law (fun _ => deb_of_laid) (tb := 4) os started H enc Tryz.func7 (by kernel_rfl) rfl ?_ (by kernel_rfl) Tryz.underlying4 ?_
  (ChangeSpec.witness_shaped (enc := enc) (C := Tryz.checked) (os := os) (X := fun w _ => laidMetH Tryz.prog laidL w) false (laidWorld os) #[.slice none 0 0] 8 (laidWorld_os os) (laidWorld_shaped os _) (by kernel_rfl) (by kernel_rfl) (by kernel_rfl) (laidWorld_met os _)) ?_
 ·have h : (Tryz.f7.params.toList.all fun t => Tryz.prog.readableRec t && decide (t < Tryz.prog.types.size)) = true := by kernel_rfl
  intro t ht
  have := List.all_eq_true.1 h t ht
  simpa using this
 ·intro ds hl
  rw [Tryz.params7] at hl
  match ds, hl with
  | [d1], _ => simp [Rows.atomsAgainSpec]
 ·intro W base args ds p hg hval hA _
  rw [Tryz.params7] at hA hval
  obtain ⟨v0, d0, rfl, rfl, h0⟩ := trodAll_one hA
  have ha0 := kno_open (hval 0 23 v0 rfl rfl) h0
  exact lawAgain12_any v0 W hg ha0
set_option maxHeartbeats 16000000 in
theorem atomsAgainProof_closed : joinedFacts Tryz.prog 7 Tryz.f7 Rows.atomsAgainSpec Rows.atomsAgainRow = true := by
 unfold joinedFacts
 repeat' (with_reducible refine Bool.and_eq_true_iff.2 ⟨?_, ?_⟩)
 all_goals (as_aux_lemma => kernel_rfl)
set_option maxHeartbeats 16000000 in
theorem atomsAgainProof_row : Rows.AtomsAgainSaid :=
 OpenClaim.holds_of_wide 7 Tryz.f7 rfl rfl rfl rfl rfl rfl rfl ⟨rfl, rfl, rfl, rfl, rfl⟩ rfl rfl rfl rfl rfl (by as_aux_lemma => kernel_rfl) Tryz.func7 atomsAgainProof_closed
  (of_decide_eq_true (by as_aux_lemma => kernel_rfl)) (by unfold Func.isWrapper; rw [if_neg (of_decide_eq_false (by kernel_rfl))]; exact ⟨rfl, rfl⟩)
  (fun os started H enc _ => atomsAgainProof_lifted os started H enc)
set_option maxHeartbeats 16000000 in
theorem AtomsAgain_holds : Rows.AtomsAgainCardSaid :=
 Claim7.holds_tied_plain_at .later [] [.data, .data, .handle] true Rows.atomsAgainCard.stood.harness true
  atomsAgainProof_row (fun _ h => by cases h) (by as_aux_lemma => kernel_rfl) (fun _ h => by cases h) atomsAgain_row_tie rfl ⟨rfl, rfl⟩ (by as_aux_lemma => kernel_rfl) rfl
  (fun f fn hf hfn => by
    obtain rfl : f = 7 := Option.some.inj ((show Tryz.prog.funcNamed "kenning/kenninglaw12.AtomsAgain" = some 7 by as_aux_lemma => kernel_rfl).symm.trans hf) |>.symm
    obtain rfl : fn = Tryz.f7 := (Option.some.inj (Tryz.func7.symm.trans hfn)).symm
    refine ⟨by as_aux_lemma => kernel_rfl, fun j t ht => ?_⟩
    have h : (Tryz.f7.params.toList.all fun t => !Tryz.prog.wantsStandIn t) = true := by kernel_rfl
    have := List.all_eq_true.1 h t (List.mem_of_getElem? (by rw [Array.getElem?_toList]; exact ht))
    have hx : Tryz.prog.wantsStandIn t = false := by simpa using this
    exact hx)
  (by as_aux_lemma => kernel_rfl)
end Go.Proofs.YtcajknjhkabhjaaGreatDoor
