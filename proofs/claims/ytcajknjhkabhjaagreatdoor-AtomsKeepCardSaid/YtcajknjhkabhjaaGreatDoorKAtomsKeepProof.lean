/- For all knowledge, AtomsKeep returns true. Condition: none beyond what the given statement says. -/
import Derived.Test.YtcajknjhkabhjaaGreatDoorKZAlive
import Derived.Test.YtcajknjhkabhjaaGreatDoorKQIn
import Derived.ChangeMaps5
namespace Go.Proofs.YtcajknjhkabhjaaGreatDoor
open Go.ChangeShapes Go.WideShapes Go.RowKit
set_option maxRecDepth 100000 in
theorem atomsKeepProof_lifted (os : Os) (started : os.Started) (H : Type) (enc : TypeId × Value → H) :
 ReturnsInHanded {} Tryz.checked os 8 .any (fun w args => (Rows.atomsKeepSpec.pre enc Tryz.prog Tryz.f8 [] false w args ∧ laidMetH Tryz.prog laidL w) ∧ sizedMet enc Tryz.prog Tryz.f8 (OpenSpec.ofChange Rows.atomsKeepSpec) false w args)
  (Rows.atomsKeepSpec.post enc Tryz.prog Tryz.f8 false true false false) := by
 refine lift_law (fun _ => deb_of_laid) (tb := 4) os started H enc Tryz.func8 (by kernel_rfl) rfl ?_ (by kernel_rfl) Tryz.underlying4 ?_
  (ChangeSpec.witness_shaped (enc := enc) (C := Tryz.checked) (os := os) (X := fun w _ => laidMetH Tryz.prog laidL w) false (laidWorld os) #[.slice none 0 0] 8 (laidWorld_os os) (laidWorld_shaped os _) (by kernel_rfl) (by kernel_rfl) (by kernel_rfl) (laidWorld_met os _)) ?_
 ·have h : (Tryz.f8.params.toList.all fun t => Tryz.prog.readableRec t && decide (t < Tryz.prog.types.size)) = true := by kernel_rfl
  intro t ht
  have := List.all_eq_true.1 h t ht
  simpa using this
 ·intro ds hl
  rw [Tryz.params8] at hl
  match ds, hl with
  | [d1], _ => simp [Rows.atomsKeepSpec]
 ·intro W base args ds p hg hval hA _
  rw [Tryz.params8] at hA hval
  obtain ⟨v0, d0, rfl, rfl, h0⟩ := trodAll_one hA
  have ha0 := kno_open (hval 0 23 v0 rfl rfl) h0
  exact lawKeep12_any v0 W hg ha0
set_option maxHeartbeats 16000000 in
theorem atomsKeepProof_closed : joinedFacts Tryz.prog 8 Tryz.f8 Rows.atomsKeepSpec Rows.atomsKeepRow = true := by
 unfold joinedFacts
 repeat' (with_reducible refine Bool.and_eq_true_iff.2 ⟨?_, ?_⟩)
 all_goals (as_aux_lemma => kernel_rfl)
set_option maxHeartbeats 16000000 in
theorem atomsKeepProof_row : Rows.AtomsKeepSaid :=
 OpenClaim.holds_of_wide 8 Tryz.f8 rfl rfl rfl rfl rfl rfl rfl ⟨rfl, rfl, rfl, rfl, rfl⟩ rfl rfl rfl rfl rfl (by as_aux_lemma => kernel_rfl) Tryz.func8 atomsKeepProof_closed
  (of_decide_eq_true (by as_aux_lemma => kernel_rfl)) (by unfold Func.isWrapper; rw [if_neg (of_decide_eq_false (by kernel_rfl))]; exact ⟨rfl, rfl⟩)
  (fun os started H enc _ => atomsKeepProof_lifted os started H enc)
set_option maxHeartbeats 16000000 in
theorem AtomsKeep_holds : Rows.AtomsKeepCardSaid :=
 Claim7.holds_tied_plain_at .later [] [.data, .data, .handle] true Rows.atomsKeepCard.stood.harness true
  atomsKeepProof_row (fun _ h => by cases h) (by as_aux_lemma => kernel_rfl) (fun _ h => by cases h) atomsKeep_row_tie rfl ⟨rfl, rfl⟩ (by as_aux_lemma => kernel_rfl) rfl
  (fun f fn hf hfn => by
    obtain rfl : f = 8 := Option.some.inj ((show Tryz.prog.funcNamed "kenning/kenninglaw12.AtomsKeep" = some 8 by as_aux_lemma => kernel_rfl).symm.trans hf) |>.symm
    obtain rfl : fn = Tryz.f8 := (Option.some.inj (Tryz.func8.symm.trans hfn)).symm
    refine ⟨by as_aux_lemma => kernel_rfl, fun j t ht => ?_⟩
    have h : (Tryz.f8.params.toList.all fun t => !Tryz.prog.wantsStandIn t) = true := by kernel_rfl
    have := List.all_eq_true.1 h t (List.mem_of_getElem? (by rw [Array.getElem?_toList]; exact ht))
    have hx : Tryz.prog.wantsStandIn t = false := by simpa using this
    exact hx)
  (by as_aux_lemma => kernel_rfl)
end Go.Proofs.YtcajknjhkabhjaaGreatDoor
