/- For all knowledge, CanonMatches returns true. Condition: none beyond what the given statement says. -/
import Derived.Test.YtchndljcahjldaaGreatDoorMCLawM
import Derived.Test.YtchndljcahjldaaGreatDoorMQIn
import Derived.ChangeMaps5
namespace Go.Proofs.YtchndljcahjldaaGreatDoor
open Go.ChangeShapes Go.WideShapes Go.RowKit
set_option maxRecDepth 100000 in
theorem canonMatchesProof_lifted (os:Os) (started:os.Started) (H:Type) (enc:TypeId × Value→H) :
 ReturnsInHanded {} Tryz.checked os 4 .any (fun w args=>(Rows.canonMatchesSpec.pre enc Tryz.prog Tryz.f4 [] false w args∧laidMetH Tryz.prog zl8 w)∧sizedMet enc Tryz.prog Tryz.f4 (OpenSpec.ofChange Rows.canonMatchesSpec) false w args)
  (Rows.canonMatchesSpec.post enc Tryz.prog Tryz.f4 false true false false):=by
 refine wj3 (fun _=>x20) (tb:=4) os started H enc Tryz.func4 (by kernel_rfl) rfl ?_ (by kernel_rfl) Tryz.underlying4 ?_
  (ChangeSpec.witness_shaped (enc:=enc) (C:=Tryz.checked) (os:=os) (X:=fun w _=>laidMetH Tryz.prog zl8 w) false (ze6 os) #[.slice none 0 0] 8 (x18 os) (y78 os _) (by kernel_rfl) (by kernel_rfl) (by kernel_rfl) (yp1 os _)) ?_
 ·have h:(Tryz.f4.params.toList.all fun t=>Tryz.prog.readableRec t && decide (t<Tryz.prog.types.size))=true:=by kernel_rfl
  intro t ht
  have:=List.all_eq_true.1 h t ht
  simpa using this
 ·intro ds hl
  rw [Tryz.params4] at hl
  match ds,hl with
  | [d1],_=>simp [Rows.canonMatchesSpec]
 ·intro W base args ds p hg hval hA _
  rw [Tryz.params4] at hA hval
  obtain ⟨v0,d0,rfl,rfl,h0⟩:=trodAll_one hA
  have ha0:=wg0 (hval 0 23 v0 rfl rfl) h0
  exact y41 v0 W hg ha0
set_option maxHeartbeats 16000000 in
theorem canonMatchesProof_closed:joinedFacts Tryz.prog 4 Tryz.f4 Rows.canonMatchesSpec Rows.canonMatchesRow=true:=by
 unfold joinedFacts
 repeat' (with_reducible refine Bool.and_eq_true_iff.2 ⟨?_,?_⟩)
 all_goals (as_aux_lemma=>kernel_rfl)
set_option maxHeartbeats 16000000 in
theorem canonMatchesProof_row:Rows.CanonMatchesSaid:=
 OpenClaim.holds_of_wide 4 Tryz.f4 rfl rfl rfl rfl rfl rfl rfl ⟨rfl,rfl,rfl,rfl,rfl⟩ rfl rfl rfl rfl rfl (by as_aux_lemma=>kernel_rfl) Tryz.func4 canonMatchesProof_closed
  (of_decide_eq_true (by as_aux_lemma=>kernel_rfl)) (by unfold Func.isWrapper;rw [if_neg (of_decide_eq_false (by kernel_rfl))];exact ⟨rfl,rfl⟩)
  (fun os started H enc _=>canonMatchesProof_lifted os started H enc)
set_option maxHeartbeats 16000000 in
theorem CanonMatches_holds:Rows.CanonMatchesCardSaid:=
 Claim7.holds_tied_plain_at .later [] [.data,.data,.handle] true Rows.canonMatchesCard.stood.harness true
  canonMatchesProof_row (fun _ h=>by cases h) (by as_aux_lemma=>kernel_rfl) (fun _ h=>by cases h) canonMatches_row_tie rfl ⟨rfl,rfl⟩ (by as_aux_lemma=>kernel_rfl) rfl
  (fun f fn hf hfn=>by
    obtain rfl:f=4:=Option.some.inj ((show Tryz.prog.funcNamed "kenning/kenninglaw13.CanonMatches" = some 4 by as_aux_lemma=>kernel_rfl).symm.trans hf) |>.symm
    obtain rfl:fn=Tryz.f4:=(Option.some.inj (Tryz.func4.symm.trans hfn)).symm
    refine ⟨by as_aux_lemma=>kernel_rfl,fun j t ht => ?_⟩
    have h:(Tryz.f4.params.toList.all fun t => !Tryz.prog.wantsStandIn t)=true:=by kernel_rfl
    have:=List.all_eq_true.1 h t (List.mem_of_getElem? (by rw [Array.getElem?_toList];exact ht))
    have hx:Tryz.prog.wantsStandIn t=false:=by simpa using this
    exact hx)
  (by as_aux_lemma=>kernel_rfl)
end Go.Proofs.YtchndljcahjldaaGreatDoor
