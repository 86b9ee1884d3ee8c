/- For all knowledge and versions, CanonDenotes returns true. Condition: none beyond what the given statement says. -/
import Derived.Test.YtchndljcahjldaaGreatDoorKCLawD
import Derived.Test.YtchndljcahjldaaGreatDoorKQIn
import Derived.ChangeMaps5
namespace Go.Proofs.YtchndljcahjldaaGreatDoor
open Go.ChangeShapes Go.WideShapes Go.RowKit
set_option maxRecDepth 100000 in
theorem canonDenotesProof_lifted (os:Os) (started:os.Started) (H:Type) (enc:TypeId × Value→H) :
 ReturnsInHanded {} Tryz.checked os 5 .any (fun w args=>(Rows.canonDenotesSpec.pre enc Tryz.prog Tryz.f5 [] false w args∧laidMetH Tryz.prog zc1 w)∧sizedMet enc Tryz.prog Tryz.f5 (OpenSpec.ofChange Rows.canonDenotesSpec) false w args)
  (Rows.canonDenotesSpec.post enc Tryz.prog Tryz.f5 false true false false):=by
 refine ym6 (fun _=>zm9) (tb:=4) os started H enc Tryz.func5 (by kernel_rfl) rfl ?_ (by kernel_rfl) Tryz.underlying4 ?_
  (ChangeSpec.witness_shaped (enc:=enc) (C:=Tryz.checked) (os:=os) (X:=fun w _=>laidMetH Tryz.prog zc1 w) false (z81 os) #[.slice none 0 0,.agg #[.int .u64 0,.int .u64 0,.int .u64 0]] 8 (zm8 os) (za6 os _) (by kernel_rfl) (by kernel_rfl) (by kernel_rfl) (zi2 os _)) ?_
 ·have h:(Tryz.f5.params.toList.all fun t=>Tryz.prog.readableRec t && decide (t<Tryz.prog.types.size))=true:=by kernel_rfl
  intro t ht
  have:=List.all_eq_true.1 h t ht
  simpa using this
 ·intro ds hl
  rw [Tryz.params5] at hl
  match ds,hl with
  | [d1,d2],_=>simp [Rows.canonDenotesSpec]
 ·intro W base args ds p hg hval hA _
  rw [Tryz.params5] at hA hval
  obtain ⟨v0,v1,d0,d1,p0,p1,rfl,rfl,rfl,h0,h1⟩:=trodAll_two hA
  have ha0:=yk2 (hval 0 23 v0 rfl rfl) h0
  obtain ⟨t1,r1,c1,rfl,bt1,br1,bc1⟩:=wg6 (hval 1 38 v1 rfl rfl) h1
  exact y46 v0 t1 r1 c1 W hg ha0 bt1 bc1
set_option maxHeartbeats 16000000 in
theorem canonDenotesProof_closed:joinedFacts Tryz.prog 5 Tryz.f5 Rows.canonDenotesSpec Rows.canonDenotesRow=true:=by
 unfold joinedFacts
 repeat' (with_reducible refine Bool.and_eq_true_iff.2 ⟨?_,?_⟩)
 all_goals (as_aux_lemma=>kernel_rfl)
set_option maxHeartbeats 16000000 in
theorem canonDenotesProof_row:Rows.CanonDenotesSaid:=
 OpenClaim.holds_of_wide 5 Tryz.f5 rfl rfl rfl rfl rfl rfl rfl ⟨rfl,rfl,rfl,rfl,rfl⟩ rfl rfl rfl rfl rfl (by as_aux_lemma=>kernel_rfl) Tryz.func5 canonDenotesProof_closed
  (of_decide_eq_true (by as_aux_lemma=>kernel_rfl)) (by unfold Func.isWrapper;rw [if_neg (of_decide_eq_false (by kernel_rfl))];exact ⟨rfl,rfl⟩)
  (fun os started H enc _=>canonDenotesProof_lifted os started H enc)
set_option maxHeartbeats 16000000 in
theorem CanonDenotes_holds:Rows.CanonDenotesCardSaid:=
 Claim7.holds_tied_plain_at .later [] [.data,.data,.handle] true Rows.canonDenotesCard.stood.harness true
  canonDenotesProof_row (fun _ h=>by cases h) (by as_aux_lemma=>kernel_rfl) (fun _ h=>by cases h) canonDenotes_row_tie rfl ⟨rfl,rfl⟩ (by as_aux_lemma=>kernel_rfl) rfl
  (fun f fn hf hfn=>by
    obtain rfl:f=5:=Option.some.inj ((show Tryz.prog.funcNamed "kenning/kenninglaw13.CanonDenotes" = some 5 by as_aux_lemma=>kernel_rfl).symm.trans hf) |>.symm
    obtain rfl:fn=Tryz.f5:=(Option.some.inj (Tryz.func5.symm.trans hfn)).symm
    refine ⟨by as_aux_lemma=>kernel_rfl,fun j t ht => ?_⟩
    have h:(Tryz.f5.params.toList.all fun t => !Tryz.prog.wantsStandIn t)=true:=by kernel_rfl
    have:=List.all_eq_true.1 h t (List.mem_of_getElem? (by rw [Array.getElem?_toList];exact ht))
    have hx:Tryz.prog.wantsStandIn t=false:=by simpa using this
    exact hx)
  (by as_aux_lemma=>kernel_rfl)
end Go.Proofs.YtchndljcahjldaaGreatDoor
