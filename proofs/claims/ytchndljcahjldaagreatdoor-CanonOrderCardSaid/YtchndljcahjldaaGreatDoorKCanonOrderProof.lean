/- For all knowledge and turns, CanonOrder returns true. Condition: none beyond what the given statement says. -/
import Derived.Test.YtchndljcahjldaaGreatDoorKCRow
import Derived.Test.YtchndljcahjldaaGreatDoorKQIn
import Derived.ChangeMaps5
namespace Go.Proofs.YtchndljcahjldaaGreatDoor
open Go.ChangeShapes Go.WideShapes Go.RowKit
set_option maxRecDepth 100000 in
theorem canonOrderProof_lifted (os:Os) (started:os.Started) (H:Type) (enc:TypeId × Value→H) :
 ReturnsInHanded {} Tryz.checked os 6 .any (fun w args=>(Rows.canonOrderSpec.pre enc Tryz.prog Tryz.f6 [] false w args∧laidMetH Tryz.prog zc1 w)∧sizedMet enc Tryz.prog Tryz.f6 (OpenSpec.ofChange Rows.canonOrderSpec) false w args)
  (Rows.canonOrderSpec.post enc Tryz.prog Tryz.f6 false true false false):=by
 refine ym6 (fun _=>zm9) (tb:=4) os started H enc Tryz.func6 (by kernel_rfl) rfl ?_ (by kernel_rfl) Tryz.underlying4 ?_
  (ChangeSpec.witness_shaped (enc:=enc) (C:=Tryz.checked) (os:=os) (X:=fun w _=>laidMetH Tryz.prog zc1 w) false (z81 os) #[.slice none 0 0,.int .u8 0] 8 (zm8 os) (za6 os _) (by kernel_rfl) (by kernel_rfl) (by kernel_rfl) (zi2 os _)) ?_
 ·have h:(Tryz.f6.params.toList.all fun t=>Tryz.prog.readableRec t && decide (t<Tryz.prog.types.size))=true:=by kernel_rfl
  intro t ht
  have:=List.all_eq_true.1 h t ht
  simpa using this
 ·intro ds hl
  rw [Tryz.params6] at hl
  match ds,hl with
  | [d1,d2],_=>simp [Rows.canonOrderSpec]
 ·intro W base args ds p hg hval hA _
  rw [Tryz.params6] at hA hval
  obtain ⟨v0,v1,d0,d1,p0,p1,rfl,rfl,rfl,h0,h1⟩:=trodAll_two hA
  have ha0:=yk2 (hval 0 23 v0 rfl rfl) h0
  obtain ⟨x1,rfl,rfl,rfl,w1⟩:=open_int Tryz.underlying5 (hval 1 5 v1 rfl rfl) h1
  have b1:=bounds_u8 w1
  exact ye6 v0 x1 W hg ha0 b1
set_option maxHeartbeats 16000000 in
theorem canonOrderProof_closed:joinedFacts Tryz.prog 6 Tryz.f6 Rows.canonOrderSpec Rows.canonOrderRow=true:=by
 unfold joinedFacts
 repeat' (with_reducible refine Bool.and_eq_true_iff.2 ⟨?_,?_⟩)
 all_goals (as_aux_lemma=>kernel_rfl)
set_option maxHeartbeats 16000000 in
theorem canonOrderProof_row:Rows.CanonOrderSaid:=
 OpenClaim.holds_of_wide 6 Tryz.f6 rfl rfl rfl rfl rfl rfl rfl ⟨rfl,rfl,rfl,rfl,rfl⟩ rfl rfl rfl rfl rfl (by as_aux_lemma=>kernel_rfl) Tryz.func6 canonOrderProof_closed
  (of_decide_eq_true (by as_aux_lemma=>kernel_rfl)) (by unfold Func.isWrapper;rw [if_neg (of_decide_eq_false (by kernel_rfl))];exact ⟨rfl,rfl⟩)
  (fun os started H enc _=>canonOrderProof_lifted os started H enc)
set_option maxHeartbeats 16000000 in
theorem CanonOrder_holds:Rows.CanonOrderCardSaid:=
 Claim7.holds_tied_plain_at .later [] [.data,.data,.handle] true Rows.canonOrderCard.stood.harness true
  canonOrderProof_row (fun _ h=>by cases h) (by as_aux_lemma=>kernel_rfl) (fun _ h=>by cases h) canonOrder_row_tie rfl ⟨rfl,rfl⟩ (by as_aux_lemma=>kernel_rfl) rfl
  (fun f fn hf hfn=>by
    obtain rfl:f=6:=Option.some.inj ((show Tryz.prog.funcNamed "kenning/kenninglaw13.CanonOrder" = some 6 by as_aux_lemma=>kernel_rfl).symm.trans hf) |>.symm
    obtain rfl:fn=Tryz.f6:=(Option.some.inj (Tryz.func6.symm.trans hfn)).symm
    refine ⟨by as_aux_lemma=>kernel_rfl,fun j t ht => ?_⟩
    have h:(Tryz.f6.params.toList.all fun t => !Tryz.prog.wantsStandIn t)=true:=by kernel_rfl
    have:=List.all_eq_true.1 h t (List.mem_of_getElem? (by rw [Array.getElem?_toList];exact ht))
    have hx:Tryz.prog.wantsStandIn t=false:=by simpa using this
    exact hx)
  (by as_aux_lemma=>kernel_rfl)
end Go.Proofs.YtchndljcahjldaaGreatDoor
