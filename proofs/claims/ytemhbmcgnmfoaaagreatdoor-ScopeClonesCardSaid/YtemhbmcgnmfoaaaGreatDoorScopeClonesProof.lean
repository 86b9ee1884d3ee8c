/- For all knowledge and items, ScopeClones returns true. Condition: none beyond what the given statement says. -/
import Derived.Test.YtemhbmcgnmfoaaaGreatDoorQKeeps
import Derived.Test.YtemhbmcgnmfoaaaGreatDoorQOpen
import Derived.Test.YtemhbmcgnmfoaaaGreatDoorKAt
import Derived.Test.YtemhbmcgnmfoaaaGreatDoorKTied
import Derived.ChangeMaps5
namespace Go.Proofs.YtemhbmcgnmfoaaaGreatDoor
open Go.ChangeShapes Go.WideShapes Go.RowKit

set_option maxRecDepth 100000 in
theorem scopeClonesProof_lifted (os : Os) (started : os.Started) (H : Type) (enc : TypeId × Value → H) :
    ReturnsInHanded {} Tryz.checked os 8 .any (fun w args => (Rows.scopeClonesSpec.pre enc Tryz.prog Tryz.f8 [] false w args ∧ laidMetH Tryz.prog laidL w) ∧ sizedMet enc Tryz.prog Tryz.f8 (OpenSpec.ofChange Rows.scopeClonesSpec) false w args)
      (Rows.scopeClonesSpec.post enc Tryz.prog Tryz.f8 false true false false) := by
  refine lift_law (tb := 4) os started H enc Tryz.func8 (by kernel_rfl) rfl ?_ (by kernel_rfl) Tryz.underlying4 ?_
    (ChangeSpec.witness_shaped (enc := enc) (C := Tryz.checked) (os := os) (X := fun w _ => laidMetH Tryz.prog laidL w) false (laidWorld os) #[.slice none 0 0, .int .u64 0] 8 (laidWorld_os os) (laidWorld_shaped os _) (by kernel_rfl) (by kernel_rfl) (by kernel_rfl) (laidWorld_met os _)) ?_
  · have h : (Tryz.f8.params.toList.all fun t => Tryz.prog.readableRec t && decide (t < Tryz.prog.types.size)) = true := by kernel_rfl
    intro t ht
    have := List.all_eq_true.1 h t ht
    simpa using this
  · intro ds hl
    rw [Tryz.params8] at hl
    match ds, hl with
    | [d1, d2], _ => simp [Rows.scopeClonesSpec]
  · intro W base args ds p hg hval hA _
    rw [Tryz.params8] at hA hval
    obtain ⟨v0, v1, d0, d1, p0, p1, rfl, rfl, rfl, h0, h1⟩ := trodAll_two hA
    have ha0 := kno_open (hval 0 23 v0 rfl rfl) h0
    obtain ⟨x1, rfl, rfl, rfl, w1⟩ := open_int Tryz.underlying34 (hval 1 34 v1 rfl rfl) h1
    have b1 := bounds_u64 w1
    exact lawClones11_any scopeC cloneC v0 x1 W hg ha0 b1

theorem scopeClonesProof_row : Rows.ScopeClonesSaid :=
  OpenClaim.holds_of_wide 8 Tryz.f8 rfl rfl rfl rfl rfl rfl rfl ⟨rfl, rfl, rfl, rfl, rfl⟩ rfl rfl rfl rfl rfl (by kernel_rfl) Tryz.func8 (by kernel_rfl)
    (of_decide_eq_true (by kernel_rfl)) (by unfold Func.isWrapper; rw [if_neg (of_decide_eq_false (by kernel_rfl))]; exact ⟨rfl, rfl⟩)
    (fun os started H enc _ => scopeClonesProof_lifted os started H enc)

theorem ScopeClones_holds : Rows.ScopeClonesCardSaid :=
  Claim7.holds_tied_plain_at .later [] [.data, .data, .handle] true Rows.scopeClonesCard.stood.harness true
    scopeClonesProof_row (fun _ h => by cases h) (by kernel_rfl) (fun _ h => by cases h) scopeClones_row_tie rfl ⟨rfl, rfl⟩ (by kernel_rfl) rfl
    (fun f fn hf hfn => by
      obtain rfl : f = 8 := Option.some.inj ((show Tryz.prog.funcNamed "kenning/kenninglaw11.ScopeClones" = some 8 by kernel_rfl).symm.trans hf) |>.symm
      obtain rfl : fn = Tryz.f8 := (Option.some.inj (Tryz.func8.symm.trans hfn)).symm
      refine ⟨by kernel_rfl, fun j t ht => ?_⟩
      have h : (Tryz.f8.params.toList.all fun t => !Tryz.prog.wantsStandIn t) = true := by kernel_rfl
      have := List.all_eq_true.1 h t (List.mem_of_getElem? (by rw [Array.getElem?_toList]; exact ht))
      have hx : Tryz.prog.wantsStandIn t = false := by simpa using this
      exact hx)
    (by kernel_rfl)
end Go.Proofs.YtemhbmcgnmfoaaaGreatDoor
