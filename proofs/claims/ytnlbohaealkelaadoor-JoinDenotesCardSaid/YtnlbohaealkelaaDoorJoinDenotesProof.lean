/- For all pairs of entries and all counters, JoinDenotes returns true. Condition: none beyond what the given statement says. -/
import Derived.Test.YtnlbohaealkelaaDoorJDen
import Derived.Test.YtnlbohaealkelaaDoorNOpen
import Derived.Test.YtnlbohaealkelaaDoorJCode
import Derived.Test.YtnlbohaealkelaaDoorTied
namespace Go.Proofs.YtnlbohaealkelaaDoor
open Go.ChangeShapes Go.WideShapes Go.RowKit

set_option maxRecDepth 100000 in
theorem joinDenotesProof_lifted (os : Os) (started : os.Started) (H : Type) (enc : TypeId × Value → H) :
    ReturnsInHanded {} Tryd.checked os 3 .any (fun w args => (Rows.joinDenotesSpec.pre enc Tryd.prog Tryd.f3 [] false w args ∧ laidMetH Tryd.prog [("errors.errorType", Rows.laid_errors_errorType)] w) ∧ sizedMet enc Tryd.prog Tryd.f3 (OpenSpec.ofChange Rows.joinDenotesSpec) false w args)
      (Rows.joinDenotesSpec.post enc Tryd.prog Tryd.f3 false true false false) := by
  refine lift_law (tb := 4) os started H enc Tryd.func3 (by kernel_rfl) rfl ?_ (by kernel_rfl) Tryd.underlying4 ?_
    (ChangeSpec.witness_at (enc := enc) (C := Tryd.checked) (os := os) (X := fun w _ => laidMetH Tryd.prog [("errors.errorType", Rows.laid_errors_errorType)] w) false (laidWorld os) #[.agg #[.int .u64 0, .int .u64 0, .slice none 0 0], .agg #[.int .u64 0, .int .u64 0, .slice none 0 0], .int .u64 0] 8 rfl (by kernel_rfl) (by kernel_rfl) (by kernel_rfl) (by kernel_rfl) (by kernel_rfl) (laidWorld_met os _)) ?_
  · have h : (Tryd.f3.params.toList.all fun t => Tryd.prog.readableRec t && decide (t < Tryd.prog.types.size)) = true := by kernel_rfl
    intro t ht
    have := List.all_eq_true.1 h t ht
    simpa using this
  · intro ds hl
    rw [Tryd.params3] at hl
    match ds, hl with
    | [d1, d2, d3], _ => simp [Rows.joinDenotesSpec]
  · intro W base args ds p hg hval hA _
    rw [Tryd.params3] at hA hval
    obtain ⟨v0, v1, v2, d0, d1, d2, p0, p1, p2, rfl, rfl, rfl, h0, h1, h2⟩ := trodAll_three hA
    obtain ⟨r0, m0, s0, rfl, ha0⟩ := ent_open (hval 0 26 v0 rfl rfl) h0
    obtain ⟨r1, m1, s1, rfl, ha1⟩ := ent_open (hval 1 26 v1 rfl rfl) h1
    obtain ⟨x2, rfl, rfl, rfl, w2⟩ := open_int Tryd.underlying22 (hval 2 22 v2 rfl rfl) h2
    have b2 := bounds_u64 w2
    exact lawDenotes8_any joinC r0 m0 r1 m1 s0 s1 x2 b2 W hg ha0 ha1

theorem joinDenotesProof_row : Rows.JoinDenotesSaid :=
  OpenClaim.holds_of_wide 3 Tryd.f3 rfl rfl rfl rfl rfl rfl rfl ⟨rfl, rfl, rfl, rfl, rfl⟩ rfl rfl rfl rfl rfl (by kernel_rfl) Tryd.func3 (by kernel_rfl)
    (of_decide_eq_true (by kernel_rfl)) (by unfold Func.isWrapper; rw [if_neg (of_decide_eq_false (by kernel_rfl))]; exact ⟨rfl, rfl⟩)
    (fun os started H enc _ => joinDenotesProof_lifted os started H enc)

theorem JoinDenotes_holds : Rows.JoinDenotesCardSaid :=
  Claim7.holds_tied_plain_at .later [] [.handle] true Rows.joinDenotesCard.stood.harness true
    joinDenotesProof_row (fun _ h => by cases h) (by kernel_rfl) (fun _ h => by cases h) joinDenotes_row_tie rfl ⟨rfl, rfl⟩ (by kernel_rfl) rfl
    (fun f fn hf hfn => by
      obtain rfl : f = 3 := Option.some.inj ((show Tryd.prog.funcNamed "kenning/kenninglaw08.JoinDenotes" = some 3 by kernel_rfl).symm.trans hf) |>.symm
      obtain rfl : fn = Tryd.f3 := (Option.some.inj (Tryd.func3.symm.trans hfn)).symm
      refine ⟨by kernel_rfl, fun j t ht => ?_⟩
      have h : (Tryd.f3.params.toList.all fun t => !Tryd.prog.wantsStandIn t) = true := by kernel_rfl
      have := List.all_eq_true.1 h t (List.mem_of_getElem? (by rw [Array.getElem?_toList]; exact ht))
      have hx : Tryd.prog.wantsStandIn t = false := by simpa using this
      exact hx)
    (by kernel_rfl)
end Go.Proofs.YtnlbohaealkelaaDoor
