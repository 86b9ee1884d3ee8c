/- For every list of intervals and every number, RangesDenotes returns true. Condition: none beyond what the given statement says. -/
import Derived.Test.YtgkdjbdcmmegiaaGreatDoorRLaw1
import Derived.Test.YtgkdjbdcmmegiaaGreatDoorRIvOpen
import Derived.Test.YtgkdjbdcmmegiaaGreatDoorRTied
import Derived.ChangeMaps5
namespace Go.Proofs.YtgkdjbdcmmegiaaGreatDoor
open Go.ChangeShapes Go.WideShapes Go.RowKit

set_option maxRecDepth 100000 in
theorem rangesDenotesProof_lifted (os : Os) (started : os.Started) (H : Type) (enc : TypeId × Value → H) :
    ReturnsInHanded {} Tryz.checked os 6 .any (fun w args => (Rows.rangesDenotesSpec.pre enc Tryz.prog Tryz.f6 [] false w args ∧ laidMetH Tryz.prog laidL w) ∧ sizedMet enc Tryz.prog Tryz.f6 (OpenSpec.ofChange Rows.rangesDenotesSpec) false w args)
      (Rows.rangesDenotesSpec.post enc Tryz.prog Tryz.f6 false true false false) := by
  refine lift_law (tb := 4) os started H enc Tryz.func6 (by kernel_rfl) rfl ?_ (by kernel_rfl) Tryz.underlying4 ?_
    (ChangeSpec.witness_shaped (enc := enc) (C := Tryz.checked) (os := os) (X := fun w _ => laidMetH Tryz.prog laidL w) false (laidWorld os) #[.slice none 0 0, .int .u64 0] 8 (laidWorld_os os) (laidWorld_shaped os _) (by kernel_rfl) (by kernel_rfl) (by kernel_rfl) (laidWorld_met os _)) ?_
  · have h : (Tryz.f6.params.toList.all fun t => Tryz.prog.readableRec t && decide (t < Tryz.prog.types.size)) = true := by kernel_rfl
    intro t ht
    have := List.all_eq_true.1 h t ht
    simpa using this
  · intro ds hl
    rw [Tryz.params6] at hl
    match ds, hl with
    | [d1, d2], _ => simp [Rows.rangesDenotesSpec]
  · intro W base args ds p hg hval hA _
    rw [Tryz.params6] at hA hval
    obtain ⟨v0, v1, d0, d1, p0, p1, rfl, rfl, rfl, h0, h1⟩ := trodAll_two hA
    obtain ⟨x1, rfl, rfl, rfl, w1⟩ := open_int Tryz.underlying36 (hval 1 36 v1 rfl rfl) h1
    rcases ivs_open (hval 0 23 v0 rfl rfl) h0 with ⟨q, n, c, rfl, hn⟩ | ⟨l, hl, h64, hi⟩
    · exact lawDenotes_long q n c x1 W hg hn
    · exact lawDenotes_any l _ x1 W hg hi h64 hl

theorem rangesDenotesProof_row : Rows.RangesDenotesSaid :=
  OpenClaim.holds_of_wide 6 Tryz.f6 rfl rfl rfl rfl rfl rfl rfl ⟨rfl, rfl, rfl, rfl, rfl⟩ rfl rfl rfl rfl rfl (by kernel_rfl) Tryz.func6 (by kernel_rfl)
    (of_decide_eq_true (by kernel_rfl)) (by unfold Func.isWrapper; rw [if_neg (of_decide_eq_false (by kernel_rfl))]; exact ⟨rfl, rfl⟩)
    (fun os started H enc _ => rangesDenotesProof_lifted os started H enc)

theorem RangesDenotes_holds : Rows.RangesDenotesCardSaid :=
  Claim7.holds_tied_plain_at .later [] [.data, .data, .data, .data, .handle, .sentinel, .sentinel, .pinned] true Rows.rangesDenotesCard.stood.harness true
    rangesDenotesProof_row (fun _ h => by cases h) (by kernel_rfl) (fun _ h => by cases h) rangesDenotes_row_tie rfl ⟨rfl, rfl⟩ (by kernel_rfl) rfl
    (fun f fn hf hfn => by
      obtain rfl : f = 6 := Option.some.inj ((show Tryz.prog.funcNamed "kenning/kenninglaw04.RangesDenotes" = some 6 by kernel_rfl).symm.trans hf) |>.symm
      obtain rfl : fn = Tryz.f6 := (Option.some.inj (Tryz.func6.symm.trans hfn)).symm
      refine ⟨by kernel_rfl, fun j t ht => ?_⟩
      have h : (Tryz.f6.params.toList.all fun t => !Tryz.prog.wantsStandIn t) = true := by kernel_rfl
      have := List.all_eq_true.1 h t (List.mem_of_getElem? (by rw [Array.getElem?_toList]; exact ht))
      have hx : Tryz.prog.wantsStandIn t = false := by simpa using this
      exact hx)
    (by kernel_rfl)
end Go.Proofs.YtgkdjbdcmmegiaaGreatDoor
