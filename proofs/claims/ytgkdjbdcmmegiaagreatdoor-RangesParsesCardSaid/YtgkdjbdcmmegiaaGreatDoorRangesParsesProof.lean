/- For every text, RangesParses returns true. Condition: none beyond what the given statement says. -/
import Derived.Test.YtgkdjbdcmmegiaaGreatDoorRLaw6
import Derived.Test.YtgkdjbdcmmegiaaGreatDoorRRefParse
import Derived.Test.YtgkdjbdcmmegiaaGreatDoorRTied
import Derived.ChangeMaps5
namespace Go.Proofs.YtgkdjbdcmmegiaaGreatDoor
open Go.ChangeShapes Go.WideShapes Go.RowKit

set_option maxRecDepth 100000 in
theorem rangesParsesProof_lifted (os : Os) (started : os.Started) (H : Type) (enc : TypeId × Value → H) :
    ReturnsInHanded {} Tryz.checked os 8 .any (fun w args => (Rows.rangesParsesSpec.pre enc Tryz.prog Tryz.f8 [] false w args ∧ laidMetH Tryz.prog laidL w) ∧ sizedMet enc Tryz.prog Tryz.f8 (OpenSpec.ofChange Rows.rangesParsesSpec) false w args)
      (Rows.rangesParsesSpec.post enc Tryz.prog Tryz.f8 false true false false) := by
  refine lift_law (tb := 4) os started H enc Tryz.func8 (by kernel_rfl) rfl ?_ (by kernel_rfl) Tryz.underlying4 ?_
    (ChangeSpec.witness_shaped (enc := enc) (C := Tryz.checked) (os := os) (X := fun w _ => laidMetH Tryz.prog laidL w) false (laidWorld os) #[.string ⟨#[]⟩] 8 (laidWorld_os os) (laidWorld_shaped os _) (by kernel_rfl) (by kernel_rfl) (by kernel_rfl) (laidWorld_met os _)) ?_
  · have h : (Tryz.f8.params.toList.all fun t => Tryz.prog.readableRec t && decide (t < Tryz.prog.types.size)) = true := by kernel_rfl
    intro t ht
    have := List.all_eq_true.1 h t ht
    simpa using this
  · intro ds hl
    rw [Tryz.params8] at hl
    match ds, hl with
    | [d], _ => simp [Rows.rangesParsesSpec]
  · intro W base args ds p hg hval hA _
    rw [Tryz.params8] at hA hval
    obtain ⟨v0, d0, rfl, rfl, h0⟩ := trodAll_one hA
    obtain ⟨s, rfl, rfl, rfl, hs⟩ := Go.ChangeMaps.open_string Tryz.underlying9 (hval 0 9 v0 rfl rfl) h0
    by_cases hn : 1000 < s.size
    · exact lawParses_long s W hg hn
    · have hl : s.data.toList.length ≤ 1000 := Nat.not_lt.1 hn
      exact lawParses_of s.data.toList W hg hl (fun W' => refParse_any s.data.toList (by omega) W')

theorem rangesParsesProof_row : Rows.RangesParsesSaid :=
  OpenClaim.holds_of_wide 8 Tryz.f8 rfl rfl rfl rfl rfl rfl rfl ⟨rfl, rfl, rfl, rfl, rfl⟩ rfl rfl rfl rfl rfl (by kernel_rfl) Tryz.func8 (by kernel_rfl)
    (of_decide_eq_true (by kernel_rfl)) (by unfold Func.isWrapper; rw [if_neg (of_decide_eq_false (by kernel_rfl))]; exact ⟨rfl, rfl⟩)
    (fun os started H enc _ => rangesParsesProof_lifted os started H enc)

theorem RangesParses_holds : Rows.RangesParsesCardSaid :=
  Claim7.holds_tied_plain_at .later [] [.data, .data, .data, .data, .handle, .sentinel, .sentinel, .pinned] true Rows.rangesParsesCard.stood.harness true
    rangesParsesProof_row (fun _ h => by cases h) (by kernel_rfl) (fun _ h => by cases h) rangesParses_row_tie rfl ⟨rfl, rfl⟩ (by kernel_rfl) rfl
    (fun f fn hf hfn => by
      obtain rfl : f = 8 := Option.some.inj ((show Tryz.prog.funcNamed "kenning/kenninglaw04.RangesParses" = some 8 by kernel_rfl).symm.trans hf) |>.symm
      obtain rfl : fn = Tryz.f8 := (Option.some.inj (Tryz.func8.symm.trans hfn)).symm
      refine ⟨by kernel_rfl, fun j t ht => ?_⟩
      have h : (Tryz.f8.params.toList.all fun t => !Tryz.prog.wantsStandIn t) = true := by kernel_rfl
      have := List.all_eq_true.1 h t (List.mem_of_getElem? (by rw [Array.getElem?_toList]; exact ht))
      have hx : Tryz.prog.wantsStandIn t = false := by simpa using this
      exact hx)
    (by kernel_rfl)
end Go.Proofs.YtgkdjbdcmmegiaaGreatDoor
