/- For all lists of intervals, RangesTexts returns true. Condition: none beyond what the given statement says. -/
import Derived.Test.YtgkdjbdcmmegiaaGreatDoorRLaw5
import Derived.Test.YtgkdjbdcmmegiaaGreatDoorRIvOpen
import Derived.Test.YtgkdjbdcmmegiaaGreatDoorRTied
import Derived.ChangeMaps5
namespace Go.Proofs.YtgkdjbdcmmegiaaGreatDoor
open Go.ChangeShapes Go.WideShapes Go.RowKit

set_option maxRecDepth 100000 in
theorem rangesTextsProof_lifted (os : Os) (started : os.Started) (H : Type) (enc : TypeId × Value → H) :
    ReturnsInHanded {} Tryz.checked os 7 .any (fun w args => (Rows.rangesTextsSpec.pre enc Tryz.prog Tryz.f7 [] false w args ∧ laidMetH Tryz.prog laidL w) ∧ sizedMet enc Tryz.prog Tryz.f7 (OpenSpec.ofChange Rows.rangesTextsSpec) false w args)
      (Rows.rangesTextsSpec.post enc Tryz.prog Tryz.f7 false true false false) := by
  refine lift_law (tb := 4) os started H enc Tryz.func7 (by kernel_rfl) rfl ?_ (by kernel_rfl) Tryz.underlying4 ?_
    (ChangeSpec.witness_shaped (enc := enc) (C := Tryz.checked) (os := os) (X := fun w _ => laidMetH Tryz.prog laidL w) false (laidWorld os) #[.slice none 0 0, .slice none 0 0] 8 (laidWorld_os os) (laidWorld_shaped os _) (by kernel_rfl) (by kernel_rfl) (by kernel_rfl) (laidWorld_met os _)) ?_
  · have h : (Tryz.f7.params.toList.all fun t => Tryz.prog.readableRec t && decide (t < Tryz.prog.types.size)) = true := by kernel_rfl
    intro t ht
    have := List.all_eq_true.1 h t ht
    simpa using this
  · intro ds hl
    rw [Tryz.params7] at hl
    match ds, hl with
    | [d1, d2], _ => simp [Rows.rangesTextsSpec]
  · intro W base args ds p hg hval hA _
    rw [Tryz.params7] at hA hval
    obtain ⟨v0, v1, d0, d1, p0, p1, rfl, rfl, rfl, h0, h1⟩ := trodAll_two hA
    obtain ⟨qa, na, ca, rfl⟩ := okWide_slice Tryz.underlying23 (hval 0 23 v0 rfl rfl)
    obtain ⟨qb, nb, cb, rfl⟩ := okWide_slice Tryz.underlying23 (hval 1 23 v1 rfl rfl)
    rcases ivs_open (hval 0 23 _ rfl rfl) h0 with ⟨q, n, c, he, hn⟩ | ⟨l, hl, h64, hi⟩
    · cases he
      exact lawTexts_long qa qb na ca nb cb W hg hn
    · rcases ivs_open (hval 1 23 _ rfl rfl) h1 with ⟨q, n, c, he, hn⟩ | ⟨m, hm, _, hj⟩
      · cases he
        obtain ⟨_, _, he, _⟩ := hi.shape
        cases he
        exact lawTexts_long2 qa qb _ ca nb cb W hg hl hn
      · exact lawTexts_any l m _ _ W hg hi hj h64 hl hm

theorem rangesTextsProof_row : Rows.RangesTextsSaid :=
  OpenClaim.holds_of_wide 7 Tryz.f7 rfl rfl rfl rfl rfl rfl rfl ⟨rfl, rfl, rfl, rfl, rfl⟩ rfl rfl rfl rfl rfl (by kernel_rfl) Tryz.func7 (by kernel_rfl)
    (of_decide_eq_true (by kernel_rfl)) (by unfold Func.isWrapper; rw [if_neg (of_decide_eq_false (by kernel_rfl))]; exact ⟨rfl, rfl⟩)
    (fun os started H enc _ => rangesTextsProof_lifted os started H enc)

theorem RangesTexts_holds : Rows.RangesTextsCardSaid :=
  Claim7.holds_tied_plain_at .later [] [.data, .data, .data, .data, .handle, .sentinel, .sentinel, .pinned] true Rows.rangesTextsCard.stood.harness true
    rangesTextsProof_row (fun _ h => by cases h) (by kernel_rfl) (fun _ h => by cases h) rangesTexts_row_tie rfl ⟨rfl, rfl⟩ (by kernel_rfl) rfl
    (fun f fn hf hfn => by
      obtain rfl : f = 7 := Option.some.inj ((show Tryz.prog.funcNamed "kenning/kenninglaw04.RangesTexts" = some 7 by kernel_rfl).symm.trans hf) |>.symm
      obtain rfl : fn = Tryz.f7 := (Option.some.inj (Tryz.func7.symm.trans hfn)).symm
      refine ⟨by kernel_rfl, fun j t ht => ?_⟩
      have h : (Tryz.f7.params.toList.all fun t => !Tryz.prog.wantsStandIn t) = true := by kernel_rfl
      have := List.all_eq_true.1 h t (List.mem_of_getElem? (by rw [Array.getElem?_toList]; exact ht))
      have hx : Tryz.prog.wantsStandIn t = false := by simpa using this
      exact hx)
    (by kernel_rfl)
end Go.Proofs.YtgkdjbdcmmegiaaGreatDoor
