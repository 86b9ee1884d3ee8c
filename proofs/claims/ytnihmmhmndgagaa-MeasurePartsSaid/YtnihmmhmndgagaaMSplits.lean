/- The law MeasureSplits in every state, out of what package measure says. Conditions: the contracts of package measure. -/
import Derived.Test.YtnihmmhmndgagaaMLaws
import Derived.Test.YtnihmmhmndgagaaMSplit
namespace Go.Proofs.Ytnihmmhmndgagaa
open Go.RowKit
theorem saneV_own {W : World} {B : Nat} {v : Value} {L : List Iv} (h : OwnL W B v L) : SaneS v := by
  rcases h.2 with ⟨h1, _⟩ | ⟨g, cap, cur, h1, _, _, hnc, _⟩
  · refine ⟨fun n c e => ?_, fun a n c e => ?_⟩
    · rw [e] at h1; cases h1; exact ⟨rfl, rfl⟩
    · rw [e] at h1; cases h1
  · refine ⟨fun n c e => ?_, fun a n c e => ?_⟩
    · rw [e] at h1; cases h1
    · rw [e] at h1; cases h1; exact hnc
set_option maxRecDepth 100000 in
set_option maxHeartbeats 4000000 in
theorem lawSplits6_any (C : MeasC) (s : Value) (x : Int) (hx0 : 0 ≤ x) (hx1 : x ≤ 18446744073709551615) (w : World) (hsv : SaneS s) (ha : okArg w s ∨ badArg w s) : Calls Try.prog 6 #[s, .int .u64 x] w (IsEnd true w) := by
  rcases ha with ha | ha
  · obtain ⟨l, ho, hl⟩ := ha.op
    clear ha
    obtain ⟨p, cap, rfl, _⟩ := ho.at'.shape
    have HO := Lib.hid ho; clear ho
    have HB : Hid (Below w.heap.size w w) := Lib.hid (Below.refl _ _)
    have KR := Lib.hid right6_ok
    have KA := Lib.hid (fun W => alive6_any C W)
    have HC := Lib.hid C; clear C
    have GA := splitA_good HO.out.good x
    have GB := splitB_good HO.out.good x
    have LA := splitA_len l x
    have LB := splitB_len l x
    have K1 := Lib.hid (fun s W h h2 => HC.out.split l s x W h h2 hl hx0 hx1)
    have K2 := Lib.hid (fun s W h h2 => refSplit6_any l s x W h h2 hl hx0 hx1)
    have HSV := Lib.hid hsv; clear hsv
    have KS := Lib.hid (fun (L : List Iv) (a b : Value) (W : World) (h1 : IvsAt W a L) (h2 : IvsAt W b L) => (decide_eq_true (rfl : L = L)) ▸ refSame_any L L a b W h1 h2)
    generalize splitA l x = A at *
    generalize splitB l x = B at *
    go_enter Try.func6, Try.ntmps6
    go_wp2_with fail
    refine (KR.out _ _ _ HO.out hl).mono ?_
    rintro e w1 ⟨rfl, h⟩
    have HO1 := Lib.hid (HO.out.call h); have HB1 := Lib.hid (below_call HB.out h)
    clear h
    go_wp2_with fail
    refine (K1.out _ _ HO1.out HSV.out).mono ?_
    rintro e w2 ⟨v, u, rfl, hv, hu, _, _, h⟩
    have HO2 := Lib.hid (HO1.out.call h); have HB2 := Lib.hid (below_call HB1.out h); clear h
    obtain ⟨pv, cv, rfl, _⟩ := hv.shape
    obtain ⟨pu, cu, rfl, _⟩ := hu.shape
    have HV := Lib.hid hv; have HU := Lib.hid hu; clear hv hu
    go_wp2_with fail
    refine (K2.out _ _ HO2.out HSV.out).mono ?_
    rintro e w3 ⟨v2, u2, rfl, hv2, hu2, _, _, h⟩
    have HV3 := Lib.hid (HV.out.call h); have HU3 := Lib.hid (HU.out.call h)
    have HB3 := Lib.hid (below_call HB2.out h); clear h
    obtain ⟨pv2, cv2, rfl, _⟩ := hv2.shape
    obtain ⟨pu2, cu2, rfl, _⟩ := hu2.shape
    have HV2 := Lib.hid hv2; have HU2 := Lib.hid hu2; clear hv2 hu2
    go_wp2_with fail
    refine (KA.out _).mono ?_
    rintro e w4 ⟨rfl, h⟩
    have HV4 := Lib.hid (HV3.out.call h); have HU4 := Lib.hid (HU3.out.call h); have HX4 := Lib.hid (HV2.out.call h); have HY4 := Lib.hid (HU2.out.call h)
    have HB4 := Lib.hid (below_call HB3.out h); clear h
    go_wp2_with fail
    refine (KS.out _ _ _ _ HV4.out HX4.out).mono ?_
    rintro e w5 ⟨rfl, h⟩
    have HU5 := Lib.hid (HU4.out.call h); have HY5 := Lib.hid (HY4.out.call h)
    have HB5 := Lib.hid (below_call HB4.out h); clear h
    go_wp2_with fail
    refine (KS.out _ _ _ _ HU5.out HY5.out).mono ?_
    rintro e w6 ⟨rfl, h⟩
    have HB6 := Lib.hid (below_call HB5.out h); clear h
    go_wp2_with fail
    go_ret
    exact ⟨rfl, HB6.out⟩
  · obtain ⟨p, n0, cap, rfl⟩ := arg_shape (.inr ha)
    have KR := Lib.hid (right6_bad _ w ha)
    have KA := Lib.hid (fun W => alive6_any C W)
    clear ha C
    go_enter Try.func6, Try.ntmps6
    go_wp2_with fail
    refine KR.out.mono ?_
    rintro e w1 ⟨rfl, h⟩
    have H1 := Lib.hid h; clear h
    go_wp2_with fail
    refine (KA.out _).mono ?_
    rintro e w2 ⟨rfl, h⟩
    have H2 := Lib.hid (below_call H1.out h); clear h
    go_wp2_with fail
    go_ret
    exact ⟨rfl, H2.out⟩
end Go.Proofs.Ytnihmmhmndgagaa
