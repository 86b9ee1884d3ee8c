/- The law RangesParses in every state, out of what the reference's Parse says. Conditions: the tied variables hold what they do. -/
import Derived.Test.YtgkdjbdcmmegiaaGreatDoorRLaw5
namespace Go.Proofs.YtgkdjbdcmmegiaaGreatDoor
open Go.RowKit Go.Shelf

set_option maxRecDepth 100000 in
theorem lawParses_long (s : ByteArray) (w : World) (hg : GlobR w) (hn : 1000 < s.size) :
    Calls Tryz.prog 8 #[.string s] w (IsEnd true w) := by
  have KA := Lib.hid (alive_in w hg); clear hg
  have hi : (1000 : Int) < (s.size : Int) := by omega
  go_enter Tryz.func8, Tryz.ntmps8
  go_wp2_with fail
  refine KA.out.mono ?_
  rintro e w1 ⟨rfl, h1⟩
  have H1 := Lib.hid h1; clear h1
  go_wp2_with fail
  go_ret
  exact ⟨rfl, H1.out⟩

set_option maxRecDepth 100000 in
set_option maxHeartbeats 4000000 in
theorem lawParses_of (s : List UInt8) (w : World) (hg : GlobR w) (hn : s.length ≤ 1000)
    (hrp : ∀ W, Calls Tryz.prog 27 #[.string ⟨s.toArray⟩] W (RefParseEnd (parseV s) W)) :
    Calls Tryz.prog 8 #[.string ⟨s.toArray⟩] w (IsEnd true w) := by
  obtain ⟨S, hS⟩ : ∃ S : ByteArray, ⟨s.toArray⟩ = S := ⟨_, rfl⟩
  have hsz : S.size = s.length := by rw [← hS]; simp [ByteArray.size]
  have hi : ¬ (1000 : Int) < (S.size : Int) := by omega
  have k1 := parse_any s (by omega) w hg.e hg.r
  rw [hS] at k1 hrp ⊢
  have K1 := Lib.hid k1
  have K2 := Lib.hid hrp
  have G := Lib.hid hg
  have KA := Lib.hid alive_in
  clear k1 hrp hg hS hsz
  generalize parseV s = pv at K1 K2
  obtain ⟨L, er⟩ := pv
  go_enter Tryz.func8, Tryz.ntmps8
  go_wp2_with fail
  refine K1.out.mono ?_
  rintro e w1 ⟨v, rfl, hv, h1⟩
  have H1 := Lib.hid h1; clear h1
  have I1 := Lib.hid hv; clear hv
  rw [show ((L, er) : List Iv × Option (Int × Option Int)).2 = er from rfl]
  generalize hev : errV er = ev
  have HEV := Lib.hid hev; clear hev
  go_wp2_with fail
  refine (K2.out _).mono ?_
  rintro e w2 ⟨v2, rfl, hv2, h2⟩
  have H2 := Lib.hid (below_call H1.out h2)
  have I12 := Lib.hid (I1.out.call h2)
  have I2 := Lib.hid hv2; clear h2 hv2
  go_wp2_with fail
  refine (KA.out _ (G.out.here H2.out)).mono ?_
  rintro e w3 ⟨rfl, h3⟩
  have H3 := Lib.hid (below_call H2.out h3)
  have K3 : Hid (Calls Tryz.prog 16 #[v, v2] w3 (IsEnd true w3)) := Lib.hid (by
    have h := refSame_any L L v v2 w3 (I12.out.call h3) (I2.out.call h3)
    rw [decide_eq_true rfl] at h
    exact h)
  clear h3
  go_wp2_with fail
  refine K3.out.mono ?_
  rintro e w4 ⟨rfl, h4⟩
  have H4 := Lib.hid (below_call H3.out h4); clear h4
  have K4 := Lib.hid (Code_any er w4 (G.out.here H4.out).e)
  rw [HEV.out] at K4
  go_wp2_with fail
  refine K4.out.mono ?_
  rintro e w5 ⟨rfl, h5⟩
  have H5 := Lib.hid (below_call H4.out h5); clear h5
  have K5 := Lib.hid (At_any er w5 (G.out.here H5.out).e)
  rw [HEV.out] at K5
  go_wp2_with fail
  refine K5.out.mono ?_
  rintro e w6 ⟨rfl, h6⟩
  have H6 := Lib.hid (below_call H5.out h6); clear h6
  go_wp2_with fail
  go_ret
  exact ⟨rfl, H6.out⟩
end Go.Proofs.YtgkdjbdcmmegiaaGreatDoor
