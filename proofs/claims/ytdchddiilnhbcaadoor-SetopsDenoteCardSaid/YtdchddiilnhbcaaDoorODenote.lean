/- The law SetopsDenote in every state, out of what package setops says. Conditions: the contracts of package setops; the variable errors.errorType holds the type error. -/
import Derived.Test.YtdchddiilnhbcaaDoorOAlive5
import Derived.Test.YtdchddiilnhbcaaDoorRIv
namespace Go.Proofs.YtdchddiilnhbcaaDoor
open Go.RowKit
theorem good_chk {l : List Iv} (h : GoodL l) : chkV l = none := by unfold chkV; rw [(canon_iff l).2 h.can]; rfl
theorem rcheck_good {w : World} {s : Value} {l : List Iv} (hg : ErrT w) (h : OpAt w s l) : Calls Tryd.prog 9 #[s] w (fun e w' => e = .returned .nilIface ∧ Below w.heap.size w w') := by
  have k := rcheck_any l s w hg h.at' h.good.all
  rw [good_chk h.good] at k
  exact k
theorem has_is {w : World} {s : Value} {l : List Iv} {x : Int} {r : Bool} (h : OpAt w s l) (hr : hasL l x = r) : Calls Tryd.prog 10 #[s, .int .u64 x] w (IsEnd r w) := hasLR l s x r w h.at' hr
set_option maxRecDepth 100000 in
set_option maxHeartbeats 4000000 in
theorem lawDenote5_any (C0 : SetC) (sa sb : Value) (x : Int) (w : World) (hg : ErrT w) (ha : okArg w sa ∨ badArg w sa) (hb : okArg w sb ∨ badArg w sb) : Calls Tryd.prog 3 #[sa, sb, .int .u64 x] w (IsEnd true w) := by
  obtain ⟨pa, na, ca, rfl⟩ := arg_shape ha
  obtain ⟨pb, nb, cb, rfl⟩ := arg_shape hb
  have C := Lib.hid C0
  have G := Lib.hid hg
  clear hg
  have KA := Lib.hid (fun w => alive5 C0 w)
  obtain ⟨r, hr, KR⟩ := rights2 (.slice pa na ca) (.slice pb nb cb) w 23 w.heap.size rfl ha hb
  have HR := Lib.hid KR
  clear KR C0 ha hb
  cases r with
  | false =>
    go_enter Tryd.func3, Tryd.ntmps3
    go_wp2_with fail
    refine HR.out.mono ?_
    rintro e w1 ⟨rfl, h⟩
    have H1 := Lib.hid (below_call (below_new w _) h)
    clear h
    go_wp2_with fail
    refine (KA.out w1).mono ?_
    rintro e w2 ⟨rfl, h⟩
    have H2 := Lib.hid (below_call H1.out h)
    clear h
    go_wp2_with fail
    go_ret
    exact ⟨rfl, H2.out⟩
  | true =>
    obtain ⟨a, ha, hla, b, hb, hlb⟩ := hr rfl
    have ga := ha.good
    have gb := hb.good
    go_enter Tryd.func3, Tryd.ntmps3
    go_wp2_with fail
    refine HR.out.mono ?_
    rintro e w1 ⟨rfl, h⟩
    have H1 := Lib.hid (below_call (below_new w _) h)
    have E1 : Hid (Env w1 [((.slice pa na ca), a), ((.slice pb nb cb), b)]) := Lib.hid (fun p hp => by
      simp only [List.mem_cons, List.mem_nil_iff, or_false] at hp
      rcases hp with rfl | rfl
      · exact ha.call (below_call (below_new w _) h)
      · exact hb.call (below_call (below_new w _) h))
    clear h
    clear ha hb
    go_wp2_with fail
    have hl2 : (orL a b).length ≤ 241 := by have := orL_len a b; omega
    refine (C.out.uni' (E1.out.get (v := (.slice pa na ca)) (l := a) (.head _)) (E1.out.get (v := (.slice pb nb cb)) (l := b) (.tail _ (.head _))) (by omega)).mono ?_
    rintro e w2 ⟨v2, rfl, hv, h⟩
    have H2 := Lib.hid (below_call H1.out h)
    have E2 := Lib.hid ((E1.out.call h).add hv)
    clear h hv E1 H1
    go_wp2_with fail
    have hl3 : (andL a b).length ≤ 241 := by have := andL_len a b; omega
    refine (C.out.meet' (E2.out.get (v := (.slice pa na ca)) (l := a) (.tail _ (.head _))) (E2.out.get (v := (.slice pb nb cb)) (l := b) (.tail _ (.tail _ (.head _)))) (by omega)).mono ?_
    rintro e w3 ⟨v3, rfl, hv, h⟩
    have H3 := Lib.hid (below_call H2.out h)
    have E3 := Lib.hid ((E2.out.call h).add hv)
    clear h hv E2 H2
    go_wp2_with fail
    have hl4 : (subL a b).length ≤ 241 := by have := subL_len a b; omega
    refine (C.out.sub' (E3.out.get (v := (.slice pa na ca)) (l := a) (.tail _ (.tail _ (.head _)))) (E3.out.get (v := (.slice pb nb cb)) (l := b) (.tail _ (.tail _ (.tail _ (.head _))))) (by omega)).mono ?_
    rintro e w4 ⟨v4, rfl, hv, h⟩
    have H4 := Lib.hid (below_call H3.out h)
    have E4 := Lib.hid ((E3.out.call h).add hv)
    clear h hv E3 H3
    have qu := or_has ga gb x
    have qm := and_has ga gb x
    have qd := sub_has ga gb x
    obtain ⟨ra, hra⟩ : ∃ r, hasL a x = r := ⟨_, rfl⟩
    obtain ⟨rb, hrb⟩ : ∃ r, hasL b x = r := ⟨_, rfl⟩
    rw [hra, hrb] at qu qm qd
    have Qhra := Lib.hid hra
    have Qhrb := Lib.hid hrb
    have Qqu := Lib.hid qu
    have Qqm := Lib.hid qm
    have Qqd := Lib.hid qd
    clear hra hrb qu qm qd
    go_wp2_with fail
    refine (rcheck_good (G.out.here H4.out) (E4.out.get (v := v2) (l := (orL a b)) (.tail _ (.tail _ (.head _))))).mono ?_
    rintro e w5 ⟨rfl, h⟩
    have H5 := Lib.hid (below_call H4.out h)
    have E5 := Lib.hid (E4.out.call h)
    clear h E4 H4
    go_wp2_with fail
    refine (rcheck_good (G.out.here H5.out) (E5.out.get (v := v3) (l := (andL a b)) (.tail _ (.head _)))).mono ?_
    rintro e w6 ⟨rfl, h⟩
    have H6 := Lib.hid (below_call H5.out h)
    have E6 := Lib.hid (E5.out.call h)
    clear h E5 H5
    go_wp2_with fail
    refine (rcheck_good (G.out.here H6.out) (E6.out.get (v := v4) (l := (subL a b)) (.head _))).mono ?_
    rintro e w7 ⟨rfl, h⟩
    have H7 := Lib.hid (below_call H6.out h)
    have E7 := Lib.hid (E6.out.call h)
    clear h E6 H6
    go_wp2_with fail
    refine (has_is (E7.out.get (v := (.slice pa na ca)) (l := a) (.tail _ (.tail _ (.tail _ (.head _))))) Qhra.out).mono ?_
    rintro e w8 ⟨rfl, h⟩
    have H8 := Lib.hid (below_call H7.out h)
    have E8 := Lib.hid (E7.out.call h)
    clear h E7 H7
    go_wp2_with fail
    refine (has_is (E8.out.get (v := (.slice pb nb cb)) (l := b) (.tail _ (.tail _ (.tail _ (.tail _ (.head _)))))) Qhrb.out).mono ?_
    rintro e w9 ⟨rfl, h⟩
    have H9 := Lib.hid (below_call H8.out h)
    have E9 := Lib.hid (E8.out.call h)
    clear h E8 H8
    cases ra <;> cases rb
    all_goals
      go_wp2_with fail
      refine (KA.out w9).mono ?_
      rintro e w10 ⟨rfl, h⟩
      have H10 := Lib.hid (below_call H9.out h)
      have E10 := Lib.hid (E9.out.call h)
      clear h E9 H9
      go_wp2_with fail
      refine (has_is (E10.out.get (v := v2) (l := (orL a b)) (.tail _ (.tail _ (.head _)))) Qqu.out).mono ?_
      rintro e w11 ⟨rfl, h⟩
      have H11 := Lib.hid (below_call H10.out h)
      have E11 := Lib.hid (E10.out.call h)
      clear h E10 H10
      go_wp2_with fail
      refine (has_is (E11.out.get (v := v3) (l := (andL a b)) (.tail _ (.head _))) Qqm.out).mono ?_
      rintro e w12 ⟨rfl, h⟩
      have H12 := Lib.hid (below_call H11.out h)
      have E12 := Lib.hid (E11.out.call h)
      clear h E11 H11
      go_wp2_with fail
      refine (has_is (E12.out.get (v := v4) (l := (subL a b)) (.head _)) Qqd.out).mono ?_
      rintro e w13 ⟨rfl, h⟩
      have H13 := Lib.hid (below_call H12.out h)
      have E13 := Lib.hid (E12.out.call h)
      clear h E12 H12
      go_wp2_with fail
      go_ret
      exact ⟨rfl, H13.out⟩
end Go.Proofs.YtdchddiilnhbcaaDoor
