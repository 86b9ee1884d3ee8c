/- The laws of layer 5 in every state, out of what package setops says. Conditions: the contracts of package setops. -/
import Derived.Test.YtdchddiilnhbcaaOAlive5
import Derived.Deep.RegionHeld3
namespace Go.Proofs.Ytdchddiilnhbcaa
open Go.RowKit
theorem keep_box {W w1 w2 : World} {p q : Addr} {a b : Value} (h : Below W.heap.size W w1 ∧ w1.cell? p = some a ∧ w1.cell? q = some b) (hb : Below w1.heap.size w1 w2) :
    Below W.heap.size W w2 ∧ w2.cell? p = some a ∧ w2.cell? q = some b := ⟨below_call h.1 hb, keep_cell h.2.1 hb, keep_cell h.2.2 hb⟩
set_option maxRecDepth 100000 in
set_option maxHeartbeats 4000000 in
theorem lawMatch_any (C0 : SetC) (sa sb : Value) (w : World) (ha : okArg w sa ∨ badArg w sa) (hb : okArg w sb ∨ badArg w sb) : Calls Try.prog 3 #[sa, sb] w (IsEnd true w) := by
  obtain ⟨pa, na, ca, rfl⟩ := arg_shape ha
  obtain ⟨pb, nb, cb, rfl⟩ := arg_shape hb
  have C := Lib.hid C0
  have KA := Lib.hid (fun w => alive5 C0 w)
  obtain ⟨r, hr, KR⟩ := rights2 (.slice pa na ca) (.slice pb nb cb) w 23 w.heap.size rfl ha hb
  have HR := Lib.hid KR
  clear KR C0 ha hb
  cases r with
  | false =>
    go_enter Try.func3, Try.ntmps3
    go_wp2_with fail
    refine HR.out.mono ?_
    rintro e w1 ⟨rfl, h⟩
    have H1 := Lib.hid (below_call (below_new w _) h)
    clear h
    go_wp2_with fail
    refine (KA.out w1).mono ?_
    rintro e w2 ⟨rfl, h⟩
    have H2 := Lib.hid (below_call H1.out h)
    clear h
    go_wp2_with fail
    go_ret
    exact ⟨rfl, H2.out⟩
  | true =>
    obtain ⟨a, ha, hla, b, hb, hlb⟩ := hr rfl
    have ga := ha.good
    have gb := hb.good
    go_enter Try.func3, Try.ntmps3
    go_wp2_with fail
    refine HR.out.mono ?_
    rintro e w1 ⟨rfl, h⟩
    have H1 := Lib.hid (below_call (below_new w _) h)
    have E1 : Hid (Env w1 [((.slice pa na ca), a), ((.slice pb nb cb), b)]) := Lib.hid (fun p hp => by
      simp only [List.mem_cons, List.mem_nil_iff, or_false] at hp
      rcases hp with rfl | rfl
      · exact ha.call (below_call (below_new w _) h)
      · exact hb.call (below_call (below_new w _) h))
    clear h
    clear ha hb
    go_wp2_with fail
    refine (KA.out w1).mono ?_
    rintro e w2 ⟨rfl, h⟩
    have H2 := Lib.hid (below_call H1.out h)
    have E2 := Lib.hid (E1.out.call h)
    clear h E1 H1
    go_wp2_with fail
    have hl3 : (orL a b).length ≤ 241 := by have := orL_len a b; omega
    refine (C.out.uni' (E2.out.get (v := (.slice pa na ca)) (l := a) (.head _)) (E2.out.get (v := (.slice pb nb cb)) (l := b) (.tail _ (.head _))) (by omega)).mono ?_
    rintro e w3 ⟨v3, rfl, hv, h⟩
    have H3 := Lib.hid (below_call H2.out h)
    have E3 := Lib.hid ((E2.out.call h).add hv)
    clear h hv E2 H2
    go_wp2_with fail
    refine (refUnion' (E3.out.get (v := (.slice pa na ca)) (l := a) (.tail _ (.head _))) (E3.out.get (v := (.slice pb nb cb)) (l := b) (.tail _ (.tail _ (.head _)))) (by omega)).mono ?_
    rintro e w4 ⟨v4, rfl, hv, h⟩
    have H4 := Lib.hid (below_call H3.out h)
    have E4 := Lib.hid ((E3.out.call h).add hv)
    clear h hv E3 H3
    go_wp2_with fail
    refine (same_yes (E4.out.get (v := v3) (l := (orL a b)) (.tail _ (.head _))) (E4.out.get (v := v4) (l := (orL a b)) (.head _)) (rfl)).mono ?_
    rintro e w5 ⟨rfl, h⟩
    have H5 := Lib.hid (below_call H4.out h)
    have E5 := Lib.hid (E4.out.call h)
    clear h E4 H4
    go_wp2_with fail
    have hl6 : (andL a b).length ≤ 241 := by have := andL_len a b; omega
    refine (C.out.meet' (E5.out.get (v := (.slice pa na ca)) (l := a) (.tail _ (.tail _ (.head _)))) (E5.out.get (v := (.slice pb nb cb)) (l := b) (.tail _ (.tail _ (.tail _ (.head _))))) (by omega)).mono ?_
    rintro e w6 ⟨v6, rfl, hv, h⟩
    have H6 := Lib.hid (below_call H5.out h)
    have E6 := Lib.hid ((E5.out.call h).add hv)
    clear h hv E5 H5
    go_wp2_with fail
    refine (refMeet' (E6.out.get (v := (.slice pa na ca)) (l := a) (.tail _ (.tail _ (.tail _ (.head _))))) (E6.out.get (v := (.slice pb nb cb)) (l := b) (.tail _ (.tail _ (.tail _ (.tail _ (.head _)))))) (by omega)).mono ?_
    rintro e w7 ⟨v7, rfl, hv, h⟩
    have H7 := Lib.hid (below_call H6.out h)
    have E7 := Lib.hid ((E6.out.call h).add hv)
    clear h hv E6 H6
    go_wp2_with fail
    refine (same_yes (E7.out.get (v := v6) (l := (andL a b)) (.tail _ (.head _))) (E7.out.get (v := v7) (l := (andL a b)) (.head _)) (rfl)).mono ?_
    rintro e w8 ⟨rfl, h⟩
    have H8 := Lib.hid (below_call H7.out h)
    have E8 := Lib.hid (E7.out.call h)
    clear h E7 H7
    go_wp2_with fail
    have hl9 : (subL a b).length ≤ 241 := by have := subL_len a b; omega
    refine (C.out.sub' (E8.out.get (v := (.slice pa na ca)) (l := a) (.tail _ (.tail _ (.tail _ (.tail _ (.head _)))))) (E8.out.get (v := (.slice pb nb cb)) (l := b) (.tail _ (.tail _ (.tail _ (.tail _ (.tail _ (.head _))))))) (by omega)).mono ?_
    rintro e w9 ⟨v9, rfl, hv, h⟩
    have H9 := Lib.hid (below_call H8.out h)
    have E9 := Lib.hid ((E8.out.call h).add hv)
    clear h hv E8 H8
    go_wp2_with fail
    refine (refMinus' (E9.out.get (v := (.slice pa na ca)) (l := a) (.tail _ (.tail _ (.tail _ (.tail _ (.tail _ (.head _))))))) (E9.out.get (v := (.slice pb nb cb)) (l := b) (.tail _ (.tail _ (.tail _ (.tail _ (.tail _ (.tail _ (.head _)))))))) (by omega)).mono ?_
    rintro e w10 ⟨v10, rfl, hv, h⟩
    have H10 := Lib.hid (below_call H9.out h)
    have E10 := Lib.hid ((E9.out.call h).add hv)
    clear h hv E9 H9
    go_wp2_with fail
    refine (same_yes (E10.out.get (v := v9) (l := (subL a b)) (.tail _ (.head _))) (E10.out.get (v := v10) (l := (subL a b)) (.head _)) (rfl)).mono ?_
    rintro e w11 ⟨rfl, h⟩
    have H11 := Lib.hid (below_call H10.out h)
    have E11 := Lib.hid (E10.out.call h)
    clear h E10 H10
    go_wp2_with fail
    go_ret
    exact ⟨rfl, H11.out⟩
set_option maxRecDepth 100000 in
set_option maxHeartbeats 4000000 in
theorem lawAlgebra_any (C0 : SetC) (sa sb sc : Value) (w : World) (ha : okArg w sa ∨ badArg w sa) (hb : okArg w sb ∨ badArg w sb) (hc : okArg w sc ∨ badArg w sc) : Calls Try.prog 6 #[sa, sb, sc] w (IsEnd true w) := by
  obtain ⟨pa, na, ca, rfl⟩ := arg_shape ha
  obtain ⟨pb, nb, cb, rfl⟩ := arg_shape hb
  obtain ⟨pc, nc, cc, rfl⟩ := arg_shape hc
  have C := Lib.hid C0
  have KA := Lib.hid (fun w => alive5 C0 w)
  obtain ⟨r, hr, KR⟩ := rights3 (.slice pa na ca) (.slice pb nb cb) (.slice pc nc cc) w 23 w.heap.size rfl ha hb hc
  have HR := Lib.hid KR
  clear KR C0 ha hb hc
  cases r with
  | false =>
    go_enter Try.func6, Try.ntmps6
    go_wp2_with fail
    refine HR.out.mono ?_
    rintro e w1 ⟨rfl, h⟩
    have H1 := Lib.hid (below_call (below_new w _) h)
    clear h
    go_wp2_with fail
    refine (KA.out w1).mono ?_
    rintro e w2 ⟨rfl, h⟩
    have H2 := Lib.hid (below_call H1.out h)
    clear h
    go_wp2_with fail
    go_ret
    exact ⟨rfl, H2.out⟩
  | true =>
    obtain ⟨a, ha, hla, b, hb, hlb, c, hc, hlc⟩ := hr rfl
    have ga := ha.good
    have gb := hb.good
    have gc := hc.good
    go_enter Try.func6, Try.ntmps6
    go_wp2_with fail
    refine HR.out.mono ?_
    rintro e w1 ⟨rfl, h⟩
    have H1 := Lib.hid (below_call (below_new w _) h)
    have E1 : Hid (Env w1 [((.slice pa na ca), a), ((.slice pb nb cb), b), ((.slice pc nc cc), c)]) := Lib.hid (fun p hp => by
      simp only [List.mem_cons, List.mem_nil_iff, or_false] at hp
      rcases hp with rfl | rfl | rfl
      · exact ha.call (below_call (below_new w _) h)
      · exact hb.call (below_call (below_new w _) h)
      · exact hc.call (below_call (below_new w _) h))
    clear h
    clear ha hb hc
    go_wp2_with fail
    have hl2 : (orL a b).length ≤ 241 := by have := orL_len a b; omega
    refine (C.out.uni' (E1.out.get (v := (.slice pa na ca)) (l := a) (.head _)) (E1.out.get (v := (.slice pb nb cb)) (l := b) (.tail _ (.head _))) (by omega)).mono ?_
    rintro e w2 ⟨v2, rfl, hv, h⟩
    have H2 := Lib.hid (below_call H1.out h)
    have E2 := Lib.hid ((E1.out.call h).add hv)
    clear h hv E1 H1
    go_wp2_with fail
    have hl3 : (andL a b).length ≤ 241 := by have := andL_len a b; omega
    refine (C.out.meet' (E2.out.get (v := (.slice pa na ca)) (l := a) (.tail _ (.head _))) (E2.out.get (v := (.slice pb nb cb)) (l := b) (.tail _ (.tail _ (.head _)))) (by omega)).mono ?_
    rintro e w3 ⟨v3, rfl, hv, h⟩
    have H3 := Lib.hid (below_call H2.out h)
    have E3 := Lib.hid ((E2.out.call h).add hv)
    clear h hv E2 H2
    go_wp2_with fail
    have hl4 : (orL b a).length ≤ 241 := by have := orL_len b a; omega
    refine (C.out.uni' (E3.out.get (v := (.slice pb nb cb)) (l := b) (.tail _ (.tail _ (.tail _ (.head _))))) (E3.out.get (v := (.slice pa na ca)) (l := a) (.tail _ (.tail _ (.head _)))) (by omega)).mono ?_
    rintro e w4 ⟨v4, rfl, hv, h⟩
    have H4 := Lib.hid (below_call H3.out h)
    have E4 := Lib.hid ((E3.out.call h).add hv)
    clear h hv E3 H3
    go_wp2_with fail
    refine (same_yes (E4.out.get (v := v2) (l := (orL a b)) (.tail _ (.tail _ (.head _)))) (E4.out.get (v := v4) (l := (orL b a)) (.head _)) (or_comm' ga gb)).mono ?_
    rintro e w5 ⟨rfl, h⟩
    have H5 := Lib.hid (below_call H4.out h)
    have E5 := Lib.hid (E4.out.call h)
    clear h E4 H4
    go_wp2_with fail
    have hl6 : (andL b a).length ≤ 241 := by have := andL_len b a; omega
    refine (C.out.meet' (E5.out.get (v := (.slice pb nb cb)) (l := b) (.tail _ (.tail _ (.tail _ (.tail _ (.head _)))))) (E5.out.get (v := (.slice pa na ca)) (l := a) (.tail _ (.tail _ (.tail _ (.head _))))) (by omega)).mono ?_
    rintro e w6 ⟨v6, rfl, hv, h⟩
    have H6 := Lib.hid (below_call H5.out h)
    have E6 := Lib.hid ((E5.out.call h).add hv)
    clear h hv E5 H5
    go_wp2_with fail
    refine (same_yes (E6.out.get (v := v3) (l := (andL a b)) (.tail _ (.tail _ (.head _)))) (E6.out.get (v := v6) (l := (andL b a)) (.head _)) (and_comm' ga gb)).mono ?_
    rintro e w7 ⟨rfl, h⟩
    have H7 := Lib.hid (below_call H6.out h)
    have E7 := Lib.hid (E6.out.call h)
    clear h E6 H6
    go_wp2_with fail
    have hl8 : (orL a a).length ≤ 241 := by have := orL_len a a; omega
    refine (C.out.uni' (E7.out.get (v := (.slice pa na ca)) (l := a) (.tail _ (.tail _ (.tail _ (.tail _ (.head _)))))) (E7.out.get (v := (.slice pa na ca)) (l := a) (.tail _ (.tail _ (.tail _ (.tail _ (.head _)))))) (by omega)).mono ?_
    rintro e w8 ⟨v8, rfl, hv, h⟩
    have H8 := Lib.hid (below_call H7.out h)
    have E8 := Lib.hid ((E7.out.call h).add hv)
    clear h hv E7 H7
    go_wp2_with fail
    refine (same_yes (E8.out.get (v := v8) (l := (orL a a)) (.head _)) (E8.out.get (v := (.slice pa na ca)) (l := a) (.tail _ (.tail _ (.tail _ (.tail _ (.tail _ (.head _))))))) (or_self' ga)).mono ?_
    rintro e w9 ⟨rfl, h⟩
    have H9 := Lib.hid (below_call H8.out h)
    have E9 := Lib.hid (E8.out.call h)
    clear h E8 H8
    go_wp2_with fail
    have hl10 : (andL a a).length ≤ 241 := by have := andL_len a a; omega
    refine (C.out.meet' (E9.out.get (v := (.slice pa na ca)) (l := a) (.tail _ (.tail _ (.tail _ (.tail _ (.tail _ (.head _))))))) (E9.out.get (v := (.slice pa na ca)) (l := a) (.tail _ (.tail _ (.tail _ (.tail _ (.tail _ (.head _))))))) (by omega)).mono ?_
    rintro e w10 ⟨v10, rfl, hv, h⟩
    have H10 := Lib.hid (below_call H9.out h)
    have E10 := Lib.hid ((E9.out.call h).add hv)
    clear h hv E9 H9
    go_wp2_with fail
    refine (same_yes (E10.out.get (v := v10) (l := (andL a a)) (.head _)) (E10.out.get (v := (.slice pa na ca)) (l := a) (.tail _ (.tail _ (.tail _ (.tail _ (.tail _ (.tail _ (.head _)))))))) (and_self' ga)).mono ?_
    rintro e w11 ⟨rfl, h⟩
    have H11 := Lib.hid (below_call H10.out h)
    have E11 := Lib.hid (E10.out.call h)
    clear h E10 H10
    go_wp2_with fail
    have hl12 : (andL (orL a b) c).length ≤ 603 := by have := andL_len (orL a b) c; omega
    refine (C.out.meet' (E11.out.get (v := v2) (l := (orL a b)) (.tail _ (.tail _ (.tail _ (.tail _ (.tail _ (.head _))))))) (E11.out.get (v := (.slice pc nc cc)) (l := c) (.tail _ (.tail _ (.tail _ (.tail _ (.tail _ (.tail _ (.tail _ (.tail _ (.head _)))))))))) (by omega)).mono ?_
    rintro e w12 ⟨v12, rfl, hv, h⟩
    have H12 := Lib.hid (below_call H11.out h)
    have E12 := Lib.hid ((E11.out.call h).add hv)
    clear h hv E11 H11
    go_wp2_with fail
    have hl13 : (andL a c).length ≤ 241 := by have := andL_len a c; omega
    refine (C.out.meet' (E12.out.get (v := (.slice pa na ca)) (l := a) (.tail _ (.tail _ (.tail _ (.tail _ (.tail _ (.tail _ (.tail _ (.head _))))))))) (E12.out.get (v := (.slice pc nc cc)) (l := c) (.tail _ (.tail _ (.tail _ (.tail _ (.tail _ (.tail _ (.tail _ (.tail _ (.tail _ (.head _))))))))))) (by omega)).mono ?_
    rintro e w13 ⟨v13, rfl, hv, h⟩
    have H13 := Lib.hid (below_call H12.out h)
    have E13 := Lib.hid ((E12.out.call h).add hv)
    clear h hv E12 H12
    go_wp2_with fail
    have hl14 : (andL b c).length ≤ 241 := by have := andL_len b c; omega
    refine (C.out.meet' (E13.out.get (v := (.slice pb nb cb)) (l := b) (.tail _ (.tail _ (.tail _ (.tail _ (.tail _ (.tail _ (.tail _ (.tail _ (.tail _ (.head _))))))))))) (E13.out.get (v := (.slice pc nc cc)) (l := c) (.tail _ (.tail _ (.tail _ (.tail _ (.tail _ (.tail _ (.tail _ (.tail _ (.tail _ (.tail _ (.head _)))))))))))) (by omega)).mono ?_
    rintro e w14 ⟨v14, rfl, hv, h⟩
    have H14 := Lib.hid (below_call H13.out h)
    have E14 := Lib.hid ((E13.out.call h).add hv)
    clear h hv E13 H13
    go_wp2_with fail
    have hl15 : (orL (andL a c) (andL b c)).length ≤ 965 := by have := orL_len (andL a c) (andL b c); omega
    refine (C.out.uni' (E14.out.get (v := v13) (l := (andL a c)) (.tail _ (.head _))) (E14.out.get (v := v14) (l := (andL b c)) (.head _)) (by omega)).mono ?_
    rintro e w15 ⟨v15, rfl, hv, h⟩
    have H15 := Lib.hid (below_call H14.out h)
    have E15 := Lib.hid ((E14.out.call h).add hv)
    clear h hv E14 H14
    go_wp2_with fail
    refine (KA.out w15).mono ?_
    rintro e w16 ⟨rfl, h⟩
    have H16 := Lib.hid (below_call H15.out h)
    have E16 := Lib.hid (E15.out.call h)
    clear h E15 H15
    go_wp2_with fail
    have hl17 : (orL (orL a b) c).length ≤ 603 := by have := orL_len (orL a b) c; omega
    refine (C.out.uni' (E16.out.get (v := v2) (l := (orL a b)) (.tail _ (.tail _ (.tail _ (.tail _ (.tail _ (.tail _ (.tail _ (.tail _ (.tail _ (.head _))))))))))) (E16.out.get (v := (.slice pc nc cc)) (l := c) (.tail _ (.tail _ (.tail _ (.tail _ (.tail _ (.tail _ (.tail _ (.tail _ (.tail _ (.tail _ (.tail _ (.tail _ (.head _)))))))))))))) (by omega)).mono ?_
    rintro e w17 ⟨v17, rfl, hv, h⟩
    have H17 := Lib.hid (below_call H16.out h)
    have E17 := Lib.hid ((E16.out.call h).add hv)
    clear h hv E16 H16
    go_wp2_with fail
    have hl18 : (orL b c).length ≤ 241 := by have := orL_len b c; omega
    refine (C.out.uni' (E17.out.get (v := (.slice pb nb cb)) (l := b) (.tail _ (.tail _ (.tail _ (.tail _ (.tail _ (.tail _ (.tail _ (.tail _ (.tail _ (.tail _ (.tail _ (.tail _ (.head _)))))))))))))) (E17.out.get (v := (.slice pc nc cc)) (l := c) (.tail _ (.tail _ (.tail _ (.tail _ (.tail _ (.tail _ (.tail _ (.tail _ (.tail _ (.tail _ (.tail _ (.tail _ (.tail _ (.head _))))))))))))))) (by omega)).mono ?_
    rintro e w18 ⟨v18, rfl, hv, h⟩
    have H18 := Lib.hid (below_call H17.out h)
    have E18 := Lib.hid ((E17.out.call h).add hv)
    clear h hv E17 H17
    go_wp2_with fail
    have hl19 : (orL a (orL b c)).length ≤ 603 := by have := orL_len a (orL b c); omega
    refine (C.out.uni' (E18.out.get (v := (.slice pa na ca)) (l := a) (.tail _ (.tail _ (.tail _ (.tail _ (.tail _ (.tail _ (.tail _ (.tail _ (.tail _ (.tail _ (.tail _ (.tail _ (.head _)))))))))))))) (E18.out.get (v := v18) (l := (orL b c)) (.head _)) (by omega)).mono ?_
    rintro e w19 ⟨v19, rfl, hv, h⟩
    have H19 := Lib.hid (below_call H18.out h)
    have E19 := Lib.hid ((E18.out.call h).add hv)
    clear h hv E18 H18
    go_wp2_with fail
    refine (same_yes (E19.out.get (v := v17) (l := (orL (orL a b) c)) (.tail _ (.tail _ (.head _)))) (E19.out.get (v := v19) (l := (orL a (orL b c))) (.head _)) (or_assoc' ga gb gc)).mono ?_
    rintro e w20 ⟨rfl, h⟩
    have H20 := Lib.hid (below_call H19.out h)
    have E20 := Lib.hid (E19.out.call h)
    clear h E19 H19
    go_wp2_with fail
    have hl21 : (andL (andL a b) c).length ≤ 603 := by have := andL_len (andL a b) c; omega
    refine (C.out.meet' (E20.out.get (v := v3) (l := (andL a b)) (.tail _ (.tail _ (.tail _ (.tail _ (.tail _ (.tail _ (.tail _ (.tail _ (.tail _ (.tail _ (.tail _ (.head _))))))))))))) (E20.out.get (v := (.slice pc nc cc)) (l := c) (.tail _ (.tail _ (.tail _ (.tail _ (.tail _ (.tail _ (.tail _ (.tail _ (.tail _ (.tail _ (.tail _ (.tail _ (.tail _ (.tail _ (.tail _ (.head _))))))))))))))))) (by omega)).mono ?_
    rintro e w21 ⟨v21, rfl, hv, h⟩
    have H21 := Lib.hid (below_call H20.out h)
    have E21 := Lib.hid ((E20.out.call h).add hv)
    clear h hv E20 H20
    go_wp2_with fail
    refine (C.out.meet' (E21.out.get (v := (.slice pb nb cb)) (l := b) (.tail _ (.tail _ (.tail _ (.tail _ (.tail _ (.tail _ (.tail _ (.tail _ (.tail _ (.tail _ (.tail _ (.tail _ (.tail _ (.tail _ (.tail _ (.head _))))))))))))))))) (E21.out.get (v := (.slice pc nc cc)) (l := c) (.tail _ (.tail _ (.tail _ (.tail _ (.tail _ (.tail _ (.tail _ (.tail _ (.tail _ (.tail _ (.tail _ (.tail _ (.tail _ (.tail _ (.tail _ (.tail _ (.head _)))))))))))))))))) (by omega)).mono ?_
    rintro e w22 ⟨v22, rfl, hv, h⟩
    have H22 := Lib.hid (below_call H21.out h)
    have E22 := Lib.hid ((E21.out.call h).add hv)
    clear h hv E21 H21
    go_wp2_with fail
    have hl23 : (andL a (andL b c)).length ≤ 603 := by have := andL_len a (andL b c); omega
    refine (C.out.meet' (E22.out.get (v := (.slice pa na ca)) (l := a) (.tail _ (.tail _ (.tail _ (.tail _ (.tail _ (.tail _ (.tail _ (.tail _ (.tail _ (.tail _ (.tail _ (.tail _ (.tail _ (.tail _ (.tail _ (.head _))))))))))))))))) (E22.out.get (v := v22) (l := (andL b c)) (.head _)) (by omega)).mono ?_
    rintro e w23 ⟨v23, rfl, hv, h⟩
    have H23 := Lib.hid (below_call H22.out h)
    have E23 := Lib.hid ((E22.out.call h).add hv)
    clear h hv E22 H22
    go_wp2_with fail
    refine (same_yes (E23.out.get (v := v21) (l := (andL (andL a b) c)) (.tail _ (.tail _ (.head _)))) (E23.out.get (v := v23) (l := (andL a (andL b c))) (.head _)) (and_assoc' ga gb gc)).mono ?_
    rintro e w24 ⟨rfl, h⟩
    have H24 := Lib.hid (below_call H23.out h)
    have E24 := Lib.hid (E23.out.call h)
    clear h E23 H23
    go_wp2_with fail
    refine (same_yes (E24.out.get (v := v12) (l := (andL (orL a b) c)) (.tail _ (.tail _ (.tail _ (.tail _ (.tail _ (.tail _ (.tail _ (.tail _ (.tail _ (.head _))))))))))) (E24.out.get (v := v15) (l := (orL (andL a c) (andL b c))) (.tail _ (.tail _ (.tail _ (.tail _ (.tail _ (.tail _ (.head _)))))))) (and_or' ga gb gc)).mono ?_
    rintro e w25 ⟨rfl, h⟩
    have H25 := Lib.hid (below_call H24.out h)
    have E25 := Lib.hid (E24.out.call h)
    clear h E24 H24
    go_wp2_with fail
    have hl26 : (subL a b).length ≤ 241 := by have := subL_len a b; omega
    refine (C.out.sub' (E25.out.get (v := (.slice pa na ca)) (l := a) (.tail _ (.tail _ (.tail _ (.tail _ (.tail _ (.tail _ (.tail _ (.tail _ (.tail _ (.tail _ (.tail _ (.tail _ (.tail _ (.tail _ (.tail _ (.tail _ (.head _)))))))))))))))))) (E25.out.get (v := (.slice pb nb cb)) (l := b) (.tail _ (.tail _ (.tail _ (.tail _ (.tail _ (.tail _ (.tail _ (.tail _ (.tail _ (.tail _ (.tail _ (.tail _ (.tail _ (.tail _ (.tail _ (.tail _ (.tail _ (.head _))))))))))))))))))) (by omega)).mono ?_
    rintro e w26 ⟨v26, rfl, hv, h⟩
    have H26 := Lib.hid (below_call H25.out h)
    have E26 := Lib.hid ((E25.out.call h).add hv)
    clear h hv E25 H25
    go_wp2_with fail
    have hl27 : (orL (andL a b) (subL a b)).length ≤ 965 := by have := orL_len (andL a b) (subL a b); omega
    refine (C.out.uni' (E26.out.get (v := v3) (l := (andL a b)) (.tail _ (.tail _ (.tail _ (.tail _ (.tail _ (.tail _ (.tail _ (.tail _ (.tail _ (.tail _ (.tail _ (.tail _ (.tail _ (.tail _ (.tail _ (.head _))))))))))))))))) (E26.out.get (v := v26) (l := (subL a b)) (.head _)) (by omega)).mono ?_
    rintro e w27 ⟨v27, rfl, hv, h⟩
    have H27 := Lib.hid (below_call H26.out h)
    have E27 := Lib.hid ((E26.out.call h).add hv)
    clear h hv E26 H26
    go_wp2_with fail
    refine (same_yes (E27.out.get (v := v27) (l := (orL (andL a b) (subL a b))) (.head _)) (E27.out.get (v := (.slice pa na ca)) (l := a) (.tail _ (.tail _ (.tail _ (.tail _ (.tail _ (.tail _ (.tail _ (.tail _ (.tail _ (.tail _ (.tail _ (.tail _ (.tail _ (.tail _ (.tail _ (.tail _ (.tail _ (.tail _ (.head _)))))))))))))))))))) (parts' ga gb)).mono ?_
    rintro e w28 ⟨rfl, h⟩
    have H28 := Lib.hid (below_call H27.out h)
    have E28 := Lib.hid (E27.out.call h)
    clear h E27 H27
    go_wp2_with fail
    go_ret
    exact ⟨rfl, H28.out⟩
set_option maxRecDepth 100000 in
set_option maxHeartbeats 4000000 in
theorem lawRelate_any (C0 : SetC) (sa sb : Value) (w : World) (ha : okArg w sa ∨ badArg w sa) (hb : okArg w sb ∨ badArg w sb) : Calls Try.prog 5 #[sa, sb] w (IsEnd true w) := by
  obtain ⟨pa, na, ca, rfl⟩ := arg_shape ha
  obtain ⟨pb, nb, cb, rfl⟩ := arg_shape hb
  have C := Lib.hid C0
  have KA := Lib.hid (fun w => alive5 C0 w)
  obtain ⟨r, hr, KR⟩ := rights2 (.slice pa na ca) (.slice pb nb cb) w 23 w.heap.size rfl ha hb
  have HR := Lib.hid KR
  clear KR C0 ha hb
  cases r with
  | false =>
    go_enter Try.func5, Try.ntmps5
    go_wp2_with fail
    refine HR.out.mono ?_
    rintro e w1 ⟨rfl, h⟩
    have H1 := Lib.hid (below_call (below_new w _) h)
    clear h
    go_wp2_with fail
    refine (KA.out w1).mono ?_
    rintro e w2 ⟨rfl, h⟩
    have H2 := Lib.hid (below_call H1.out h)
    clear h
    go_wp2_with fail
    go_ret
    exact ⟨rfl, H2.out⟩
  | true =>
    obtain ⟨a, ha, hla, b, hb, hlb⟩ := hr rfl
    have ga := ha.good
    have gb := hb.good
    go_enter Try.func5, Try.ntmps5
    go_wp2_with fail
    refine HR.out.mono ?_
    rintro e w1 ⟨rfl, h⟩
    have H1 := Lib.hid (below_call (below_new w _) h)
    have E1 : Hid (Env w1 [((.slice pa na ca), a), ((.slice pb nb cb), b)]) := Lib.hid (fun p hp => by
      simp only [List.mem_cons, List.mem_nil_iff, or_false] at hp
      rcases hp with rfl | rfl
      · exact ha.call (below_call (below_new w _) h)
      · exact hb.call (below_call (below_new w _) h))
    clear h
    clear ha hb
    have hss := sub_self' ga
    obtain ⟨rs, hrs⟩ : ∃ r, decide (subL a b = []) = r := ⟨_, rfl⟩
    obtain ⟨rd, hrd⟩ : ∃ r, decide (andL a b = []) = r := ⟨_, rfl⟩
    have hz1 := len_zero (andL a b)
    have hz2 := len_zero (subL a b)
    rw [hrd] at hz1
    rw [hrs] at hz2
    have HRS := Lib.hid hrs
    have HRD := Lib.hid hrd
    clear hrs hrd
    cases rs <;> cases rd
    all_goals
      go_wp2_with fail
      refine (subset_is C.out (E1.out.get (v := (.slice pa na ca)) (l := a) (.head _)) (E1.out.get (v := (.slice pb nb cb)) (l := b) (.tail _ (.head _))) HRS.out).mono ?_
      rintro e w2 ⟨rfl, h⟩
      have H2 := Lib.hid (below_call H1.out h)
      have E2 := Lib.hid (E1.out.call h)
      clear h E1 H1
      go_wp2_with fail
      refine (disj_is C.out (E2.out.get (v := (.slice pa na ca)) (l := a) (.head _)) (E2.out.get (v := (.slice pb nb cb)) (l := b) (.tail _ (.head _))) HRD.out).mono ?_
      rintro e w3 ⟨rfl, h⟩
      have H3 := Lib.hid (below_call H2.out h)
      have E3 := Lib.hid (E2.out.call h)
      clear h E2 H2
      go_wp2_with fail
      refine (KA.out w3).mono ?_
      rintro e w4 ⟨rfl, h⟩
      have H4 := Lib.hid (below_call H3.out h)
      have E4 := Lib.hid (E3.out.call h)
      clear h E3 H3
      go_wp2_with fail
      refine (refSubset_is (E4.out.get (v := (.slice pa na ca)) (l := a) (.head _)) (E4.out.get (v := (.slice pb nb cb)) (l := b) (.tail _ (.head _))) HRS.out).mono ?_
      rintro e w5 ⟨rfl, h⟩
      have H5 := Lib.hid (below_call H4.out h)
      have E5 := Lib.hid (E4.out.call h)
      clear h E4 H4
      go_wp2_with fail
      have hl6 : (andL a b).length ≤ 241 := by have := andL_len a b; omega
      refine (refMeet' (E5.out.get (v := (.slice pa na ca)) (l := a) (.head _)) (E5.out.get (v := (.slice pb nb cb)) (l := b) (.tail _ (.head _))) (by omega)).mono ?_
      rintro e w6 ⟨v6, rfl, hv, h⟩
      have H6 := Lib.hid (below_call H5.out h)
      have E6 := Lib.hid ((E5.out.call h).add hv)
      obtain ⟨p6, c6, rfl, _⟩ := hv.at'.shape
      clear h hv E5 H5
      go_wp2_with fail
      have hl7 : (subL a b).length ≤ 241 := by have := subL_len a b; omega
      refine (C.out.sub' (E6.out.get (v := (.slice pa na ca)) (l := a) (.tail _ (.head _))) (E6.out.get (v := (.slice pb nb cb)) (l := b) (.tail _ (.tail _ (.head _)))) (by omega)).mono ?_
      rintro e w7 ⟨v7, rfl, hv, h⟩
      have H7 := Lib.hid (below_call H6.out h)
      have E7 := Lib.hid ((E6.out.call h).add hv)
      obtain ⟨p7, c7, rfl, _⟩ := hv.at'.shape
      clear h hv E6 H6
      go_wp2_with fail
      refine (C.out.meet' (E7.out.get (v := (.slice pa na ca)) (l := a) (.tail _ (.tail _ (.head _)))) (E7.out.get (v := (.slice pb nb cb)) (l := b) (.tail _ (.tail _ (.tail _ (.head _))))) (by omega)).mono ?_
      rintro e w8 ⟨v8, rfl, hv, h⟩
      have H8 := Lib.hid (below_call H7.out h)
      have E8 := Lib.hid ((E7.out.call h).add hv)
      obtain ⟨p8, c8, rfl, _⟩ := hv.at'.shape
      clear h hv E7 H7
      go_wp2_with fail
      refine (subset_is C.out (E8.out.get (v := (.slice pa na ca)) (l := a) (.tail _ (.tail _ (.tail _ (.head _))))) (E8.out.get (v := (.slice pa na ca)) (l := a) (.tail _ (.tail _ (.tail _ (.head _))))) (r := true) (decide_eq_true hss)).mono ?_
      rintro e w9 ⟨rfl, h⟩
      have H9 := Lib.hid (below_call H8.out h)
      have E9 := Lib.hid (E8.out.call h)
      clear h E8 H8
      go_wp2_with fail
      go_ret
      exact ⟨rfl, H9.out⟩
set_option maxRecDepth 100000 in
set_option maxHeartbeats 4000000 in
theorem lawNot_any (C0 : SetC) (sa : Value) (x y : Int) (w : World) (ha : okArg w sa ∨ badArg w sa) (hx : 0 ≤ x ∧ x ≤ 18446744073709551615) (hy : 0 ≤ y ∧ y ≤ 18446744073709551615) :
    Calls Try.prog 4 #[sa, .agg #[.int .u64 x, .int .u64 y]] w (IsEnd true w) := by
  obtain ⟨pa, na, ca, rfl⟩ := arg_shape ha
  have C := Lib.hid C0
  have KA := Lib.hid (fun w => alive5 C0 w)
  have B0 := below_new w (.cells #[.int .u64 x, .int .u64 y] 30)
  have c0 : (w.alloc (.cells #[.int .u64 x, .int .u64 y] 30)).cell? ⟨w.heap.size, 0, none⟩ = some (.int .u64 x) := by simp
  have c1 : (w.alloc (.cells #[.int .u64 x, .int .u64 y] 30)).cell? ⟨w.heap.size, 1, none⟩ = some (.int .u64 y) := by simp
  obtain ⟨r, hr, KR⟩ := rights1 (.slice pa na ca) (w.alloc (.cells #[.int .u64 x, .int .u64 y] 30)) 23 (w.heap.size + 1) (alloc_size _ _) (ha.imp (fun h => h.call B0) (fun h => h.call B0))
  have HR := Lib.hid KR
  have HC0 := Lib.hid (fun (W : World) (h : Below (w.alloc (.cells #[.int .u64 x, .int .u64 y] 30)).heap.size (w.alloc (.cells #[.int .u64 x, .int .u64 y] 30)) W) => (⟨keep_cell c0 h, keep_cell c1 h⟩ : W.cell? ⟨w.heap.size, 0, none⟩ = some (.int .u64 x) ∧ W.cell? ⟨w.heap.size, 1, none⟩ = some (.int .u64 y)))
  have HB0 := Lib.hid B0
  have KW := Lib.hid (fun W => right_any x y W)
  clear KR C0 ha c0 c1 B0
  cases r with
  | false =>
    go_enter Try.func4, Try.ntmps4
    go_wp2_with fail
    refine HR.out.mono ?_
    rintro e w1 ⟨rfl, h⟩
    have HB1 := Lib.hid (below_call (below_new _ _) h)
    have H1 := Lib.hid (below_call HB0.out HB1.out)
    have HC := Lib.hid (fun W (hW : Below w1.heap.size w1 W) => HC0.out W (below_call HB1.out hW))
    clear h
    go_wp2_with fail
    refine (KA.out _).mono ?_
    rintro e wz ⟨rfl, h⟩
    have HZ := Lib.hid (below_call H1.out h)
    clear h
    go_wp2_with fail
    go_ret
    exact ⟨rfl, HZ.out⟩
  | true =>
    obtain ⟨a, ha, hla⟩ := hr rfl
    have ga := ha.good
    by_cases hxy : x ≤ y
    · have gw := good_one hxy hx.1 hy.2
      rw [decide_eq_true hxy] at KW
      go_enter Try.func4, Try.ntmps4
      go_wp2_with fail
      refine HR.out.mono ?_
      rintro e w1 ⟨rfl, h⟩
      have HB1 := Lib.hid (below_call (below_new _ _) h)
      have H1 := Lib.hid (below_call HB0.out HB1.out)
      have HC := Lib.hid (fun W (hW : Below w1.heap.size w1 W) => HC0.out W (below_call HB1.out hW))
      have E1 : Hid (Env w1 [((.slice pa na ca), a)]) := Lib.hid (Env.add (fun p hp => by cases hp) ((ha.call (below_new _ _)).call h))
      have J1 := Lib.hid (Below.refl w1.heap.size w1)
      clear h ha HB1
      obtain ⟨b0, b1⟩ := HC.out w1 J1.out
      go_wp2_with fail
      clear b0 b1
      refine (KW.out w1).mono ?_
      rintro e w2 ⟨rfl, h⟩
      have H2 := Lib.hid (below_call H1.out h)
      have E2 := Lib.hid (E1.out.call h)
      have J2 := Lib.hid (below_call J1.out h)
      clear J1
      clear h E1 H1
      obtain ⟨b0, b1⟩ := HC.out w2 J2.out
      go_wp2_with fail
      clear b0 b1
      have hl3 : (subL [(x, y)] a).length ≤ 123 := by have := subL_len [(x, y)] a; simp at this; omega
      refine (C.out.not' (E2.out.get (v := (.slice pa na ca)) (l := a) (.head _)) gw (by omega)).mono ?_
      rintro e w3 ⟨v3, rfl, hv, h⟩
      have H3 := Lib.hid (below_call H2.out h)
      have E3 := Lib.hid ((E2.out.call h).add hv)
      have J3 := Lib.hid (below_call J2.out h)
      clear J2
      clear h hv E2 H2
      obtain ⟨b0, b1⟩ := HC.out w3 J3.out
      go_wp2_with fail
      clear b0 b1
      refine (refNot' (E3.out.get (v := (.slice pa na ca)) (l := a) (.tail _ (.head _))) gw (by omega)).mono ?_
      rintro e w4 ⟨v4, rfl, hv, h⟩
      have H4 := Lib.hid (below_call H3.out h)
      have E4 := Lib.hid ((E3.out.call h).add hv)
      have J4 := Lib.hid (below_call J3.out h)
      clear J3
      clear h hv E3 H3
      obtain ⟨b0, b1⟩ := HC.out w4 J4.out
      go_wp2_with fail
      clear b0 b1
      refine (same_yes (E4.out.get (v := v3) (l := (subL [(x, y)] a)) (.tail _ (.head _))) (E4.out.get (v := v4) (l := (subL [(x, y)] a)) (.head _)) (rfl)).mono ?_
      rintro e w5 ⟨rfl, h⟩
      have H5 := Lib.hid (below_call H4.out h)
      have E5 := Lib.hid (E4.out.call h)
      have J5 := Lib.hid (below_call J4.out h)
      clear J4
      clear h E4 H4
      have hln : (subL [(x, y)] a).length ≤ 123 := hl3
      have hln2 : (subL [(x, y)] (subL [(x, y)] a)).length ≤ 249 := by have := subL_len [(x, y)] (subL [(x, y)] a); simp at this; omega
      have hlm : (andL a [(x, y)]).length ≤ 123 := by have := andL_len a [(x, y)]; simp at this; omega
      obtain ⟨b0, b1⟩ := HC.out w5 J5.out
      have hs : Below w5.heap.size w5 w5 ∧ w5.cell? ⟨w.heap.size, 0, none⟩ = some (.int .u64 x) ∧ w5.cell? ⟨w.heap.size, 1, none⟩ = some (.int .u64 y) := ⟨Below.refl _ _, b0, b1⟩
      have EV := Lib.hid (fun (W : World) (h : Below w5.heap.size w5 W ∧ W.cell? ⟨w.heap.size, 0, none⟩ = some (.int .u64 x) ∧ W.cell? ⟨w.heap.size, 1, none⟩ = some (.int .u64 y)) => (E5.out.get (v := v3) (l := (subL [(x, y)] a)) (.tail _ (.head _))).call h.1)
      have EA := Lib.hid (fun (W : World) (h : Below w5.heap.size w5 W ∧ W.cell? ⟨w.heap.size, 0, none⟩ = some (.int .u64 x) ∧ W.cell? ⟨w.heap.size, 1, none⟩ = some (.int .u64 y)) => (E5.out.get (v := (.slice pa na ca)) (l := a) (.tail _ (.tail _ (.head _)))).call h.1)
      have HNN := Lib.hid (not_not' ga gw)
      clear b0 b1 E5 J5 HC HC0 HR HB0
      go_wp2_with fail
      go_region_held3 (fun W' => Below w5.heap.size w5 W' ∧ W'.cell? ⟨w.heap.size, 0, none⟩ = some (.int .u64 x) ∧ W'.cell? ⟨w.heap.size, 1, none⟩ = some (.int .u64 y))
        (first
          | exact keep_box (by assumption) (Hid.out (by assumption))
          | exact keep_box hs (Below.refl _ _).drew
          | exact keep_box (by assumption) (below_new _ _)
          | exact hs
          | assumption)
        (first
          | (go_at_call 9; refine (KA.out _).mono ?_; rintro en w' ⟨rfl, hb'⟩; have hb := Lib.hid hb'; clear hb')
          | (go_at_call 18; refine (C.out.not' (EV.out _ (by assumption)) gw (by omega)).mono ?_; rintro en w' ⟨vn, rfl, hv', hb'⟩; have VN := Lib.hid (fun (W : World) (h : Below w'.heap.size w' W) => hv'.call h); have hb := Lib.hid hb'; clear hb' hv')
          | (go_at_call 13; refine (C.out.meet' (EA.out _ (by assumption)) (by first | exact one_op_at _ x y _ _ rfl gw | exact (one_op_at _ x y _ _ rfl gw).call (Hid.out (by assumption))) (by simp; omega)).mono ?_; rintro en w' ⟨vm, rfl, hv', hb'⟩; have VM := Lib.hid hv'; have hb := Lib.hid hb'; clear hb' hv')
          | (go_at_call 10; refine (same_yes (by first | exact VN.out _ (Hid.out (by assumption)) | exact VN.out _ (below_call (below_new _ _) (Hid.out (by assumption)))) VM.out HNN.out).mono ?_; rintro en w' ⟨rfl, hb'⟩; have hb := Lib.hid hb'; clear hb'))
      all_goals
        have hE : Below w5.heap.size w5 w' ∧ w'.cell? ⟨w.heap.size, 0, none⟩ = some (.int .u64 x) ∧ w'.cell? ⟨w.heap.size, 1, none⟩ = some (.int .u64 y) := by assumption
        have HZ := Lib.hid (below_call H5.out hE.1)
        clear hE
        go_wp2_with fail
        go_ret
        exact ⟨rfl, HZ.out⟩
    · rw [decide_eq_false hxy] at KW
      go_enter Try.func4, Try.ntmps4
      go_wp2_with fail
      refine HR.out.mono ?_
      rintro e w1 ⟨rfl, h⟩
      have HB1 := Lib.hid (below_call (below_new _ _) h)
      have H1 := Lib.hid (below_call HB0.out HB1.out)
      have HC := Lib.hid (fun W (hW : Below w1.heap.size w1 W) => HC0.out W (below_call HB1.out hW))
      clear h
      obtain ⟨b0, b1⟩ := HC.out w1 (Below.refl _ _)
      go_wp2_with fail
      refine (KW.out w1).mono ?_
      rintro e w2 ⟨rfl, h⟩
      have H2 := Lib.hid (below_call H1.out h)
      clear h b0 b1
      go_wp2_with fail
      refine (KA.out _).mono ?_
      rintro e wz ⟨rfl, h⟩
      have HZ := Lib.hid (below_call H2.out h)
      clear h
      go_wp2_with fail
      go_ret
      exact ⟨rfl, HZ.out⟩
end Go.Proofs.Ytdchddiilnhbcaa
