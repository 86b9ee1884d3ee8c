/- The laws' example of layer 5 holds in every state, out of what package setops says; the laws' look at one, two and three lists. Conditions: the contracts of package setops. -/
import Derived.Test.YtdchddiilnhbcaaDoorOSet
namespace Go.Proofs.YtdchddiilnhbcaaDoor
open Go.RowKit
theorem rights2 (s t : Value) (w : World) (T : TypeId) (k : Nat) (hk : k = w.heap.size) (ha : okArg w s ∨ badArg w s) (hb : okArg w t ∨ badArg w t) :
    ∃ r : Bool, (r = true → ∃ a, OpAt w s a ∧ a.length ≤ 60 ∧ ∃ b, OpAt w t b ∧ b.length ≤ 60) ∧ Calls Tryd.prog 4 #[.slice (some ⟨k, 0, none⟩) 2 2] (w.alloc (.cells #[s, t] T)) (IsEnd r (w.alloc (.cells #[s, t] T))) := by
  subst hk
  obtain ⟨r, h1, h2⟩ := rights_any 2 w.heap.size 2 (fun i => if i = 0 then s else t) (w.alloc (.cells #[s, t] T)) w (below_new _ _) (by omega) (fun i hi => by
    match i, hi with
    | 0, _ => simp
    | 1, _ => simp) (fun i hi => by
    match i, hi with
    | 0, _ => exact ha
    | 1, _ => exact hb)
  refine ⟨r, fun h => ?_, h2⟩
  obtain ⟨a, pa, qa, ra⟩ := h1 h 0 (by omega)
  obtain ⟨b, pb, qb, rb⟩ := h1 h 1 (by omega)
  exact ⟨a, ⟨pa, qa, by omega⟩, ra, b, ⟨pb, qb, by omega⟩, rb⟩
set_option maxRecDepth 100000 in
set_option maxHeartbeats 4000000 in
theorem alive5 (C0 : SetC) (w : World) : Calls Tryd.prog 5 #[] w (IsEnd true w) := by
  have C := Lib.hid C0
  have g1 := ex_good1
  have g2 := ex_good2
  have g3 := ex_good3
  clear C0
  go_enter Tryd.func5, Tryd.ntmps5
  go_wp2_with fail
  have e0 := two_new w 2 3 9 9 36 w.heap.size rfl g1
  refine (C.out.not' e0 g3 (by decide)).mono ?_
  rintro e w1 ⟨v1, rfl, hv, h⟩
  rw [ex_sub] at hv
  have H1 := Lib.hid (below_call (below_new w _) h)
  have E1 : Hid (Env w1 [(v1, [(0, 1), (4, 8)]), (.slice (some ⟨w.heap.size, 0, none⟩) 2 2, [(2, 3), (9, 9)])]) := Lib.hid (Env.add (Env.add (fun p hp => by cases hp) (e0.call h)) hv)
  clear h hv e0
  go_wp2_with fail
  have B2 := below_new w1 (.cells #[.int .u64 0, .int .u64 1, .int .u64 4, .int .u64 8] 36)
  refine (same_yes ((E1.out.get (v := v1) (l := [(0, 1), (4, 8)]) (.head _)).call B2) (two_new w1 0 1 4 8 36 w1.heap.size rfl g2) rfl).mono ?_
  rintro e w2 ⟨rfl, h⟩
  have H2 := Lib.hid (below_call (below_call H1.out B2) h)
  have E2 := Lib.hid ((E1.out.call B2).call h)
  clear h B2 E1 H1
  go_wp2_with fail
  refine (C.out.uni' (E2.out.get (v := .slice (some ⟨w.heap.size, 0, none⟩) 2 2) (l := [(2, 3), (9, 9)]) (.tail _ (.head _))) (E2.out.get (v := v1) (l := [(0, 1), (4, 8)]) (.head _)) (by decide)).mono ?_
  rintro e w3 ⟨v3, rfl, hv, h⟩
  rw [ex_or] at hv
  have H3 := Lib.hid (below_call H2.out h)
  have E3 := Lib.hid (E2.out.call h)
  have V3 := Lib.hid hv
  clear h hv H2 E2
  go_wp2_with fail
  have B4 := below_new w3 (.cells #[.int .u64 0, .int .u64 9] 36)
  refine (same_yes (V3.out.call B4) (one_op_at w3 0 9 36 w3.heap.size rfl g3) rfl).mono ?_
  rintro e w4 ⟨rfl, h⟩
  have H4 := Lib.hid (below_call (below_call H3.out B4) h)
  have E4 := Lib.hid ((E3.out.call B4).call h)
  clear h B4 E3 H3 V3
  go_wp2_with fail
  refine (disj_is C.out (E4.out.get (v := .slice (some ⟨w.heap.size, 0, none⟩) 2 2) (l := [(2, 3), (9, 9)]) (.tail _ (.head _))) (E4.out.get (v := v1) (l := [(0, 1), (4, 8)]) (.head _)) (r := true) (by rw [ex_and]; rfl)).mono ?_
  rintro e w5 ⟨rfl, h⟩
  have H5 := Lib.hid (below_call H4.out h)
  have E5 := Lib.hid (E4.out.call h)
  clear h E4 H4
  go_wp2_with fail
  refine (subset_is C.out (E5.out.get (v := .slice (some ⟨w.heap.size, 0, none⟩) 2 2) (l := [(2, 3), (9, 9)]) (.tail _ (.head _))) (E5.out.get (v := v1) (l := [(0, 1), (4, 8)]) (.head _)) (r := false) (by rw [ex_sub2]; rfl)).mono ?_
  rintro e w6 ⟨rfl, h⟩
  have H6 := Lib.hid (below_call H5.out h)
  have E6 := Lib.hid (E5.out.call h)
  clear h E5 H5
  go_wp2_with fail
  refine (C.out.meet' (E6.out.get (v := .slice (some ⟨w.heap.size, 0, none⟩) 2 2) (l := [(2, 3), (9, 9)]) (.tail _ (.head _))) (E6.out.get (v := v1) (l := [(0, 1), (4, 8)]) (.head _)) (by decide)).mono ?_
  rintro e w7 ⟨v7, rfl, hv, h⟩
  rw [ex_and] at hv
  obtain ⟨p7, c7, rfl, _⟩ := hv.at'.shape
  have H7 := Lib.hid (below_call H6.out h)
  have E7 := Lib.hid (E6.out.call h)
  clear h hv H6 E6
  go_wp2_with fail
  refine (C.out.sub' (E7.out.get (v := .slice (some ⟨w.heap.size, 0, none⟩) 2 2) (l := [(2, 3), (9, 9)]) (.tail _ (.head _))) (E7.out.get (v := v1) (l := [(0, 1), (4, 8)]) (.head _)) (by decide)).mono ?_
  rintro e w8 ⟨v8, rfl, hv, h⟩
  rw [ex_sub2] at hv
  have H8 := Lib.hid (below_call H7.out h)
  have E8 := Lib.hid (E7.out.call h)
  have V8 := Lib.hid hv
  clear h hv H7 E7
  go_wp2_with fail
  refine (same_yes V8.out (E8.out.get (v := .slice (some ⟨w.heap.size, 0, none⟩) 2 2) (l := [(2, 3), (9, 9)]) (.tail _ (.head _))) rfl).mono ?_
  rintro e w9 ⟨rfl, h⟩
  have H9 := Lib.hid (below_call H8.out h)
  clear h
  go_wp2_with fail
  go_ret
  exact ⟨rfl, H9.out⟩
end Go.Proofs.YtdchddiilnhbcaaDoor
