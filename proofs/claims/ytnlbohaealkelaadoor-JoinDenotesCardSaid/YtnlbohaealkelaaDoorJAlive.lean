/- The example of chapter 8, out of what package join says. Conditions: the contracts of package join. -/
import Derived.Test.YtnlbohaealkelaaDoorJSet
namespace Go.Proofs.YtnlbohaealkelaaDoor
open Go.RowKit
def exA : List Iv := [(0, 2), (5, 5)]
def exT : List Iv := [(0, 3), (5, 5)]
def exB : List Iv := [(0, 5)]
theorem exA_good : GoodL exA := by
  refine ⟨⟨by decide, fun z hz => ?_, by decide, fun z hz => (by cases hz), trivial⟩, ?_⟩
  · cases hz; decide
  · intro y hy
    simp [exA] at hy
    rcases hy with rfl | rfl <;> (unfold UM; decide)
theorem exT_good : GoodL exT := by
  refine ⟨⟨by decide, fun z hz => ?_, by decide, fun z hz => (by cases hz), trivial⟩, ?_⟩
  · cases hz; decide
  · intro y hy
    simp [exT] at hy
    rcases hy with rfl | rfl <;> (unfold UM; decide)
theorem exB_good : GoodL exB := good_one (by decide) (by decide) (by decide)
theorem ex2_good : GoodE 2 [] := ⟨good_nil, by decide, by unfold UM; decide, fun y hy => by cases hy⟩
theorem lit_good {c : Int} (h0 : 0 ≤ c) (h1 : c ≤ 100) : GoodL [(c, c)] := single_good h0 (by omega)
theorem exA_eq : orL (knownL 2 []) [(5, 5)] = exA := good_ext (orL_good (known_good ex2_good) (lit_good (by decide) (by decide))) exA_good fun x hx => by
  rw [or_has (known_good ex2_good) (lit_good (by decide) (by decide)), known_has ex2_good hx]
  simp only [exA, hasE, hasL, List.any_cons, List.any_nil, inI]
  rw [Bool.eq_iff_iff]; simp; omega
theorem exT_eq : orL exA [(3, 3)] = exT := good_ext (orL_good exA_good (lit_good (by decide) (by decide))) exT_good fun x hx => by
  rw [or_has exA_good (lit_good (by decide) (by decide))]
  simp only [exA, exT, hasL, List.any_cons, List.any_nil, inI]
  rw [Bool.eq_iff_iff]; simp; omega
theorem exB_eq : orL exT [(4, 4)] = exB := good_ext (orL_good exT_good (lit_good (by decide) (by decide))) exB_good fun x hx => by
  rw [or_has exT_good (lit_good (by decide) (by decide))]
  simp only [exT, exB, hasL, List.any_cons, List.any_nil, inI]
  rw [Bool.eq_iff_iff]; simp; omega
theorem exA_ne : exA ≠ [] := by simp [exA]
theorem exT_ne : exT ≠ [] := by simp [exT]
theorem exB_ne : exB ≠ [] := by simp [exB]
theorem exA_holes : holesL exA = [(3, 4)] := holes_eq exA_good exA_ne (good_one (by decide) (by decide) (by decide)) fun x hx => by
  rw [show topL exA = 5 from rfl]
  simp only [exA, hasL, List.any_cons, List.any_nil, inI]
  rw [Bool.eq_iff_iff]; simp; omega
theorem exB_holes : holesL exB = [] := holes_eq exB_good exB_ne good_nil fun x hx => by
  rw [show topL exB = 5 from rfl]
  simp only [exB, hasL, List.any_cons, List.any_nil, inI]
  rw [Bool.eq_iff_iff]; simp; omega
theorem exA_known : knownL 5 [(3, 4)] = exA := by have := of_known exA_good exA_ne; rwa [exA_holes, show topL exA = 5 from rfl] at this
theorem exB_known : knownL 5 [] = exB := by have := of_known exB_good exB_ne; rwa [exB_holes, show topL exB = 5 from rfl] at this
theorem exAddA (C : JoinC) (w : World) : Calls Tryd.prog 12 #[.agg #[.int .u64 1, .int .u64 2, .slice none 0 0], .int .u64 5] w (IsAE 1 5 [(3, 4)] w) := by
  have k := C.add 1 2 [] (.slice none 0 0) 5 w ⟨⟨ivs_nil w, fun x hx => (by cases hx), sane_nil, by decide, by decide, by simp⟩, ex2_good⟩ (by decide) (by decide)
  rw [exA_eq] at k
  have k2 := k.mono fun _ _ hh => ea_ae exA_good (by decide) hh
  rwa [rep_some exA_ne, exA_holes, show topL exA = 5 from rfl] at k2
theorem exAddB (C : JoinC) (s : Value) (w : World) (h : EntAt w s 5 [(3, 4)]) : Calls Tryd.prog 12 #[.agg #[.int .u64 1, .int .u64 5, s], .int .u64 3] w (IsAE 1 (topL exT) (holesL exT) w) := by
  have k := C.add 1 5 [(3, 4)] s 3 w h (by decide) (by decide)
  rw [exA_known, exT_eq] at k
  have k2 := k.mono fun _ _ hh => ea_ae exT_good (by decide) hh
  rwa [rep_some exT_ne] at k2
theorem exAddC (C : JoinC) (s : Value) (w : World) (h : EntAt w s (topL exT) (holesL exT)) : Calls Tryd.prog 12 #[.agg #[.int .u64 1, .int .u64 (topL exT), s], .int .u64 4] w (IsAE 1 5 [] w) := by
  have k := C.add 1 (topL exT) (holesL exT) s 4 w h (by decide) (by decide)
  rw [of_known exT_good exT_ne, exB_eq] at k
  have k2 := k.mono fun _ _ hh => ea_ae exB_good (by decide) hh
  rwa [rep_some exB_ne, exB_holes, show topL exB = 5 from rfl] at k2
theorem exNext (C : JoinC) (s : Value) (w : World) (h : EntAt w s 5 [(3, 4)]) : Calls Tryd.prog 13 #[.agg #[.int .u64 1, .int .u64 5, s]] w (IsNB8 6 true w) := by
  have k := C.next 1 5 [(3, 4)] s w h
  rw [exA_known] at k
  exact k
theorem exSubAB (C : JoinC) (s s' : Value) (w : World) (h : EntAt w s 5 [(3, 4)]) (h' : EntAt w s' 5 []) : Calls Tryd.prog 15 #[.agg #[.int .u64 1, .int .u64 5, s], .agg #[.int .u64 1, .int .u64 5, s']] w (IsEnd true w) := by
  have k := C.sub 1 5 5 [(3, 4)] [] s s' w h h'
  rw [exA_known, exB_known] at k
  rwa [show decide (subL exA exB = []) = true from by
    simp only [decide_eq_true_eq]
    exact good_ext (subL_good exA_good exB_good) good_nil fun x hx => by
      rw [sub_has exA_good exB_good]
      simp only [exA, exB, hasL, List.any_cons, List.any_nil, inI]
      rw [Bool.eq_iff_iff]; simp; omega] at k
theorem exSubBA (C : JoinC) (s s' : Value) (w : World) (h : EntAt w s 5 [(3, 4)]) (h' : EntAt w s' 5 []) : Calls Tryd.prog 15 #[.agg #[.int .u64 1, .int .u64 5, s'], .agg #[.int .u64 1, .int .u64 5, s]] w (IsEnd false w) := by
  have k := C.sub 1 5 5 [] [(3, 4)] s' s w h' h
  rw [exA_known, exB_known] at k
  rwa [show decide (subL exB exA = []) = false from by
    simp only [decide_eq_false_iff_not]
    intro e
    have h1 := sub_has exB_good exA_good 3
    rw [e] at h1
    cases h1] at k
set_option maxRecDepth 100000 in
set_option maxHeartbeats 4000000 in
theorem alive8_any (C : JoinC) (w : World) : Calls Tryd.prog 5 #[] w (IsEnd true w) := by
  have HC := Lib.hid C; clear C
  go_enter Tryd.func5, Tryd.ntmps5
  go_wp2_with fail
  have HB_0 := Lib.hid (Below.refl w.heap.size w)
  refine (exAddA HC.out w).mono ?_
  rintro e w1 ⟨va, rfl, hv, h⟩
  obtain ⟨pa, ca, rfl, _⟩ := hv.any.at'.shape
  have HB_1 := Lib.hid (below_call HB_0.out h)
  clear h
  obtain ⟨w2, hw2⟩ : ∃ w', w1.alloc (.cells #[.int .u64 1, .int .u64 5, .slice pa 1 ca] 26) = w' := ⟨_, rfl⟩
  have h : Below w1.heap.size w1 w2 := hw2 ▸ below_new w1 _
  have HB_2 := Lib.hid (below_call HB_1.out h)
  clear h
  have Ha_2 := Lib.hid (InE.new hw2 hv)
  obtain ⟨a0, a1, a2⟩ := Ha_2.out.e3
  clear hv
  go_wp2_with fail
  clear hw2
  refine (exAddB HC.out _ _ Ha_2.out.ent).mono ?_
  rintro e w3 ⟨vt, rfl, hv, h⟩
  obtain ⟨pt, ct, rfl, _⟩ := hv.any.at'.shape
  clear a0 a1 a2
  have Ha_3 := Lib.hid (Ha_2.out.call h)
  have HB_3 := Lib.hid (below_call HB_2.out h)
  clear h
  have Ht_3 := Lib.hid hv; clear hv
  obtain ⟨a0, a1, a2⟩ := Ha_3.out.e3
  go_wp2_with fail
  refine (exAddC HC.out _ _ Ht_3.out).mono ?_
  rintro e w4 ⟨vb, rfl, hv, h⟩
  obtain ⟨pb, cb, rfl, _⟩ := hv.any.at'.shape
  clear a0 a1 a2
  have Ha_4 := Lib.hid (Ha_3.out.call h)
  have Ht_4 := Lib.hid (Ht_3.out.call h)
  have HB_4 := Lib.hid (below_call HB_3.out h)
  clear h
  obtain ⟨w5, hw5⟩ : ∃ w', w4.alloc (.cells #[.int .u64 1, .int .u64 5, .slice pb 0 cb] 26) = w' := ⟨_, rfl⟩
  have h : Below w4.heap.size w4 w5 := hw5 ▸ below_new w4 _
  have Ha_5 := Lib.hid (Ha_4.out.call h)
  have Ht_5 := Lib.hid (Ht_4.out.call h)
  have HB_5 := Lib.hid (below_call HB_4.out h)
  clear h
  have Hb_5 := Lib.hid (InE.new hw5 hv)
  obtain ⟨a0, a1, a2⟩ := Ha_5.out.e3
  obtain ⟨b0, b1, b2⟩ := Hb_5.out.e3
  clear hv
  go_wp2_with fail
  clear hw5
  refine (exNext HC.out _ _ Ha_5.out.ent).mono ?_
  rintro e w6 ⟨rfl, h⟩
  clear a0 a1 a2 b0 b1 b2
  have Ha_6 := Lib.hid (Ha_5.out.call h)
  have Hb_6 := Lib.hid (Hb_5.out.call h)
  have Ht_6 := Lib.hid (Ht_5.out.call h)
  have HB_6 := Lib.hid (below_call HB_5.out h)
  obtain ⟨a0, a1, a2⟩ := Ha_6.out.e3
  obtain ⟨b0, b1, b2⟩ := Hb_6.out.e3
  clear h
  obtain ⟨w7, hw7⟩ : ∃ w', w6.alloc (.cells #[.int .u64 3, .int .u64 4] 40) = w' := ⟨_, rfl⟩
  have h : Below w6.heap.size w6 w7 := hw7 ▸ below_new w6 _
  have Ha_7 := Lib.hid (Ha_6.out.call h)
  have Hb_7 := Lib.hid (Hb_6.out.call h)
  have Ht_7 := Lib.hid (Ht_6.out.call h)
  have HB_7 := Lib.hid (below_call HB_6.out h)
  clear h
  obtain ⟨a0, a1, a2⟩ := Ha_7.out.e3
  obtain ⟨b0, b1, b2⟩ := Hb_7.out.e3
  have hlit := hw7 ▸ one_new w6 3 4 40
  go_wp2_with fail
  clear hw7
  refine (same_true 1 5 [((3 : Int), (4 : Int))] _ _ _ Ha_7.out.ent.any.at' hlit).mono ?_
  rintro e w8 ⟨rfl, h⟩
  clear a0 a1 a2 b0 b1 b2
  have Ha_8 := Lib.hid (Ha_7.out.call h)
  have Hb_8 := Lib.hid (Hb_7.out.call h)
  have Ht_8 := Lib.hid (Ht_7.out.call h)
  have HB_8 := Lib.hid (below_call HB_7.out h)
  obtain ⟨a0, a1, a2⟩ := Ha_8.out.e3
  obtain ⟨b0, b1, b2⟩ := Hb_8.out.e3
  clear hlit
  go_wp2_with fail
  refine (same_true 1 5 [] _ _ _ Hb_8.out.ent.any.at' (ivs_nil _)).mono ?_
  rintro e w9 ⟨rfl, h⟩
  clear a0 a1 a2 b0 b1 b2
  have Ha_9 := Lib.hid (Ha_8.out.call h)
  have Hb_9 := Lib.hid (Hb_8.out.call h)
  have Ht_9 := Lib.hid (Ht_8.out.call h)
  have HB_9 := Lib.hid (below_call HB_8.out h)
  obtain ⟨a0, a1, a2⟩ := Ha_9.out.e3
  obtain ⟨b0, b1, b2⟩ := Hb_9.out.e3
  go_wp2_with fail
  refine (exSubAB HC.out _ _ _ Ha_9.out.ent Hb_9.out.ent).mono ?_
  rintro e w10 ⟨rfl, h⟩
  clear a0 a1 a2 b0 b1 b2
  have Ha_10 := Lib.hid (Ha_9.out.call h)
  have Hb_10 := Lib.hid (Hb_9.out.call h)
  have Ht_10 := Lib.hid (Ht_9.out.call h)
  have HB_10 := Lib.hid (below_call HB_9.out h)
  obtain ⟨a0, a1, a2⟩ := Ha_10.out.e3
  obtain ⟨b0, b1, b2⟩ := Hb_10.out.e3
  go_wp2_with fail
  refine (exSubBA HC.out _ _ _ Ha_10.out.ent Hb_10.out.ent).mono ?_
  rintro e w11 ⟨rfl, h⟩
  clear a0 a1 a2 b0 b1 b2
  have Ha_11 := Lib.hid (Ha_10.out.call h)
  have Hb_11 := Lib.hid (Hb_10.out.call h)
  have Ht_11 := Lib.hid (Ht_10.out.call h)
  have HB_11 := Lib.hid (below_call HB_10.out h)
  obtain ⟨a0, a1, a2⟩ := Ha_11.out.e3
  obtain ⟨b0, b1, b2⟩ := Hb_11.out.e3
  go_wp2_with fail
  go_ret
  exact ⟨rfl, HB_11.out⟩
end Go.Proofs.YtnlbohaealkelaaDoor
