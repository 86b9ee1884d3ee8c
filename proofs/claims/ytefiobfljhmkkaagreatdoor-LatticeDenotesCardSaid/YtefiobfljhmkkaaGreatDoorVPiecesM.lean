/- The range-function of package setops that yields the pieces of meet. Conditions: the lists are correct, kept in memory between two rounds. -/
import Derived.Test.YtefiobfljhmkkaaGreatDoorVPieces
namespace Go.Proofs.YtefiobfljhmkkaaGreatDoor
open Go.RowKit Go.Shelf
attribute [local go_sem] Oper.semAt_some
theorem takes_meet (p q : Bool) (w : World) : Calls Tryz.prog 63 #[.bool p, .bool q] w (IsB (fAnd p q) w) := by
  cases p <;> cases q <;>
  (go_enter Tryz.func63, Tryz.ntmps63
   go_wp2
   go_ret
   exact ⟨rfl, rfl⟩)
set_option maxRecDepth 100000 in
set_option maxHeartbeats 8000000 in
theorem pieces_meet (n : Nat) (hn : 3 ≤ n) (c kA kB kT : Nat) (s t : Value) (a b : List Iv) (W0 : World) (hc : c ≤ W0.heap.size) (hkT : kT < c) (h3 : KeptL (fun k => k < c) s a) (h4 : KeptL (fun k => k < c) t b)
    (h0 : TwoAt kA kB s t a b W0) (hT : W0.cell? ⟨kT, 0, none⟩ = some (.func (.func 63) #[] #[])) :
    IterX n Tryz.prog 77 #[.pointer (some ⟨kA, 0, none⟩), .pointer (some ⟨kB, 0, none⟩), .pointer (some ⟨kT, 0, none⟩)] ivA (pc UM fAnd (chL UM a b) 0 false)
      (fun k => W0.heap.size ≤ k ∧ k < W0.heap.size + 7) (fun k => k < c ∨ (W0.heap.size ≤ k ∧ k < W0.heap.size + 7)) (W0.heap.size + 7) W0 := by
  intro l J Jx hJ hJx hY hJ0
  obtain ⟨e, he⟩ : ∃ e, W0.heap.size = e := ⟨_, rfl⟩
  rw [he] at hc hJ hJx hY
  obtain ⟨L, hL⟩ : ∃ L, pc UM fAnd (chL UM a b) 0 false = L := ⟨_, rfl⟩
  rw [hL] at hY ⊢
  have hup := chL_up h0.la.good.can h0.lb.good.can h0.la.good.ok h0.lb.good.ok
  have HS0 := Lib.hid (StP.start hup hL)
  clear hup hL
  have HY := Lib.hid hY; clear hY
  have HK := Lib.hid (And.intro hJ hJx); clear hJ hJx
  have H34 := Lib.hid (And.intro h3 h4); clear h3 h4
  have HJ0 := Lib.hid hJ0; clear hJ0
  obtain ⟨pA, nA, rfl, _⟩ := h0.la.at'.shape
  obtain ⟨pB, nB, rfl, _⟩ := h0.lb.at'.shape
  have hb3 := below_alloc (below_alloc (below_new W0 (.cells #[.func (.yield l) #[] #[]] 119)) (.cells #[.int .u64 0] 24)) (.cells #[.bool false] 4)
  have hcA := keep_cell h0.ca hb3
  have hcB := keep_cell h0.cb hb3
  clear hb3
  have H0 := Lib.hid h0; clear h0
  have HT := Lib.hid hT; clear hT
  have HN := Lib.hid (And.intro hc hkT); clear hc hkT
  have hn1 : 1 ≤ n := by omega
  have hn2 : 1 ≤ n - 1 := by omega
  have hn3 : 1 ≤ n - 1 - 1 := by omega
  clear hn
  have HE := Lib.hid he; clear he
  refine callsIn_of_wp_marks Tryz.func77 rfl trivial ?_ rfl
  simp only [Tryz.ntmps77, List.size_toArray, List.length_cons, List.length_nil, Nat.reduceAdd, Nat.reduceSub, Array.replicate_succ, Array.replicate_zero, List.push_toArray, List.append_toArray, List.nil_append, List.cons_append]
  have KC := Lib.hid changes_call
  gi_wp2_with (refine ⟨trivial, ?_⟩; gi_at_call 78; refine (callsIn_wide.2 (KC.out _ _ _ _ _ _ _)).mono ?_; rintro e w' ⟨rfl, hw⟩; obtain rfl := hw)
  clear hcA hcB
  obtain ⟨w5, hw5⟩ : ∃ w5, ((((W0.alloc (.cells #[.func (.yield l) #[] #[]] 119)).alloc (.cells #[.int .u64 0] 24)).alloc (.cells #[.bool false] 4)).alloc (.cells #[.slice pA a.length nA] 34)).alloc (.cells #[.slice pB b.length nB] 34) = w5 := ⟨_, rfl⟩
  obtain ⟨hb5, hs5, ho5, ht5⟩ := opened W0 w5 e l kA kB kT (.func (.func 63) #[] #[]) pA pB nA nB a b HE.out H0.out HT.out hw5
  rw [hw5, HE.out]
  clear hw5
  have HS5 := Lib.hid hs5
  have HC := Lib.hid HN.out.1
  have hkT := HN.out.2
  have hce := HN.out.1
  have HB5 := Lib.hid hb5; clear hb5
  have HO5 := Lib.hid ho5; clear ho5
  have HT5 := Lib.hid ht5; clear ht5
  have HJ5 := Lib.hid (HK.out.1 _ _ _ HJ0.out (Apart.of_below _ HB5.out))
  refine range_x (n := n) hn1 (gf := 93) (lb := #[.pointer (some ⟨e + 1 + 1 + 1, 0, none⟩), .pointer (some ⟨e + 1 + 1 + 1 + 1, 0, none⟩)]) (encs := chV) (L := chL UM a b) (own := fun _ => False) (keep := fun k => k < c ∨ k = e + 1 + 1 + 1 ∨ k = e + 1 + 1 + 1 + 1) (lo := 0)
    rfl (enters_of Tryz.func93 (by kernel_rfl) rfl) (fun _ => rfl) (fun k hk => by omega) (fun _ h => h.elim)
    (fun W _ hb => changes_iter _ hn2 (e + 1 + 1 + 1) (e + 1 + 1 + 1 + 1) _ _ a b _ (.inr (.inl rfl)) (.inr (.inr rfl)) (fun hne b o n cap h => .inl (H34.out.1 hne b o n cap h)) (fun hne b o n cap h => .inl (H34.out.2 hne b o n cap h)) W (HT5.out.below hb))
    (fun front W => ∃ pre s0 t0, StP UM fAnd (chL UM a b) L pre s0 t0 front ∧ J pre W ∧ OwnP e l kT (.func (.func 63) #[] #[]) s0 t0 W) Jx (fun k => k = e + 5 ∨ k = e + 6) (by omega) (fun _ h => h.elim)
    (fun front A B h hab => by
      obtain ⟨pre, s0, t0, h1, h2, h3⟩ := h
      exact ⟨pre, s0, t0, h1, HK.out.1 _ _ _ h2 (hab.mono fun k _ h => by omega), h3.apart hab (by omega) (by omega) (by omega) (by omega)⟩)
    (fun A B h hab => HK.out.2 _ _ h (hab.mono fun k _ h => by omega))
    ⟨[], 0, false, HS0.out, HJ5.out, HO5.out⟩
    (fun z x a' W => ∃ Bx, z ≤ Bx ∧ ChAt Bx x W ∧ a' = { tmps := #[.func (.yield l) #[] #[], .pointer (some ⟨kA, 0, none⟩), .pointer (some ⟨kB, 0, none⟩), .pointer (some ⟨kT, 0, none⟩), .pointer (some ⟨e, 0, none⟩), .pointer (some ⟨e + 1, 0, none⟩), .pointer (some ⟨e + 1 + 1, 0, none⟩), .pointer (some ⟨Bx, 0, none⟩), .slice pA a.length nA, .slice pB b.length nB, .func (.func 93) #[] #[.pointer (some ⟨e + 1 + 1 + 1, 0, none⟩), .pointer (some ⟨e + 1 + 1 + 1 + 1, 0, none⟩)], .agg #[.int .u64 x.1, .bool x.2.1, .bool x.2.2], undef, undef, undef, undef, undef, undef, undef, undef, undef, undef, undef, undef, undef, undef, undef, undef, undef, undef, undef, undef, undef, undef, undef, undef, undef, undef, undef, undef], defers := [] })
    (fun z x a' A B _ hz h hab => by
      obtain ⟨Bx, h1, h2, h3⟩ := h
      exact ⟨Bx, h1, h2.apart hab (by omega), h3⟩) ?assign ?body ?done ?stop
  case assign =>
    rintro l2 front x A0 W K _ hap _ hz hK
    unfold chV
    have hz2 := hap.size
    gi_wp2
    exact hK _ _ (below_new _ _) ⟨W.heap.size, hz2, ChAt.new _ _ _, rfl⟩
  case body =>
    rintro l2 front ⟨at0, p, q⟩ a' A0 W ⟨pre, s0, t0, hst, hj, hown⟩ hap ⟨Bx, hzB, hch, rfl⟩ hx _ hz
    have hz7 : e + 7 ≤ A0.heap.size := by omega
    have hownW := hown.apart hap (by omega) (by omega) (by omega) (by omega)
    obtain ⟨hr0, hrU, hr1⟩ := hst.range hx
    have HR1 := Lib.hid hr1; clear hr1
    have hcy := hownW.y.cell
    have hcs := hownW.st.cell
    have hfs := hownW.st.frozen
    have hct := hownW.tk.cell
    have hft := hownW.tk.frozen
    have hcT := hownW.ct
    obtain ⟨hx0, hx1, hx2, _⟩ := hch
    have hlt : Bx < W.heap.size := World.block_lt_of_cell? W _ hx0
    have HCH : Hid (ChAt Bx (at0, p, q) W) := Lib.hid ⟨hx0, hx1, hx2, trivial⟩
    have HOW := Lib.hid hownW; clear hownW hown
    have HJ := Lib.hid hj; clear hj
    have HAP := Lib.hid hap; clear hap
    have HST := Lib.hid hst; clear hst
    have HX := Lib.hid hx; clear hx
    have hmx : Tryz.prog.follows .mixedOrders = true := by kernel_rfl
    have HS5b := Lib.hid hs5; clear hs5
    cases hv : fAnd p q with
    | true =>
      have KT : Hid (∀ w, Calls Tryz.prog 63 #[.bool p, .bool q] w (IsB true w)) := Lib.hid (fun w => hv ▸ takes_meet p q w)
      have HV := Lib.hid hv; clear hv
      cases t0 with
      | true =>
        gi_wp2
        refine wpIn_region_quiet_nd (by kernel_rfl) (by kernel_rfl) (by kernel_rfl) ?_
        repeat (gi_big_quiet_step (fail))
        refine BigFrame.wpQuietIn_want (fun _ _ _ _ => trivial) rfl (fun K hK => ?_)
        gi_big_quiet_op
        apply Exists.intro
        refine ⟨fun _ => ?_, ?_⟩
        · gi_at_call 63
          exact CallsIn.inRound l2 (CallsIn.quiet_of_same (callsIn_wide.2 (KT.out _)))
        refine hK _ ?_
        clear hK
        clear K
        repeat (gi_big_quiet_step (fail))
        refine wpQuietIn_nil ?_
        rintro _ ⟨nq, rfl⟩
        gi_wp2
        exact ⟨Apart.drewN _ _ _, pre, s0, true, HST.out.same HX.out HV.out, HK.out.1 _ _ _ HJ.out ((HAP.out.mono fun k _ h => by omega).trans (Apart.drewN _ _ _)), HOW.out.apart (Apart.drewN (fun _ => False) _ _) id id id id⟩
      | false =>
        gi_wp2
        refine wpIn_region_quiet_nd (by kernel_rfl) (by kernel_rfl) (by kernel_rfl) ?_
        repeat (gi_big_quiet_step (fail))
        refine BigFrame.wpQuietIn_want (fun _ _ _ _ => trivial) rfl (fun K hK => ?_)
        gi_big_quiet_op
        apply Exists.intro
        refine ⟨fun _ => ?_, ?_⟩
        · gi_at_call 63
          exact CallsIn.inRound l2 (CallsIn.quiet_of_same (callsIn_wide.2 (KT.out _)))
        refine hK _ ?_
        clear hK
        clear K
        repeat (gi_big_quiet_step (fail))
        refine wpQuietIn_nil ?_
        rintro _ ⟨nq, rfl⟩
        gi_wp2_with ((with_reducible refine And.intro ?_ ?_); exact fun _ _ => trivial)
        gi_region_with_o (fail)
        all_goals gi_wp2
        all_goals exact pieces_end0 HS5.out hce hkT hz7 (Apart.drewN _ _ _) (HOW.out.apart (Apart.drewN (fun _ => False) _ _) id id id id) (HK.out.1 _ _ _ HJ.out ((HAP.out.mono fun k _ h => by omega).trans (Apart.drewN _ _ _))) HK.out.1 (HST.out.go HX.out HV.out)
    | false =>
      have KT : Hid (∀ w, Calls Tryz.prog 63 #[.bool p, .bool q] w (IsB false w)) := Lib.hid (fun w => hv ▸ takes_meet p q w)
      have HV := Lib.hid hv; clear hv
      cases t0 with
      | true =>
        obtain ⟨hs0, hs1⟩ := HR1.out rfl
        have hU18 : at0 ≤ 18446744073709551615 := hrU
        clear hrU
        gi_wp2
        refine wpIn_region_quiet_nd (by kernel_rfl) (by kernel_rfl) (by kernel_rfl) ?_
        repeat (gi_big_quiet_step (fail))
        refine BigFrame.wpQuietIn_want (fun _ _ _ _ => trivial) rfl (fun K hK => ?_)
        gi_big_quiet_op
        apply Exists.intro
        refine ⟨fun _ => ?_, ?_⟩
        · gi_at_call 63
          exact CallsIn.inRound l2 (CallsIn.quiet_of_same (callsIn_wide.2 (KT.out _)))
        refine hK _ ?_
        clear hK
        clear K
        repeat (gi_big_quiet_step (fail))
        refine wpQuietIn_nil ?_
        rintro _ ⟨nq, rfl⟩
        gi_wp2
        obtain ⟨hst2, hpx⟩ := HST.out.stop HX.out HV.out
        obtain ⟨fn, tmps, assign, body, hy, hR⟩ := HY.out pre (s0, at0 - 1) A0 (W.drewN nq) HJ.out ((HAP.out.mono fun k _ h => by omega).trans (Apart.drewN _ _ _)) hpx hz7
        unfold ivA at hy
        dsimp only at hy
        rw [hy, Oper.uponIn_round]
        refine ⟨fun h => (by cases h), (RoundIn.inRound (RoundIn.anyDepth hR)).mono ?_⟩
        clear hy hR hpx
        have HST2 := Lib.hid hst2; clear hst2
        clear hcy hcs hfs hct hft hcT hx0 hx1 hx2
        rintro e3 W3 ⟨hap3, ⟨rfl, hJ3⟩ | ⟨rfl, hJ3⟩⟩
        · have hap4 := (Apart.drewN _ W nq).trans hap3
          have how3 := HOW.out.apart hap4 (by omega) (by omega) (by omega) (by omega)
          have hch3 := HCH.out.apart hap4 (by omega)
          have hcs3 := how3.st.cell
          have hfs3 := how3.st.frozen
          have hct3 := how3.tk.cell
          have hft3 := how3.tk.frozen
          obtain ⟨hx0, _⟩ := hch3
          have HOW3 := Lib.hid how3; clear how3
          have HAP4 := Lib.hid hap4; clear hap4 hap3
          have HJ3 := Lib.hid hJ3; clear hJ3
          gi_wp2
          gi_region_with_o (fail)
          all_goals gi_wp2
          all_goals exact pieces_end HS5.out hce hkT hz7 HAP4.out HOW3.out HJ3.out HK.out.1 HST2.out
        · have HAP4 := Lib.hid ((Apart.drewN _ W nq).trans hap3); clear hap3
          have HJ3 := Lib.hid hJ3; clear hJ3
          gi_wp2
          have hs5c := HS5.out
          exact ⟨HAP4.out.mono (fun k _ h hn => h (by omega)), HJ3.out⟩
      | false =>
        gi_wp2
        refine wpIn_region_quiet_nd (by kernel_rfl) (by kernel_rfl) (by kernel_rfl) ?_
        repeat (gi_big_quiet_step (fail))
        refine BigFrame.wpQuietIn_want (fun _ _ _ _ => trivial) rfl (fun K hK => ?_)
        gi_big_quiet_op
        apply Exists.intro
        refine ⟨fun _ => ?_, ?_⟩
        · gi_at_call 63
          exact CallsIn.inRound l2 (CallsIn.quiet_of_same (callsIn_wide.2 (KT.out _)))
        refine hK _ ?_
        clear hK
        clear K
        repeat (gi_big_quiet_step (fail))
        refine wpQuietIn_nil ?_
        rintro _ ⟨nq, rfl⟩
        gi_wp2
        exact ⟨Apart.drewN _ _ _, pre, s0, false, HST.out.same HX.out HV.out, HK.out.1 _ _ _ HJ.out ((HAP.out.mono fun k _ h => by omega).trans (Apart.drewN _ _ _)), HOW.out.apart (Apart.drewN (fun _ => False) _ _) id id id id⟩
  case done =>
    rintro D W hD hszW ⟨pre, s0, t0, hst, hj, hown⟩ hdf
    have hcy := hown.y.cell
    have hcs := hown.st.cell
    have hct := hown.tk.cell
    have HST := Lib.hid hst; clear hst
    have HJ := Lib.hid hj; clear hj hown
    have HD := Lib.hid hD; clear hD
    have HDF := Lib.hid hdf; clear hdf
    have HSW := Lib.hid hszW; clear hszW
    clear hs5
    cases t0 with
    | false =>
      gi_wp2
      have hDe : D = e + 5 := by have := HS5.out; have := HD.out; omega
      refine ⟨by simp, .inl ⟨_, _, rfl, run_takeDeferred HDF.out, ?_⟩⟩
      exact ⟨_, results_none rfl _ _ _, ⟨_, rfl⟩, .inl (HK.out.1 _ _ _ (HST.out.done ▸ HJ.out) (Apart.put _ _ (by omega)))⟩
    | true =>
      obtain ⟨fn, tmps, assign, body, hy, hR⟩ := HY.out pre (s0, UM) W W HJ.out (Apart.refl _ _) ⟨[], by rw [List.append_nil]; exact HST.out.last⟩ (by have := HSW.out; have := HS5.out; omega)
      unfold ivA at hy
      dsimp only [UM] at hy
      gi_wp2
      refine (RoundIn.anyDepth hR).mono ?_
      clear hy hR
      rintro e3 W3 ⟨hap3, ⟨rfl, hJ3⟩ | ⟨rfl, hJ3⟩⟩
      · have HDF3 := Lib.hid (hap3.obj HDF.out (by have := HS5.out; have := HD.out; omega))
        have HJ3 := Lib.hid hJ3; clear hJ3 hap3
        gi_wp2
        have hDe : D = e + 5 := by have := HS5.out; have := HD.out; omega
        refine ⟨by simp, .inl ⟨_, _, rfl, run_takeDeferred HDF3.out, ?_⟩⟩
        exact ⟨_, results_none rfl _ _ _, ⟨_, rfl⟩, .inl (HK.out.1 _ _ _ (HST.out.last ▸ HJ3.out) (Apart.put _ _ (by omega)))⟩
      · have HDF3 := Lib.hid (hap3.obj HDF.out (by have := HS5.out; have := HD.out; omega))
        have HJ3 := Lib.hid hJ3; clear hJ3 hap3
        gi_wp2
        have hDe : D = e + 5 := by have := HS5.out; have := HD.out; omega
        refine ⟨by simp, .inl ⟨_, _, rfl, run_takeDeferred HDF3.out, ?_⟩⟩
        exact ⟨_, results_none rfl _ _ _, ⟨_, rfl⟩, .inr (HK.out.2 _ _ HJ3.out (Apart.put _ _ (by omega)))⟩
  case stop =>
    rintro D W hD hJx hdf
    have HJ := Lib.hid hJx; clear hJx
    have HD := Lib.hid hD; clear hD
    have HDF := Lib.hid hdf; clear hdf
    clear hs5
    gi_wp2
    have hDe : D = e + 5 := by have := HS5.out; have := HD.out; omega
    refine ⟨by simp, .inl ⟨_, _, rfl, run_takeDeferred HDF.out, ?_⟩⟩
    exact ⟨_, results_none rfl _ _ _, ⟨_, rfl⟩, .inr (HK.out.2 _ _ HJ.out (Apart.put _ _ (by omega)))⟩
end Go.Proofs.YtefiobfljhmkkaaGreatDoor
