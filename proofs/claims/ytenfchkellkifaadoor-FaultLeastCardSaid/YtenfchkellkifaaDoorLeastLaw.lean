/- FaultLeast returns true for all lists of descriptions and changes no memory that was there. Conditions: the variable errors.errorType holds the type error; the numbers are ints. -/
import Derived.Test.YtenfchkellkifaaDoorOwn
namespace Go.Proofs.YtenfchkellkifaaDoor
open Go.RowKit Go.Extern.Stop Go.Stop Go.Extern

theorem least_long (n : Nat) (p : Option Addr) (cap : Nat) (w : World) (hg : ErrT w) (hl : 30 < n) :
    Calls Tryd.prog 8 #[.slice p n cap] w (IsEnd true w) := by
  have hd : decide ((30 : Int) < (n : Int)) = true := by simp; omega
  have K := Lib.hid (alive_any w hg)
  have HL := Lib.hid hl; clear hl
  have Hg := Lib.hid hg; clear hg
  go_enter Tryd.func8, Tryd.ntmps8
  go_wp2_with fail
  refine K.out.mono ?_
  rintro e w1 ⟨rfl, h1⟩
  have H1 := Lib.hid h1; clear h1
  go_wp2_with fail
  go_ret
  exact ⟨rfl, H1.out⟩

theorem infoErr : (Tryd.prog.info? 23).map (fun i => (i.zero, i.size, i.bytes)) = some (some .nilIface, 1, 16) := by kernel_rfl

/-- What Least and the reference find: nothing, or the same index. -/
theorem found_cases (D : Nat → EData) (n : Nat) (vv : Nat → Value) :
    (leastV vv (bestTo (AOf D) n) (firstTo (NOf D) n) = .nilIface ∧ leastI (bestTo (AOf D) n) (firstTo (NOf D) n) = -1) ∨
    ∃ j, j < n ∧ leastV vv (bestTo (AOf D) n) (firstTo (NOf D) n) = vv j ∧ leastI (bestTo (AOf D) n) (firstTo (NOf D) n) = j ∧ (D j).isNil = false := by
  have nn : ∀ j, NOf D j = true → (D j).isNil = false := fun j h => by
    cases hq : (D j).isNil with
    | false => rfl
    | true => simp [NOf, eOf, hq] at h
  cases hb : bestTo (AOf D) n with
  | some y =>
    obtain ⟨j, b⟩ := y
    obtain ⟨h1, h2⟩ := bestTo_lt _ _ _ _ hb
    refine Or.inr ⟨j, h1, rfl, rfl, nn j ?_⟩
    cases hq : eOf (D j) with
    | none => simp [AOf, hq, atOf] at h2
    | some z => simp [NOf, hq]
  | none =>
    cases hf : firstTo (NOf D) n with
    | some j =>
      obtain ⟨h1, h2⟩ := firstTo_lt _ _ _ hf
      exact Or.inr ⟨j, h1, rfl, rfl, nn j h2⟩
    | none => exact Or.inl ⟨rfl, rfl⟩

set_option maxRecDepth 100000 in
set_option maxHeartbeats 8000000 in
theorem least_short (n : Nat) (D : Nat → EData) (v : Value) (w : World) (hg : ErrT w) (h : DescsAt w v n D) (hl : ¬ 30 < n) :
    Calls Tryd.prog 8 #[v] w (IsEnd true w) := by
  have hd : decide ((30 : Int) < (n : Int)) = false := by simp; omega
  have KR := Lib.hid (fun wx (hx : Below w.heap.size w wx) => refLeast_any n D v wx (h.below hx) (by omega))
  have KA := Lib.hid (fun wx (hx : Below w.heap.size w wx) => alive_any wx (hg.here hx))
  have Hg := Lib.hid hg; clear hg
  have HD := Lib.hid h
  obtain ⟨p, cap, rfl, _, hc⟩ := h
  have HC := Lib.hid hc; clear hc
  have hn30 : n ≤ 30 := by omega
  clear hl
  have Start := Lib.hid (show Built D 0 [] (.slice none 0 0) w w from ⟨rfl, fun k hk => absurd hk (Nat.not_lt_zero _), World.ownsRow_nil _ _ _ _, fun _ => rfl, fun k hk => absurd hk (Nat.not_lt_zero _), Below.refl _ _⟩)
  obtain ⟨i0, hi0, hz0, hz1, hz2⟩ := info_parts infoErr
  have HI0 := Lib.hid hi0; clear hi0
  have HZ0 := Lib.hid hz0; clear hz0
  have HZ1 := Lib.hid hz1; clear hz1
  have HZ2 := Lib.hid hz2; clear hz2
  go_enter Tryd.func8, Tryd.ntmps8
  go_wp2_with fail
  go_loopg [3, 14] (n + 1) (fun g errs j wr => ∃ (i : Nat) (vs : List Value), j = .int .i64 i ∧ i ≤ n ∧ n + 1 - i ≤ g ∧ Built D i vs errs w wr)
  case atStart => exact ⟨0, [], rfl, Nat.zero_le _, by omega, Start.out⟩
  case round =>
    obtain ⟨i, vs, rfl, hi, hgk, hbu⟩ := hrel
    have HBu := Lib.hid hbu; clear hbu
    by_cases hlt : i < n
    · have hi63 : (i : Int) + 1 ≤ 9223372036854775807 := by omega
      obtain ⟨b, o, rfl, hbs, hc⟩ := HC.out (by omega)
      obtain ⟨s, c0, c1, c2, c3, c4, hnm, hcode⟩ := hc i hlt
      clear hc
      have k0 := (HBu.out.below.cell (p := ⟨b, o + i * 5, none⟩) hbs).trans c0
      have k1 := (HBu.out.below.cell (p := ⟨b, o + i * 5 + 1, none⟩) hbs).trans c1
      have k2 := (HBu.out.below.cell (p := ⟨b, o + i * 5 + 2, none⟩) hbs).trans c2
      have k3 := (HBu.out.below.cell (p := ⟨b, o + i * 5 + 3, none⟩) hbs).trans c3
      have k4 := (HBu.out.below.cell (p := ⟨b, o + i * 5 + 4, none⟩) hbs).trans c4
      clear c0 c1 c2 c3 c4 hbs
      have hb := box_new wr (.bool (D i).isNil) (.int .i64 (D i).code) (.bool (D i).has) (.int .i64 (D i).off) s 36
      have hnw := (hnm.below HBu.out.below)
      have q1 := few_any (D i) s _ (hnw.below hb.1)
      have q3 := fun wx (hx : Below wr.heap.size wr wx) => build_any (D i) s wx (hnw.below hx)
      unfold errV at q1 q3
      have K1 := Lib.hid q1; clear q1
      have K3 := Lib.hid q3; clear q3
      have Hbox := Lib.hid hb; clear hb
      have HNw := Lib.hid hnw; clear hnw
      have HNm := Lib.hid hnm; clear hnm
      have HCo := Lib.hid hcode; clear hcode
      have hs4 : ∃ p' n' c', s = .slice p' n' c' := by obtain ⟨p', c', e, _⟩ := HNm.out; exact ⟨_, _, _, e⟩
      obtain ⟨p', n', c', rfl⟩ := hs4
      go_wp2_with fail
      refine K1.out.mono ?_
      rintro e w1 ⟨rfl, h1⟩
      have HBu1 := Lib.hid ((HBu.out.call Hbox.out.1).call h1)
      have Hbox1 := Lib.hid (box_call Hbox.out h1); clear h1
      have hb1 := Hbox1.out
      cases hf : fewB (D i).names with
      | false =>
        have HF := Lib.hid hf; clear hf
        have A1 := Lib.hid (KA.out w1 HBu1.out.below)
        go_wp2_with fail
        refine A1.out.mono ?_
        rintro e w2 ⟨rfl, h2⟩
        have H2 := Lib.hid (keep_below HBu1.out.below (Nat.le_refl _) h2); clear h2
        go_wp2_with fail
        go_ret
        exact ⟨rfl, H2.out⟩
      | true =>
        have HF := Lib.hid hf; clear hf
        go_wp2_with fail
        refine (K3.out w1 Hbox1.out.1).mono ?_
        rintro e w2 ⟨v', rfl, h2, hv'⟩
        clear hb1
        have hshape : v' = .nilIface ∨ ∃ a1 a2, v' = .iface a1 a2 := by
          cases hq : eOf (D i) with
          | none => rw [hq] at hv'; exact Or.inl hv'
          | some y => rw [hq] at hv'; exact Or.inr (ErrV.not_nil hv')
        rcases hshape with rfl | ⟨a1, a2, rfl⟩
        · have HBu2 := Lib.hid ((HBu1.out.call h2).call ((Below.refl _ _).alloc (Nat.le_refl _) (.cells #[.nilIface] 23))); clear h2
          have HV := Lib.hid (hv'.below ((Below.refl _ _).alloc (Nat.le_refl _) (.cells #[.nilIface] 23))); clear hv'
          go_wp2_with (at_builtin; refine wpList_append_own _ rfl (.tmp 22) (.tmp 25) 53 rfl w.heap.size 23 i0 .nilIface 1 16 Tryd.underlying53 HI0.out HZ0.out HZ1.out HZ2.out rfl (by decide) _ i vs rfl HBu2.out.own ⟨w2.heap.size, 0, none⟩ 1 1 [.nilIface] rfl rfl ?c1 ?c2 ?c3 ?c4 ?c5 ?_)
          case c1 => exact cell_one_new _ _ _
          case c2 => intro u hu; rw [List.mem_singleton.1 hu]; rfl
          case c3 => unfold maxLen; omega
          case c4 => omega
          case c5 => exact HBu2.out.below.size
          intro errs' w4 hown hgrow _
          have HBu4 := Lib.hid (HBu2.out.append HF.out HV.out hown hgrow)
          clear hown hgrow
          go_wp2_with fail
          go_roundg (gk - 1)
          case measure => omega
          case rel => exact ⟨i + 1, vs ++ [.nilIface], by go_num, by omega, by omega, HBu4.out⟩
        · have HBu2 := Lib.hid ((HBu1.out.call h2).call ((Below.refl _ _).alloc (Nat.le_refl _) (.cells #[.iface a1 a2] 23))); clear h2
          have HV := Lib.hid (hv'.below ((Below.refl _ _).alloc (Nat.le_refl _) (.cells #[.iface a1 a2] 23))); clear hv'
          go_wp2_with (at_builtin; refine wpList_append_own _ rfl (.tmp 22) (.tmp 25) 53 rfl w.heap.size 23 i0 .nilIface 1 16 Tryd.underlying53 HI0.out HZ0.out HZ1.out HZ2.out rfl (by decide) _ i vs rfl HBu2.out.own ⟨w2.heap.size, 0, none⟩ 1 1 [.iface a1 a2] rfl rfl ?c1 ?c2 ?c3 ?c4 ?c5 ?_)
          case c1 => exact cell_one_new _ _ _
          case c2 => intro u hu; rw [List.mem_singleton.1 hu]; rfl
          case c3 => unfold maxLen; omega
          case c4 => omega
          case c5 => exact HBu2.out.below.size
          intro errs' w4 hown hgrow _
          have HBu4 := Lib.hid (HBu2.out.append HF.out HV.out hown hgrow)
          clear hown hgrow
          go_wp2_with fail
          go_roundg (gk - 1)
          case measure => omega
          case rel => exact ⟨i + 1, vs ++ [.iface a1 a2], by go_num, by omega, by omega, HBu4.out⟩
    · obtain rfl : i = n := by omega
      have HLt := Lib.hid hlt; clear hlt
      have hd0 : decide ((i : Int) < (i : Int)) = false := by simp
      have hTr : ErrT wr := Hg.out.here HBu.out.below
      have kl := least_any i (fun k => eOf (D k)) (fun k => (D k).names.reverse) (fun k => vs.getD k .nilIface) u3 wr hTr (HBu.out.slice (by omega))
      have kr := KR.out
      rcases found_cases D i (fun k => vs.getD k .nilIface) with ⟨e1, e2⟩ | ⟨j, hj, e1, e2, hnil⟩
      · have kl' : Calls Tryd.prog 25 #[u3] wr (LeastEnd .nilIface wr) := by rw [← e1]; exact kl
        rw [e2] at kr
        have KL := Lib.hid kl'; clear kl'
        have KR2 := Lib.hid kr; clear kr
        clear kl e1 e2 hTr
        go_wp2_with fail
        refine KL.out.mono ?_
        rintro e w1 ⟨rfl, h1⟩
        have H1 := Lib.hid (keep_below HBu.out.below (Nat.le_refl _) h1); clear h1
        go_wp2_with fail
        refine (KR2.out w1 H1.out).mono ?_
        rintro e w2 ⟨rfl, h2⟩
        have H2 := Lib.hid (keep_below H1.out (Nat.le_refl _) h2); clear h2
        go_wp2_with fail
        refine (KA.out w2 H2.out).mono ?_
        rintro e w3 ⟨rfl, h3⟩
        have H3 := Lib.hid (keep_below H2.out (Nat.le_refl _) h3); clear h3
        go_wp2_with fail
        go_ret
        exact ⟨rfl, H3.out⟩
      · have hej : eOf (D j) = some (baseOf (D j)) := by simp [eOf, hnil]
        have hev : ErrV wr.heap.size wr (baseOf (D j)) ⟨#[]⟩ (D j).names.reverse (vs.getD j .nilIface) := by
          have := HBu.out.errors j hj
          rw [hej] at this
          exact this
        have kl' : Calls Tryd.prog 25 #[u3] wr (LeastEnd (vs.getD j .nilIface) wr) := by rw [← e1]; exact kl
        rw [e2] at kr
        generalize hu : vs.getD j .nilIface = u at kl' hev
        clear kl e1 e2 hu
        have HEV := Lib.hid hev
        have HFew := Lib.hid (HBu.out.few j hj)
        obtain ⟨b, o, rfl, hbs, hc⟩ := HC.out (by omega)
        obtain ⟨s, c0, c1, c2, c3, c4, hnm, hcode⟩ := hc j hj
        clear hc
        have KL := Lib.hid kl'; clear kl'
        have KR2 := Lib.hid kr; clear kr
        obtain ⟨TT, hTT⟩ : ∃ TT, textOf (baseOf (D j)) ⟨#[]⟩ (D j).names.reverse = TT := ⟨_, rfl⟩
        have HTT := Lib.hid hTT; clear hTT
        have HCode := Lib.hid hcode; clear hcode
        have HNm := Lib.hid hnm; clear hnm
        have HEj := Lib.hid hej; clear hej
        have HNil := Lib.hid hnil; clear hnil
        have HRow := Lib.hid (show Below w.heap.size w w ∧ w.cell? ⟨b, o + j * 5, none⟩ = some (.bool (D j).isNil) ∧ w.cell? ⟨b, o + j * 5 + 1, none⟩ = some (.int .i64 (D j).code) ∧ w.cell? ⟨b, o + j * 5 + 2, none⟩ = some (.bool (D j).has) ∧ w.cell? ⟨b, o + j * 5 + 3, none⟩ = some (.int .i64 (D j).off) ∧ w.cell? ⟨b, o + j * 5 + 4, none⟩ = some s from ⟨Below.refl _ _, c0, c1, c2, c3, c4⟩)
        clear c0 c1 c2 c3 c4
        obtain ⟨tx, ux, rfl⟩ := hev.not_nil
        clear hev hTr
        go_wp2_with fail
        refine KL.out.mono ?_
        rintro e w1 ⟨rfl, h1⟩
        have HE1 := Lib.hid (HEV.out.below h1 h1.size)
        have H1 := Lib.hid (keep_below HBu.out.below (Nat.le_refl _) h1); clear h1
        go_wp2_with fail
        refine (KR2.out w1 H1.out).mono ?_
        rintro e w2 ⟨rfl, h2⟩
        have HE2 := Lib.hid (HE1.out.below h2 h2.size)
        have H2 := Lib.hid (keep_below H1.out (Nat.le_refl _) h2); clear h2
        have hT2 : ErrT w2 := Hg.out.here H2.out
        have hsays := says_err (baseOf (D j)) ⟨#[]⟩ w2 (by decide) (codeOk_base (D j) HCode.out) (D j).names.reverse _ (fun m hm => (few_spec HFew.out).1 m (List.mem_reverse.1 hm)) (by have := (few_spec HFew.out).2; simp; omega) HE2.out
        rw [HTT.out] at hsays
        obtain ⟨t', x', F, y, hxe, hme, hce, hk⟩ := hsays
        obtain ⟨rfl, rfl⟩ : t' = tx ∧ x' = ux := by
          simp only [Value.iface.injEq] at hxe
          exact ⟨hxe.1.symm, hxe.2.symm⟩
        clear hxe
        have hNm2 := HNm.out.below H2.out
        have hs4 : ∃ p' n' c', s = .slice p' n' c' := by obtain ⟨p', c', e, _⟩ := HNm.out; exact ⟨_, _, _, e⟩
        obtain ⟨p', n', c', rfl⟩ := hs4
        have A1 := Lib.hid (fun wx (hx : Below w2.heap.size w2 wx) => alive_any wx (hT2.here hx))
        have A2 := Lib.hid hk; clear hk
        have a3 : ∀ wx, Below w2.heap.size w2 wx → Calls Tryd.prog 20 #[errV (D j) (.slice p' n' c')] wx (TextB TT wx) := fun wx hx => by
          rw [← HTT.out]; exact refText_any (D j) _ wx (hNm2.below hx) HCode.out HFew.out
        have a4 : ∀ wx, Below w2.heap.size w2 wx → Calls Tryd.prog 12 #[.iface t' x'] wx (IntEnd (D j).code wx) := fun wx hx => Code_any (some (baseOf (D j))) ⟨#[]⟩ (D j).names.reverse (.iface t' x') wx (hT2.here hx) (HE2.out.below hx hx.size)
        have a5 : ∀ wx, Below w2.heap.size w2 wx → Calls Tryd.prog 13 #[.iface t' x'] wx (IntEnd ((atOf (eOf (D j))).getD (-1)) wx) := fun wx hx => by
          rw [HEj.out]; exact At_any (some (baseOf (D j))) ⟨#[]⟩ (D j).names.reverse (.iface t' x') wx (hT2.here hx) (HE2.out.below hx hx.size)
        have a6 := fun wx (hx : Below w2.heap.size w2 wx) => refAt_any (D j) _ wx (hNm2.below hx)
        unfold errV at a3 a6
        have A3 := Lib.hid a3; clear a3
        have A4 := Lib.hid a4; clear a4
        have A5 := Lib.hid a5; clear a5
        have A6 := Lib.hid a6; clear a6
        clear hT2 hNm2
        have hrow := row_call (W := w2) ⟨Below.refl _ _, (row_call HRow.out H2.out).2⟩ (Below.refl _ _)
        have hdj : decide ((j : Int) < 0) = false := by simp
        have hj0 : (0 : Int) ≤ (j : Int) := Int.natCast_nonneg _
        have hj1 : (j : Int) < (i : Int) := by omega
        go_wp2_with fail
        go_region_held3 (fun w' => Below w2.heap.size w2 w' ∧ w'.cell? ⟨b, o + j * 5, none⟩ = some (.bool (D j).isNil) ∧ w'.cell? ⟨b, o + j * 5 + 1, none⟩ = some (.int .i64 (D j).code) ∧ w'.cell? ⟨b, o + j * 5 + 2, none⟩ = some (.bool (D j).has) ∧ w'.cell? ⟨b, o + j * 5 + 3, none⟩ = some (.int .i64 (D j).off) ∧ w'.cell? ⟨b, o + j * 5 + 4, none⟩ = some (.slice p' n' c'))
          (first
            | exact row_call (by assumption) (by assumption)
            | exact row_drew (by assumption))
          (first
            | (go_at_call 10; rename_i hS _ _; refine (A1.out _ hS.1).mono ?_; rintro en w' ⟨rfl, hb4'⟩; have hb4 := Lib.hid hb4'; clear hb4')
            | (go_at_call 20; rename_i hS _ _; refine (A3.out _ hS.1).mono ?_; rintro en w' ⟨rfl, hb4'⟩; have hb4 := Lib.hid hb4'; clear hb4')
            | (go_at_call 12; rename_i hS _ _; refine (A4.out _ hS.1).mono ?_; rintro en w' ⟨rfl, hb4'⟩; have hb4 := Lib.hid hb4'; clear hb4')
            | (go_at_call 13; rename_i hS _ _; refine (A5.out _ hS.1).mono ?_; rintro en w' ⟨rfl, hb4'⟩; have hb4 := Lib.hid hb4'; clear hb4')
            | (go_at_call 17; rename_i hS _ _; refine (A6.out _ hS.1).mono ?_; rintro en w' ⟨rfl, hb4'⟩; have hb4 := Lib.hid hb4'; clear hb4')
            | (rename_i hS _ _; refine (A2.out _ hS.1).mono ?_; rintro en w' ⟨rfl, hb4'⟩; have hb4 := Lib.hid hb4'; clear hb4'))
        rename_i hE
        have HE := Lib.hid (keep_below H2.out (Nat.le_refl _) hE.1); clear hE hrow
        go_wp2_with fail
        go_ret
        exact ⟨rfl, HE.out⟩

theorem least_law (n : Nat) (D : Nat → EData) (v : Value) (w : World) (hg : ErrT w) (h : DescsAt w v n D) :
    Calls Tryd.prog 8 #[v] w (IsEnd true w) := by
  by_cases hl : 30 < n
  · obtain ⟨p, cap, rfl, _⟩ := h
    exact least_long n p cap w hg hl
  · exact least_short n D v w hg h hl
end Go.Proofs.YtenfchkellkifaaDoor
