/- FaultWraps returns true for all names and descriptions and changes no memory that was there. Conditions: the variable errors.errorType holds the type error; the numbers are ints. -/
import Derived.Test.YtenfchkellkifaaDoorOthers
namespace Go.Proofs.YtenfchkellkifaaDoor
open Go.RowKit Go.Extern.Stop Go.Stop Go.Extern

theorem Unwrap_named (k : Nat) (t : TypeId) (u : Value) (w : World) (h1 : w.cell? ⟨k, 1, none⟩ = some (.iface t u)) :
    Calls Tryd.prog 23 #[.iface 66 (.pointer (some ⟨k, 0, none⟩))] w (fun e w' => e = .returned (.iface t u) ∧ w = w') := by
  have g1 := hasUn_named
  have m1 := un_named
  have K := Lib.hid (unwrap_named k _ w h1)
  go_enter Tryd.func23, Tryd.ntmps23
  go_wp2_with fail
  refine K.out.mono ?_
  rintro e w' ⟨rfl, rfl⟩
  go_wp2_with fail
  go_ret
  exact ⟨rfl, rfl⟩

set_option maxRecDepth 100000 in
theorem wraps_far (n : ByteArray) (E : EData) (s : Value) (w : World) (hg : ErrT w) (h : NamesAt w s E.names) (hf : fewB E.names = false ∨ 100 < n.size) :
    Calls Tryd.prog 6 #[.string n, errV E s] w (IsEnd true w) := by
  have hb := box_new w (.bool E.isNil) (.int .i64 E.code) (.bool E.has) (.int .i64 E.off) s 36
  have k1 := few_any E s _ (h.below hb.1)
  unfold errV at k1
  have K1 := Lib.hid k1; clear k1
  have K2 := Lib.hid (fun wx (hx : Below w.heap.size w wx) => alive_any wx (hg.here hx))
  have Hbox := Lib.hid hb; clear hb
  have Hg := Lib.hid hg; clear hg
  obtain ⟨p, cap, rfl, hl, hn⟩ := h
  clear hl hn
  unfold errV
  go_enter Tryd.func6, Tryd.ntmps6
  go_wp2_with fail
  refine K1.out.mono ?_
  rintro e w1 ⟨rfl, h1⟩
  have Hbox1 := Lib.hid (box_call Hbox.out h1); clear h1
  have A1 := Lib.hid (K2.out w1 Hbox1.out.1)
  cases hq : fewB E.names with
  | false =>
    have HQ := Lib.hid hq; clear hq
    have HF := Lib.hid hf; clear hf
    go_wp2_with fail
    refine A1.out.mono ?_
    rintro e w2 ⟨rfl, h2⟩
    have H2 := Lib.hid (keep_below Hbox1.out.1 (Nat.le_refl _) h2); clear h2
    go_wp2_with fail
    go_ret
    exact ⟨rfl, H2.out⟩
  | true =>
    have h1 : 100 < n.size := by simpa [hq] using hf
    have hd : decide ((100 : Int) < (n.size : Int)) = true := by simp; omega
    have HQ := Lib.hid hq; clear hq
    have HF := Lib.hid hf; clear hf
    clear h1
    go_wp2_with fail
    refine A1.out.mono ?_
    rintro e w2 ⟨rfl, h2⟩
    have H2 := Lib.hid (keep_below Hbox1.out.1 (Nat.le_refl _) h2); clear h2
    go_wp2_with fail
    go_ret
    exact ⟨rfl, H2.out⟩

set_option maxRecDepth 100000 in
set_option maxHeartbeats 4000000 in
theorem wraps_nil (n : ByteArray) (has : Bool) (code off : Int) (ns : List ByteArray) (s : Value) (w : World) (hg : ErrT w) (h : NamesAt w s ns) (hq : fewB ns = true) (hn : ¬ 100 < n.size) (hc : code ≤ 9223372036854775807) :
    Calls Tryd.prog 6 #[.string n, errV ⟨true, code, has, off, ns⟩ s] w (IsEnd true w) := by
  have hb := box_new w (.bool true) (.int .i64 code) (.bool has) (.int .i64 off) s 36
  have k1 := few_any ⟨true, code, has, off, ns⟩ s _ (h.below hb.1)
  have k3 := fun wx (hx : Below w.heap.size w wx) => build_any ⟨true, code, has, off, ns⟩ s wx (h.below hx)
  obtain ⟨TT, hTT⟩ : ∃ TT, textOf (baseOf ⟨true, code, has, off, ns⟩) ⟨#[]⟩ ns.reverse = TT := ⟨_, rfl⟩
  have hsz : TT.size ≤ 10000 := by
    have := text_bound ⟨true, code, has, off, ns⟩ hc hq ns.length
    simp only [List.take_length] at this
    rw [← hTT]; exact this
  have k4 : ∀ wx, Below w.heap.size w wx → Calls Tryd.prog 20 #[errV ⟨true, code, has, off, ns⟩ s] wx (TextB TT wx) := fun wx hx => by
    rw [← hTT]; exact refText_any ⟨true, code, has, off, ns⟩ s wx (h.below hx) hc hq
  have HTT := Lib.hid hTT; clear hTT
  have K2 := Lib.hid (fun wx (hx : Below w.heap.size w wx) => alive_any wx (hg.here hx))
  simp only at k1
  rw [hq] at k1
  unfold errV at k1 k3 k4
  have K1 := Lib.hid k1; clear k1
  have K3 := Lib.hid k3; clear k3
  have K4 := Lib.hid k4; clear k4
  have Hbox := Lib.hid hb; clear hb
  have Hg := Lib.hid hg; clear hg
  have HQ := Lib.hid hq; clear hq
  have HC := Lib.hid hc; clear hc
  obtain ⟨p, cap, rfl, hl, hns⟩ := h
  clear hl hns
  have hd : decide ((100 : Int) < (n.size : Int)) = false := by simp; omega
  have hc1 : ¬ 9223372036854775807 < n.size + 2 := by omega
  have hc2 : ¬ 9223372036854775807 < n.size + 2 + TT.size := by omega
  have HN := Lib.hid hn; clear hn
  unfold errV
  go_enter Tryd.func6, Tryd.ntmps6
  go_wp2_with fail
  refine K1.out.mono ?_
  rintro e w1 ⟨rfl, h1⟩
  have Hbox1 := Lib.hid (box_call Hbox.out h1); clear h1
  have hb1 := Hbox1.out
  go_wp2_with fail
  refine (K3.out w1 Hbox1.out.1).mono ?_
  rintro e w2 ⟨v, rfl, h2, hv⟩
  clear hb1
  have Hbox2 := Lib.hid (box_call Hbox1.out h2); clear h2
  obtain rfl : v = .nilIface := hv
  have KN := Lib.hid (wrap_nil n w2)
  have A1 := Lib.hid (K2.out w2 Hbox2.out.1)
  have hb2 := Hbox2.out
  go_wp2_with fail
  refine KN.out.mono ?_
  rintro e w3 ⟨rfl, rfl⟩
  go_wp2_with fail
  refine A1.out.mono ?_
  rintro e w4 ⟨rfl, h4⟩
  have H4 := Lib.hid (keep_below Hbox2.out.1 (Nat.le_refl _) h4); clear h4
  clear hb2
  go_wp2_with fail
  go_ret
  exact ⟨rfl, H4.out⟩

set_option maxRecDepth 100000 in
set_option maxHeartbeats 4000000 in
theorem wraps_has (n : ByteArray) (code off : Int) (ns : List ByteArray) (s : Value) (w : World) (hg : ErrT w) (h : NamesAt w s ns) (hq : fewB ns = true) (hn : ¬ 100 < n.size) (hc : code ≤ 9223372036854775807) :
    Calls Tryd.prog 6 #[.string n, errV ⟨false, code, true, off, ns⟩ s] w (IsEnd true w) := by
  have hb := box_new w (.bool false) (.int .i64 code) (.bool true) (.int .i64 off) s 36
  have k1 := few_any ⟨false, code, true, off, ns⟩ s _ (h.below hb.1)
  have k3 := fun wx (hx : Below w.heap.size w wx) => build_any ⟨false, code, true, off, ns⟩ s wx (h.below hx)
  obtain ⟨TT, hTT⟩ : ∃ TT, textOf (baseOf ⟨false, code, true, off, ns⟩) ⟨#[]⟩ ns.reverse = TT := ⟨_, rfl⟩
  have hsz : TT.size ≤ 10000 := by
    have := text_bound ⟨false, code, true, off, ns⟩ hc hq ns.length
    simp only [List.take_length] at this
    rw [← hTT]; exact this
  have k4 : ∀ wx, Below w.heap.size w wx → Calls Tryd.prog 20 #[errV ⟨false, code, true, off, ns⟩ s] wx (TextB TT wx) := fun wx hx => by
    rw [← hTT]; exact refText_any ⟨false, code, true, off, ns⟩ s wx (h.below hx) hc hq
  have HTT := Lib.hid hTT; clear hTT
  have K2 := Lib.hid (fun wx (hx : Below w.heap.size w wx) => alive_any wx (hg.here hx))
  simp only at k1
  rw [hq] at k1
  unfold errV at k1 k3 k4
  have K1 := Lib.hid k1; clear k1
  have K3 := Lib.hid k3; clear k3
  have K4 := Lib.hid k4; clear k4
  have Hbox := Lib.hid hb; clear hb
  have Hg := Lib.hid hg; clear hg
  have HQ := Lib.hid hq; clear hq
  have HC := Lib.hid hc; clear hc
  obtain ⟨p, cap, rfl, hl, hns⟩ := h
  clear hl hns
  have hd : decide ((100 : Int) < (n.size : Int)) = false := by simp; omega
  have hc1 : ¬ 9223372036854775807 < n.size + 2 := by omega
  have hc2 : ¬ 9223372036854775807 < n.size + 2 + TT.size := by omega
  have HN := Lib.hid hn; clear hn
  unfold errV
  go_enter Tryd.func6, Tryd.ntmps6
  go_wp2_with fail
  refine K1.out.mono ?_
  rintro e w1 ⟨rfl, h1⟩
  have Hbox1 := Lib.hid (box_call Hbox.out h1); clear h1
  have hb1 := Hbox1.out
  go_wp2_with fail
  refine (K3.out w1 Hbox1.out.1).mono ?_
  rintro e w2 ⟨v, rfl, h2, hv⟩
  clear hb1
  have Hbox2 := Lib.hid (box_call Hbox1.out h2); clear h2
  have hv : ErrV w2.heap.size w2 (baseOf ⟨false, code, true, off, ns⟩) ⟨#[]⟩ ns.reverse v := hv
  have KW := Lib.hid (wrap_err n w2 hv)
  have hb2 := Hbox2.out
  go_wp2_with fail
  refine KW.out.mono ?_
  rintro e w3 ⟨v', rfl, hv', h3⟩
  clear hb2
  have Hbox3 := Lib.hid (box_call Hbox2.out h3); clear h3
  have HV := Lib.hid hv'
  have hsays := says_err (baseOf ⟨false, code, true, off, ns⟩) ⟨#[]⟩ w3 (by decide) (codeOk_base ⟨false, code, true, off, ns⟩ HC.out) (n :: ns.reverse) v' (fun m hm => by
      rcases List.mem_cons.1 hm with rfl | hm
      · have := HN.out; omega
      · exact (few_spec HQ.out).1 m (List.mem_reverse.1 hm)) (by have := (few_spec HQ.out).2; simp; omega) HV.out
  have htx : textOf (baseOf ⟨false, code, true, off, ns⟩) ⟨#[]⟩ (n :: ns.reverse) = (n ++ ⟨#[58, 32]⟩) ++ TT := by
    show (n ++ ⟨#[58, 32]⟩) ++ textOf (baseOf ⟨false, code, true, off, ns⟩) ⟨#[]⟩ ns.reverse = _
    rw [HTT.out]
  rw [htx] at hsays
  clear htx
  obtain ⟨k, u, rfl, hk, hk0, hk1, hu⟩ := hv'
  obtain ⟨tu, xu, rfl⟩ := hu.not_nil
  clear hu hk hk0
  obtain ⟨ty, x, F, y, hxe, hme, hce, hkk⟩ := hsays
  obtain ⟨rfl, rfl⟩ : ty = 66 ∧ x = .pointer (some ⟨k, 0, none⟩) := by
    simp only [Value.iface.injEq] at hxe
    exact ⟨hxe.1.symm, hxe.2.symm⟩
  clear hxe
  have HK1 := Lib.hid hk1; clear hk1
  have A2 := Lib.hid hkk; clear hkk
  have A3 := Lib.hid (fun wx (hx : Below w3.heap.size w3 wx) => K4.out wx (keep_below Hbox3.out.1 (Nat.le_refl _) hx))
  have a4 : ∀ wx, Below w3.heap.size w3 wx → Calls Tryd.prog 11 #[.iface 66 (.pointer (some ⟨k, 0, none⟩)), .iface 25 (.int .i64 code)] wx (IsEnd true wx) := fun wx hx => by
    have := Is_any code (baseOf ⟨false, code, true, off, ns⟩) ⟨#[]⟩ (n :: ns.reverse) _ wx (HV.out.below hx hx.size)
    have e : codeIs code (baseOf ⟨false, code, true, off, ns⟩) = true := by simp [codeIs, baseOf]
    rw [e] at this
    exact this
  have A4 := Lib.hid a4; clear a4
  have hb3 := box_call (W := w3) ⟨Below.refl _ _, Hbox3.out.2⟩ (Below.refl _ _)
  go_wp2_with fail
  go_region_held3 (fun w' => Below w3.heap.size w3 w' ∧ w'.cell? ⟨w.heap.size, 0, none⟩ = some (.bool false) ∧ w'.cell? ⟨w.heap.size, 1, none⟩ = some (.int .i64 code) ∧ w'.cell? ⟨w.heap.size, 2, none⟩ = some (.bool true) ∧ w'.cell? ⟨w.heap.size, 3, none⟩ = some (.int .i64 off) ∧ w'.cell? ⟨w.heap.size, 4, none⟩ = some (.slice p ns.length cap))
    (first
      | exact box_call (by assumption) (by assumption)
      | exact box_drew (by assumption))
    (first
      | (go_at_call 20; rename_i hS _ _; refine (A3.out _ hS.1).mono ?_; rintro en w' ⟨rfl, hb4'⟩; have hb4 := Lib.hid hb4'; clear hb4')
      | (go_at_call 11; rename_i hS _ _; refine (A4.out _ hS.1).mono ?_; rintro en w' ⟨rfl, hb4'⟩; have hb4 := Lib.hid hb4'; clear hb4')
      | (rename_i hS _ _; refine (A2.out _ hS.1).mono ?_; rintro en w' ⟨rfl, hb4'⟩; have hb4 := Lib.hid hb4'; clear hb4'))
  clear hb3
  rename_i hE
  clear hme hce
  obtain ⟨w4, rfl⟩ : ∃ w4 : World, w4 = w' := ⟨_, rfl⟩
  have Hbox4 := Lib.hid (box_call (W := w) ⟨keep_below Hbox3.out.1 (Nat.le_refl _) hE.1, hE.2⟩ (Below.refl _ _))
  have H34 := Lib.hid hE.1; clear hE
  have hT4 : ErrT w4 := Hg.out.here Hbox4.out.1
  have hB5 : Below w4.heap.size w4 (w4.alloc (.cells #[.int .i64 0, .int .i64 0] 28)) := (Below.refl _ _).alloc (Nat.le_refl _) _
  have KA := Lib.hid (As_fault (baseOf ⟨false, code, true, off, ns⟩) ⟨#[]⟩ (n :: ns.reverse) _ w4.heap.size (.int .i64 0) (.int .i64 0) (w4.alloc (.cells #[.int .i64 0, .int .i64 0] 28)) (hT4.here hB5)
    ((HV.out.below H34.out H34.out.size).below hB5 (Nat.le_refl _)) (by simp) (by simp) (by simp) (by simp) hT4.lt)
  have HB5 := Lib.hid hB5; clear hB5
  have HT4 := Lib.hid hT4; clear hT4
  go_wp2_with fail
  refine KA.out.mono ?_
  intro e w5 he
  have he1 : e = .returned (.bool true) ∧ Below w4.heap.size (w4.alloc (.cells #[.int .i64 0, .int .i64 0] 28)) w5 ∧ w5.cell? ⟨w4.heap.size, 0, none⟩ = some (.int .i64 code) ∧ w5.cell? ⟨w4.heap.size, 1, none⟩ = some (.int .i64 off) := he
  obtain ⟨rfl, h5, c0, c1⟩ := he1
  clear he
  have H45 := Lib.hid (HB5.out.trans h5); clear h5
  have Hbox5 := Lib.hid (box_call Hbox4.out H45.out)
  have A5 := Lib.hid (alive_any w5 (HT4.out.here H45.out))
  have KU := Lib.hid (fun wx (hx : Below w5.heap.size w5 wx) => Unwrap_named k tu xu wx (keep_cell (keep_cell (keep_cell HK1.out H34.out) H45.out) hx))
  have hb5 := Hbox5.out
  go_wp2_with fail
  refine A5.out.mono ?_
  rintro e w6 ⟨rfl, h6⟩
  have d0 := keep_cell c0 h6
  have d1 := keep_cell c1 h6
  have H56 := Lib.hid h6; clear h6
  have Hbox6 := Lib.hid (box_call Hbox5.out H56)
  clear hb5
  have hb6 := Hbox6.out
  go_wp2_with fail
  refine (KU.out w6 H56.out).mono ?_
  rintro e w7 ⟨rfl, rfl⟩
  go_wp2_with fail
  go_ret
  exact ⟨rfl, Hbox6.out.1⟩

set_option maxRecDepth 100000 in
set_option maxHeartbeats 4000000 in
theorem wraps_code (n : ByteArray) (code off : Int) (ns : List ByteArray) (s : Value) (w : World) (hg : ErrT w) (h : NamesAt w s ns) (hq : fewB ns = true) (hn : ¬ 100 < n.size) (hc : code ≤ 9223372036854775807) :
    Calls Tryd.prog 6 #[.string n, errV ⟨false, code, false, off, ns⟩ s] w (IsEnd true w) := by
  have hb := box_new w (.bool false) (.int .i64 code) (.bool false) (.int .i64 off) s 36
  have k1 := few_any ⟨false, code, false, off, ns⟩ s _ (h.below hb.1)
  have k3 := fun wx (hx : Below w.heap.size w wx) => build_any ⟨false, code, false, off, ns⟩ s wx (h.below hx)
  obtain ⟨TT, hTT⟩ : ∃ TT, textOf (baseOf ⟨false, code, false, off, ns⟩) ⟨#[]⟩ ns.reverse = TT := ⟨_, rfl⟩
  have hsz : TT.size ≤ 10000 := by
    have := text_bound ⟨false, code, false, off, ns⟩ hc hq ns.length
    simp only [List.take_length] at this
    rw [← hTT]; exact this
  have k4 : ∀ wx, Below w.heap.size w wx → Calls Tryd.prog 20 #[errV ⟨false, code, false, off, ns⟩ s] wx (TextB TT wx) := fun wx hx => by
    rw [← hTT]; exact refText_any ⟨false, code, false, off, ns⟩ s wx (h.below hx) hc hq
  have HTT := Lib.hid hTT; clear hTT
  have K2 := Lib.hid (fun wx (hx : Below w.heap.size w wx) => alive_any wx (hg.here hx))
  simp only at k1
  rw [hq] at k1
  unfold errV at k1 k3 k4
  have K1 := Lib.hid k1; clear k1
  have K3 := Lib.hid k3; clear k3
  have K4 := Lib.hid k4; clear k4
  have Hbox := Lib.hid hb; clear hb
  have Hg := Lib.hid hg; clear hg
  have HQ := Lib.hid hq; clear hq
  have HC := Lib.hid hc; clear hc
  obtain ⟨p, cap, rfl, hl, hns⟩ := h
  clear hl hns
  have hd : decide ((100 : Int) < (n.size : Int)) = false := by simp; omega
  have hc1 : ¬ 9223372036854775807 < n.size + 2 := by omega
  have hc2 : ¬ 9223372036854775807 < n.size + 2 + TT.size := by omega
  have HN := Lib.hid hn; clear hn
  unfold errV
  go_enter Tryd.func6, Tryd.ntmps6
  go_wp2_with fail
  refine K1.out.mono ?_
  rintro e w1 ⟨rfl, h1⟩
  have Hbox1 := Lib.hid (box_call Hbox.out h1); clear h1
  have hb1 := Hbox1.out
  go_wp2_with fail
  refine (K3.out w1 Hbox1.out.1).mono ?_
  rintro e w2 ⟨v, rfl, h2, hv⟩
  clear hb1
  have Hbox2 := Lib.hid (box_call Hbox1.out h2); clear h2
  have hv : ErrV w2.heap.size w2 (baseOf ⟨false, code, false, off, ns⟩) ⟨#[]⟩ ns.reverse v := hv
  have KW := Lib.hid (wrap_err n w2 hv)
  have hb2 := Hbox2.out
  go_wp2_with fail
  refine KW.out.mono ?_
  rintro e w3 ⟨v', rfl, hv', h3⟩
  clear hb2
  have Hbox3 := Lib.hid (box_call Hbox2.out h3); clear h3
  have HV := Lib.hid hv'
  have hsays := says_err (baseOf ⟨false, code, false, off, ns⟩) ⟨#[]⟩ w3 (by decide) (codeOk_base ⟨false, code, false, off, ns⟩ HC.out) (n :: ns.reverse) v' (fun m hm => by
      rcases List.mem_cons.1 hm with rfl | hm
      · have := HN.out; omega
      · exact (few_spec HQ.out).1 m (List.mem_reverse.1 hm)) (by have := (few_spec HQ.out).2; simp; omega) HV.out
  have htx : textOf (baseOf ⟨false, code, false, off, ns⟩) ⟨#[]⟩ (n :: ns.reverse) = (n ++ ⟨#[58, 32]⟩) ++ TT := by
    show (n ++ ⟨#[58, 32]⟩) ++ textOf (baseOf ⟨false, code, false, off, ns⟩) ⟨#[]⟩ ns.reverse = _
    rw [HTT.out]
  rw [htx] at hsays
  clear htx
  obtain ⟨k, u, rfl, hk, hk0, hk1, hu⟩ := hv'
  obtain ⟨tu, xu, rfl⟩ := hu.not_nil
  clear hu hk hk0
  obtain ⟨ty, x, F, y, hxe, hme, hce, hkk⟩ := hsays
  obtain ⟨rfl, rfl⟩ : ty = 66 ∧ x = .pointer (some ⟨k, 0, none⟩) := by
    simp only [Value.iface.injEq] at hxe
    exact ⟨hxe.1.symm, hxe.2.symm⟩
  clear hxe
  have HK1 := Lib.hid hk1; clear hk1
  have A2 := Lib.hid hkk; clear hkk
  have A3 := Lib.hid (fun wx (hx : Below w3.heap.size w3 wx) => K4.out wx (keep_below Hbox3.out.1 (Nat.le_refl _) hx))
  have a4 : ∀ wx, Below w3.heap.size w3 wx → Calls Tryd.prog 11 #[.iface 66 (.pointer (some ⟨k, 0, none⟩)), .iface 25 (.int .i64 code)] wx (IsEnd true wx) := fun wx hx => by
    have := Is_any code (baseOf ⟨false, code, false, off, ns⟩) ⟨#[]⟩ (n :: ns.reverse) _ wx (HV.out.below hx hx.size)
    have e : codeIs code (baseOf ⟨false, code, false, off, ns⟩) = true := by simp [codeIs, baseOf]
    rw [e] at this
    exact this
  have A4 := Lib.hid a4; clear a4
  have hb3 := box_call (W := w3) ⟨Below.refl _ _, Hbox3.out.2⟩ (Below.refl _ _)
  go_wp2_with fail
  go_region_held3 (fun w' => Below w3.heap.size w3 w' ∧ w'.cell? ⟨w.heap.size, 0, none⟩ = some (.bool false) ∧ w'.cell? ⟨w.heap.size, 1, none⟩ = some (.int .i64 code) ∧ w'.cell? ⟨w.heap.size, 2, none⟩ = some (.bool false) ∧ w'.cell? ⟨w.heap.size, 3, none⟩ = some (.int .i64 off) ∧ w'.cell? ⟨w.heap.size, 4, none⟩ = some (.slice p ns.length cap))
    (first
      | exact box_call (by assumption) (by assumption)
      | exact box_drew (by assumption))
    (first
      | (go_at_call 20; rename_i hS _ _; refine (A3.out _ hS.1).mono ?_; rintro en w' ⟨rfl, hb4'⟩; have hb4 := Lib.hid hb4'; clear hb4')
      | (go_at_call 11; rename_i hS _ _; refine (A4.out _ hS.1).mono ?_; rintro en w' ⟨rfl, hb4'⟩; have hb4 := Lib.hid hb4'; clear hb4')
      | (rename_i hS _ _; refine (A2.out _ hS.1).mono ?_; rintro en w' ⟨rfl, hb4'⟩; have hb4 := Lib.hid hb4'; clear hb4'))
  clear hb3
  rename_i hE
  clear hme hce
  obtain ⟨w4, rfl⟩ : ∃ w4 : World, w4 = w' := ⟨_, rfl⟩
  have Hbox4 := Lib.hid (box_call (W := w) ⟨keep_below Hbox3.out.1 (Nat.le_refl _) hE.1, hE.2⟩ (Below.refl _ _))
  have H34 := Lib.hid hE.1; clear hE
  have hT4 : ErrT w4 := Hg.out.here Hbox4.out.1
  have hB5 : Below w4.heap.size w4 (w4.alloc (.cells #[.int .i64 0, .int .i64 0] 28)) := (Below.refl _ _).alloc (Nat.le_refl _) _
  have KA := Lib.hid (As_fault (baseOf ⟨false, code, false, off, ns⟩) ⟨#[]⟩ (n :: ns.reverse) _ w4.heap.size (.int .i64 0) (.int .i64 0) (w4.alloc (.cells #[.int .i64 0, .int .i64 0] 28)) (hT4.here hB5)
    ((HV.out.below H34.out H34.out.size).below hB5 (Nat.le_refl _)) (by simp) (by simp) (by simp) (by simp) hT4.lt)
  have HB5 := Lib.hid hB5; clear hB5
  have HT4 := Lib.hid hT4; clear hT4
  go_wp2_with fail
  refine KA.out.mono ?_
  intro e w5 he
  have he1 : e = .returned (.bool false) ∧ Below w4.heap.size (w4.alloc (.cells #[.int .i64 0, .int .i64 0] 28)) w5 := he
  obtain ⟨rfl, h5⟩ := he1
  clear he
  have H45 := Lib.hid (HB5.out.trans h5); clear h5
  have Hbox5 := Lib.hid (box_call Hbox4.out H45.out)
  have A5 := Lib.hid (alive_any w5 (HT4.out.here H45.out))
  have KU := Lib.hid (fun wx (hx : Below w5.heap.size w5 wx) => Unwrap_named k tu xu wx (keep_cell (keep_cell (keep_cell HK1.out H34.out) H45.out) hx))
  have hb5 := Hbox5.out
  go_wp2_with fail
  refine A5.out.mono ?_
  rintro e w6 ⟨rfl, h6⟩
  have H56 := Lib.hid h6; clear h6
  have Hbox6 := Lib.hid (box_call Hbox5.out H56)
  clear hb5
  have hb6 := Hbox6.out
  go_wp2_with fail
  refine (KU.out w6 H56.out).mono ?_
  rintro e w7 ⟨rfl, rfl⟩
  go_wp2_with fail
  go_ret
  exact ⟨rfl, Hbox6.out.1⟩

theorem wraps_any (n : ByteArray) (E : EData) (s : Value) (w : World) (hg : ErrT w) (h : NamesAt w s E.names) (hc : E.code ≤ 9223372036854775807) :
    Calls Tryd.prog 6 #[.string n, errV E s] w (IsEnd true w) := by
  by_cases hn : 100 < n.size
  · exact wraps_far n E s w hg h (Or.inr hn)
  · cases hq : fewB E.names with
    | false => exact wraps_far n E s w hg h (Or.inl hq)
    | true =>
      obtain ⟨nil, code, has, off, ns⟩ := E
      cases nil with
      | true => exact wraps_nil n has code off ns s w hg h hq hn hc
      | false =>
        cases has with
        | true => exact wraps_has n code off ns s w hg h hq hn hc
        | false => exact wraps_code n code off ns s w hg h hq hn hc
end Go.Proofs.YtenfchkellkifaaDoor
