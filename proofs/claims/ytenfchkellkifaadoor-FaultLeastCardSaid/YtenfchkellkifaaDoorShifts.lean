/- FaultShifts returns true for all descriptions and all int32 and changes no memory that was there. Conditions: the variable errors.errorType holds the type error; the numbers are ints. -/
import Derived.Test.YtenfchkellkifaaDoorReads
import Derived.Test.YtenfchkellkifaaDoorMakes
namespace Go.Proofs.YtenfchkellkifaaDoor
open Go.RowKit Go.Extern.Stop Go.Stop Go.Extern

/-- The law's first test: too many names, or an offset too far away. -/
def farB (E : EData) : Bool := !fewB E.names || decide (1099511627776 < E.off) || decide (E.off < -1099511627776)

set_option maxRecDepth 100000 in
theorem shifts_far (E : EData) (s : Value) (m : Int) (w : World) (hg : ErrT w) (h : NamesAt w s E.names) (hf : farB E = true) :
    Calls Tryd.prog 5 #[errV E s, .int .i32 m] w (IsEnd true w) := by
  have hb := box_new w (.bool E.isNil) (.int .i64 E.code) (.bool E.has) (.int .i64 E.off) s 36
  have k1 := few_any E s _ (h.below hb.1)
  unfold errV at k1
  have K1 := Lib.hid k1; clear k1
  have K2 := Lib.hid (fun wx (hx : Below w.heap.size w wx) => alive_any wx (hg.here hx))
  have Hbox := Lib.hid hb; clear hb
  have Hg := Lib.hid hg; clear hg
  obtain ⟨p, cap, rfl, hl, hn⟩ := h
  clear hl hn
  unfold errV
  go_enter Tryd.func5, Tryd.ntmps5
  go_wp2_with fail
  refine K1.out.mono ?_
  rintro e w1 ⟨rfl, h1⟩
  have Hbox1 := Lib.hid (box_call Hbox.out h1); clear h1
  have hb1 := Hbox1.out
  have A1 := Lib.hid (K2.out w1 Hbox1.out.1)
  cases hq : fewB E.names with
  | false =>
    have HQ := Lib.hid hq; clear hq
    have HF := Lib.hid hf; clear hf
    go_wp2_with fail
    refine A1.out.mono ?_
    rintro e w2 ⟨rfl, h2⟩
    have H2 := Lib.hid (keep_below Hbox1.out.1 (Nat.le_refl _) h2); clear h2
    go_wp2_with fail
    go_ret
    exact ⟨rfl, H2.out⟩
  | true =>
    by_cases h1 : 1099511627776 < E.off
    · have hd : decide ((1099511627776 : Int) < E.off) = true := by simpa using h1
      have HQ := Lib.hid hq; clear hq
      have HF := Lib.hid hf; clear hf
      clear h1
      go_wp2_with fail
      refine A1.out.mono ?_
      rintro e w2 ⟨rfl, h2⟩
      have H2 := Lib.hid (keep_below Hbox1.out.1 (Nat.le_refl _) h2); clear h2
      go_wp2_with fail
      go_ret
      exact ⟨rfl, H2.out⟩
    · have h2 : E.off < -1099511627776 := by simpa [farB, hq, h1] using hf
      have hd : decide ((1099511627776 : Int) < E.off) = false := by simpa using h1
      have hd2 : decide (E.off < -1099511627776) = true := by simpa using h2
      have HQ := Lib.hid hq; clear hq
      have HF := Lib.hid hf; clear hf
      clear h1 h2
      go_wp2_with fail
      refine A1.out.mono ?_
      rintro e w2 ⟨rfl, h2⟩
      have H2 := Lib.hid (keep_below Hbox1.out.1 (Nat.le_refl _) h2); clear h2
      go_wp2_with fail
      go_ret
      exact ⟨rfl, H2.out⟩

set_option maxRecDepth 100000 in
set_option maxHeartbeats 4000000 in
theorem shifts_nil (has : Bool) (code off : Int) (ns : List ByteArray) (s : Value) (m : Int) (w : World) (hg : ErrT w) (h : NamesAt w s ns) (hf : farB ⟨true, code, has, off, ns⟩ = false) (hc : code ≤ 9223372036854775807) (hm : -2147483648 ≤ m ∧ m ≤ 2147483647) :
    Calls Tryd.prog 5 #[errV ⟨true, code, has, off, ns⟩ s, .int .i32 m] w (IsEnd true w) := by
  have hb := box_new w (.bool true) (.int .i64 code) (.bool has) (.int .i64 off) s 36
  obtain ⟨hq, h1, h2⟩ : fewB ns = true ∧ ¬ 1099511627776 < off ∧ ¬ off < -1099511627776 := by
    simp [farB] at hf
    exact ⟨hf.1.1, by omega, by omega⟩
  have k1 := few_any ⟨true, code, has, off, ns⟩ s _ (h.below hb.1)
  have k3 := fun wx (hx : Below w.heap.size w wx) => build_any ⟨true, code, has, off, ns⟩ s wx (h.below hx)
  obtain ⟨TT, hTT⟩ : ∃ TT, textOf (baseOf ⟨true, code, has, off, ns⟩) ⟨#[]⟩ ns.reverse = TT := ⟨_, rfl⟩
  have k4 : ∀ wx, Below w.heap.size w wx → Calls Tryd.prog 20 #[errV ⟨true, code, has, off, ns⟩ s] wx (TextB TT wx) := fun wx hx => by
    rw [← hTT]; exact refText_any ⟨true, code, has, off, ns⟩ s wx (h.below hx) hc hq
  have HTT := Lib.hid hTT; clear hTT
  have K2 := Lib.hid (fun wx (hx : Below w.heap.size w wx) => alive_any wx (hg.here hx))
  simp only at k1
  rw [hq] at k1
  unfold errV at k1 k3 k4
  have K1 := Lib.hid k1; clear k1
  have K3 := Lib.hid k3; clear k3
  have K4 := Lib.hid k4; clear k4
  have Hbox := Lib.hid hb; clear hb
  have Hg := Lib.hid hg; clear hg
  have HQ := Lib.hid hq; clear hq
  have HF := Lib.hid hf; clear hf
  have HC := Lib.hid hc; clear hc
  obtain ⟨p, cap, rfl, hl, hn⟩ := h
  clear hl hn
  have hd : decide ((1099511627776 : Int) < off) = false := by simpa using h1
  have hd2 : decide (off < -1099511627776) = false := by simpa using h2
  have hm1 : -2147483648 ≤ m := hm.1
  have hm2 : m ≤ 2147483647 := hm.2
  have H1 := Lib.hid h1; clear h1
  have H2 := Lib.hid h2; clear h2
  clear hm
  have ta := ta_fault
  unfold errV
  go_enter Tryd.func5, Tryd.ntmps5
  go_wp2_with fail
  refine K1.out.mono ?_
  rintro e w1 ⟨rfl, h1⟩
  have Hbox1 := Lib.hid (box_call Hbox.out h1); clear h1
  have hb1 := Hbox1.out
  go_wp2_with fail
  refine (K3.out w1 Hbox1.out.1).mono ?_
  rintro e w2 ⟨v, rfl, h2, hv⟩
  have Hv := Lib.hid hv; clear hv
  clear hb1
  have Hbox2 := Lib.hid (box_call Hbox1.out h2); clear h2
  have hT2 : ErrT w2 := Hg.out.here Hbox2.out.1
  have S1 := Lib.hid (Shift_any _ ⟨#[]⟩ ns.reverse v m w2 hT2 Hv.out)
  clear hT2
  have hb2 := Hbox2.out
  go_wp2_with fail
  refine S1.out.mono ?_
  intro e w3 ⟨h3, he⟩
  clear hb2
  have Hbox3 := Lib.hid (box_call Hbox2.out h3)
  have H3 := Lib.hid h3; clear h3
  have hT3 := Hg.out.here Hbox3.out.1
  have hnil : v = .nilIface := Hv.out
  subst hnil
  obtain rfl : e = .returned .nilIface := he
  have A1 := Lib.hid (alive_any w3 hT3)
  clear hT3
  have hb3 := Hbox3.out
  go_wp2_with fail
  refine A1.out.mono ?_
  rintro e w4 ⟨rfl, h4⟩
  have H4 := Lib.hid (keep_below Hbox3.out.1 (Nat.le_refl _) h4); clear h4
  clear hb3
  go_wp2_with fail
  go_ret
  exact ⟨rfl, H4.out⟩

set_option maxRecDepth 100000 in
set_option maxHeartbeats 4000000 in
theorem shifts_has (code off : Int) (ns : List ByteArray) (s : Value) (m : Int) (w : World) (hg : ErrT w) (h : NamesAt w s ns) (hf : farB ⟨false, code, true, off, ns⟩ = false) (hc : code ≤ 9223372036854775807) (hm : -2147483648 ≤ m ∧ m ≤ 2147483647) :
    Calls Tryd.prog 5 #[errV ⟨false, code, true, off, ns⟩ s, .int .i32 m] w (IsEnd true w) := by
  have hb := box_new w (.bool false) (.int .i64 code) (.bool true) (.int .i64 off) s 36
  obtain ⟨hq, h1, h2⟩ : fewB ns = true ∧ ¬ 1099511627776 < off ∧ ¬ off < -1099511627776 := by
    simp [farB] at hf
    exact ⟨hf.1.1, by omega, by omega⟩
  have k1 := few_any ⟨false, code, true, off, ns⟩ s _ (h.below hb.1)
  have k3 := fun wx (hx : Below w.heap.size w wx) => build_any ⟨false, code, true, off, ns⟩ s wx (h.below hx)
  obtain ⟨TT, hTT⟩ : ∃ TT, textOf (baseOf ⟨false, code, true, off, ns⟩) ⟨#[]⟩ ns.reverse = TT := ⟨_, rfl⟩
  have k4 : ∀ wx, Below w.heap.size w wx → Calls Tryd.prog 20 #[errV ⟨false, code, true, off, ns⟩ s] wx (TextB TT wx) := fun wx hx => by
    rw [← hTT]; exact refText_any ⟨false, code, true, off, ns⟩ s wx (h.below hx) hc hq
  have HTT := Lib.hid hTT; clear hTT
  have K2 := Lib.hid (fun wx (hx : Below w.heap.size w wx) => alive_any wx (hg.here hx))
  simp only at k1
  rw [hq] at k1
  unfold errV at k1 k3 k4
  have K1 := Lib.hid k1; clear k1
  have K3 := Lib.hid k3; clear k3
  have K4 := Lib.hid k4; clear k4
  have Hbox := Lib.hid hb; clear hb
  have Hg := Lib.hid hg; clear hg
  have HQ := Lib.hid hq; clear hq
  have HF := Lib.hid hf; clear hf
  have HC := Lib.hid hc; clear hc
  obtain ⟨p, cap, rfl, hl, hn⟩ := h
  clear hl hn
  have hd : decide ((1099511627776 : Int) < off) = false := by simpa using h1
  have hd2 : decide (off < -1099511627776) = false := by simpa using h2
  have hm1 : -2147483648 ≤ m := hm.1
  have hm2 : m ≤ 2147483647 := hm.2
  have H1 := Lib.hid h1; clear h1
  have H2 := Lib.hid h2; clear h2
  clear hm
  have ta := ta_fault
  unfold errV
  go_enter Tryd.func5, Tryd.ntmps5
  go_wp2_with fail
  refine K1.out.mono ?_
  rintro e w1 ⟨rfl, h1⟩
  have Hbox1 := Lib.hid (box_call Hbox.out h1); clear h1
  have hb1 := Hbox1.out
  go_wp2_with fail
  refine (K3.out w1 Hbox1.out.1).mono ?_
  rintro e w2 ⟨v, rfl, h2, hv⟩
  have Hv := Lib.hid hv; clear hv
  clear hb1
  have Hbox2 := Lib.hid (box_call Hbox1.out h2); clear h2
  have hT2 : ErrT w2 := Hg.out.here Hbox2.out.1
  have S1 := Lib.hid (Shift_any _ ⟨#[]⟩ ns.reverse v m w2 hT2 Hv.out)
  clear hT2
  have hb2 := Hbox2.out
  go_wp2_with fail
  refine S1.out.mono ?_
  intro e w3 ⟨h3, he⟩
  clear hb2
  have Hbox3 := Lib.hid (box_call Hbox2.out h3)
  have H3 := Lib.hid h3; clear h3
  have hT3 := Hg.out.here Hbox3.out.1
  have hwr : IntKind.i64.wrap (off + m) = off + m := IntWalk.i64_in _ (by have := H1.out; have := H2.out; omega)
  obtain rfl : e = .returned (.iface 28 (.agg #[.int .i64 code, .int .i64 (off + m)])) := by
    rw [← hwr]; exact he
  clear hwr he
  have A1 := Lib.hid (alive_any (w3.alloc (.cells #[.int .i64 code, .int .i64 (off + m)] 28)) (hT3.here ((Below.refl _ _).alloc (Nat.le_refl _) _)))
  clear hT3
  have hb3 := Hbox3.out
  have ho1 : off ≤ 1099511627776 := by have := H1.out; omega
  have ho2 : -1099511627776 ≤ off := by have := H2.out; omega
  go_wp2_with fail
  refine A1.out.mono ?_
  rintro e w4 ⟨rfl, h4⟩
  have c0 : w4.cell? ⟨w3.heap.size, 0, none⟩ = some (.int .i64 code) := keep_cell (by simp) h4
  have c1 : w4.cell? ⟨w3.heap.size, 1, none⟩ = some (.int .i64 (off + m)) := keep_cell (by simp) h4
  have Hbox4 := Lib.hid (box_call (box_alloc Hbox3.out _) h4); clear h4
  have hb4 := Hbox4.out
  clear hb3
  go_wp2_with fail
  go_ret
  exact ⟨rfl, Hbox4.out.1⟩

set_option maxRecDepth 100000 in
set_option maxHeartbeats 4000000 in
theorem shifts_code (code off : Int) (ns : List ByteArray) (s : Value) (m : Int) (w : World) (hg : ErrT w) (h : NamesAt w s ns) (hf : farB ⟨false, code, false, off, ns⟩ = false) (hc : code ≤ 9223372036854775807) (hm : -2147483648 ≤ m ∧ m ≤ 2147483647) :
    Calls Tryd.prog 5 #[errV ⟨false, code, false, off, ns⟩ s, .int .i32 m] w (IsEnd true w) := by
  have hb := box_new w (.bool false) (.int .i64 code) (.bool false) (.int .i64 off) s 36
  obtain ⟨hq, h1, h2⟩ : fewB ns = true ∧ ¬ 1099511627776 < off ∧ ¬ off < -1099511627776 := by
    simp [farB] at hf
    exact ⟨hf.1.1, by omega, by omega⟩
  have k1 := few_any ⟨false, code, false, off, ns⟩ s _ (h.below hb.1)
  have k3 := fun wx (hx : Below w.heap.size w wx) => build_any ⟨false, code, false, off, ns⟩ s wx (h.below hx)
  obtain ⟨TT, hTT⟩ : ∃ TT, textOf (baseOf ⟨false, code, false, off, ns⟩) ⟨#[]⟩ ns.reverse = TT := ⟨_, rfl⟩
  have k4 : ∀ wx, Below w.heap.size w wx → Calls Tryd.prog 20 #[errV ⟨false, code, false, off, ns⟩ s] wx (TextB TT wx) := fun wx hx => by
    rw [← hTT]; exact refText_any ⟨false, code, false, off, ns⟩ s wx (h.below hx) hc hq
  have HTT := Lib.hid hTT; clear hTT
  have K2 := Lib.hid (fun wx (hx : Below w.heap.size w wx) => alive_any wx (hg.here hx))
  simp only at k1
  rw [hq] at k1
  unfold errV at k1 k3 k4
  have K1 := Lib.hid k1; clear k1
  have K3 := Lib.hid k3; clear k3
  have K4 := Lib.hid k4; clear k4
  have Hbox := Lib.hid hb; clear hb
  have Hg := Lib.hid hg; clear hg
  have HQ := Lib.hid hq; clear hq
  have HF := Lib.hid hf; clear hf
  have HC := Lib.hid hc; clear hc
  obtain ⟨p, cap, rfl, hl, hn⟩ := h
  clear hl hn
  have hd : decide ((1099511627776 : Int) < off) = false := by simpa using h1
  have hd2 : decide (off < -1099511627776) = false := by simpa using h2
  have hm1 : -2147483648 ≤ m := hm.1
  have hm2 : m ≤ 2147483647 := hm.2
  have H1 := Lib.hid h1; clear h1
  have H2 := Lib.hid h2; clear h2
  clear hm
  have ta := ta_fault
  unfold errV
  go_enter Tryd.func5, Tryd.ntmps5
  go_wp2_with fail
  refine K1.out.mono ?_
  rintro e w1 ⟨rfl, h1⟩
  have Hbox1 := Lib.hid (box_call Hbox.out h1); clear h1
  have hb1 := Hbox1.out
  go_wp2_with fail
  refine (K3.out w1 Hbox1.out.1).mono ?_
  rintro e w2 ⟨v, rfl, h2, hv⟩
  have Hv := Lib.hid hv; clear hv
  clear hb1
  have Hbox2 := Lib.hid (box_call Hbox1.out h2); clear h2
  have hT2 : ErrT w2 := Hg.out.here Hbox2.out.1
  have S1 := Lib.hid (Shift_any _ ⟨#[]⟩ ns.reverse v m w2 hT2 Hv.out)
  clear hT2
  have hb2 := Hbox2.out
  go_wp2_with fail
  refine S1.out.mono ?_
  intro e w3 ⟨h3, he⟩
  clear hb2
  have Hbox3 := Lib.hid (box_call Hbox2.out h3)
  have H3 := Lib.hid h3; clear h3
  have hT3 := Hg.out.here Hbox3.out.1
  obtain rfl : e = .returned v := he
  have Hv3 := Lib.hid (ErrN.below Hv.out H3.out)
  have hsays := says_err (baseOf ⟨false, code, false, off, ns⟩) ⟨#[]⟩ w3 (by decide) (codeOk_base ⟨false, code, false, off, ns⟩ HC.out) ns.reverse v (fun n hn => (few_spec HQ.out).1 n (List.mem_reverse.1 hn)) (by have := (few_spec HQ.out).2; simp; omega) Hv3.out
  rw [HTT.out] at hsays
  obtain ⟨t, x, F, y, rfl, hme, hce, hk⟩ := hsays
  have A1 := Lib.hid (fun wx (hx : Below w3.heap.size w3 wx) => alive_any wx (hT3.here hx))
  have A2 := Lib.hid hk; clear hk
  have A3 := Lib.hid (fun wx (hx : Below w3.heap.size w3 wx) => K4.out wx (keep_below Hbox3.out.1 (Nat.le_refl _) hx))
  have a4 : ∀ wx, Below w3.heap.size w3 wx → Calls Tryd.prog 13 #[.iface t x] wx (IntEnd (-1) wx) := fun wx hx => At_any (eOf ⟨false, code, false, off, ns⟩) ⟨#[]⟩ ns.reverse (.iface t x) wx (hT3.here hx) (Hv3.out.below hx)
  have A4 := Lib.hid a4; clear a4
  clear hT3
  have hb3 := box_call (W := w3) ⟨Below.refl _ _, Hbox3.out.2⟩ (Below.refl _ _)
  go_wp2_with fail
  go_region_held3 (fun w' => Below w3.heap.size w3 w' ∧ w'.cell? ⟨w.heap.size, 0, none⟩ = some (.bool false) ∧ w'.cell? ⟨w.heap.size, 1, none⟩ = some (.int .i64 code) ∧ w'.cell? ⟨w.heap.size, 2, none⟩ = some (.bool false) ∧ w'.cell? ⟨w.heap.size, 3, none⟩ = some (.int .i64 off) ∧ w'.cell? ⟨w.heap.size, 4, none⟩ = some (.slice p ns.length cap))
    (first
      | exact box_call (by assumption) (by assumption)
      | exact box_drew (by assumption))
    (first
      | (go_at_call 10; rename_i hS _ _; refine (A1.out _ hS.1).mono ?_; rintro en w' ⟨rfl, hb4'⟩; have hb4 := Lib.hid hb4'; clear hb4')
      | (go_at_call 20; rename_i hS _ _; refine (A3.out _ hS.1).mono ?_; rintro en w' ⟨rfl, hb4'⟩; have hb4 := Lib.hid hb4'; clear hb4')
      | (go_at_call 13; rename_i hS _ _; refine (A4.out _ hS.1).mono ?_; rintro en w' ⟨rfl, hb4'⟩; have hb4 := Lib.hid hb4'; clear hb4')
      | (rename_i hS _ _; refine (A2.out _ hS.1).mono ?_; rintro en w' ⟨rfl, hb4'⟩; have hb4 := Lib.hid hb4'; clear hb4'))
  rename_i hE
  have HE := Lib.hid (keep_below Hbox3.out.1 (Nat.le_refl _) hE.1); clear hE
  go_wp2_with fail
  go_ret
  exact ⟨rfl, HE.out⟩

theorem shifts_any (E : EData) (s : Value) (m : Int) (w : World) (hg : ErrT w) (h : NamesAt w s E.names) (hc : E.code ≤ 9223372036854775807) (hm : -2147483648 ≤ m ∧ m ≤ 2147483647) :
    Calls Tryd.prog 5 #[errV E s, .int .i32 m] w (IsEnd true w) := by
  cases hf : farB E with
  | true => exact shifts_far E s m w hg h hf
  | false =>
    obtain ⟨nil, code, has, off, ns⟩ := E
    cases nil with
    | true => exact shifts_nil has code off ns s m w hg h hf hc hm
    | false =>
      cases has with
      | true => exact shifts_has code off ns s m w hg h hf hc hm
      | false => exact shifts_code code off ns s m w hg h hf hc hm
end Go.Proofs.YtenfchkellkifaaDoor
