/- FaultReads returns true for all descriptions and changes no memory that was there. Conditions: the variable errors.errorType holds the type error; the description's numbers are ints. -/
import Derived.Test.YtenfchkellkifaaDoorBox
namespace Go.Proofs.YtenfchkellkifaaDoor
open Go.RowKit Go.Extern.Stop Go.Stop Go.Extern


theorem reads_not (E : EData) (s : Value) (w : World) (hg : ErrT w) (h : NamesAt w s E.names) (hf : fewB E.names = false) :
    Calls Tryd.prog 4 #[errV E s] w (IsEnd true w) := by
  have hb := box_new w (.bool E.isNil) (.int .i64 E.code) (.bool E.has) (.int .i64 E.off) s 36
  have k1 := few_any E s _ (h.below hb.1)
  rw [hf] at k1
  unfold errV at k1
  have K1 := Lib.hid k1; clear k1
  have K2 := Lib.hid (fun wx (hx : Below w.heap.size w wx) => alive_any wx (hg.here hx))
  have HB := Lib.hid hb.1; clear hb
  have Hg := Lib.hid hg; clear hg
  have HF := Lib.hid hf; clear hf
  obtain ⟨p, cap, rfl, hl, hn⟩ := h
  clear hl hn
  unfold errV
  go_enter Tryd.func4, Tryd.ntmps4
  go_wp2_with fail
  refine K1.out.mono ?_
  rintro e w1 ⟨rfl, h1⟩
  have H1 := Lib.hid (keep_below HB.out (Nat.le_refl _) h1); clear h1
  go_wp2_with fail
  refine (K2.out w1 H1.out).mono ?_
  rintro e w2 ⟨rfl, h2⟩
  have H2 := Lib.hid (keep_below H1.out (Nat.le_refl _) h2); clear h2
  go_wp2_with fail
  go_ret
  exact ⟨rfl, H2.out⟩

set_option maxRecDepth 100000 in
set_option maxHeartbeats 4000000 in
theorem reads_few (E : EData) (s : Value) (w : World) (hg : ErrT w) (h : NamesAt w s E.names) (hf : fewB E.names = true) :
    Calls Tryd.prog 4 #[errV E s] w (IsEnd true w) := by
  have hb := box_new w (.bool E.isNil) (.int .i64 E.code) (.bool E.has) (.int .i64 E.off) s 36
  have k1 := few_any E s _ (h.below hb.1)
  rw [hf] at k1
  have k3 := fun wx (hx : Below w.heap.size w wx) => build_any E s wx (h.below hx)
  have k4 := fun wx (hx : Below w.heap.size w wx) => refCode_any E s wx (h.below hx)
  have k5 := fun wx (hx : Below w.heap.size w wx) => refAt_any E s wx (h.below hx)
  have K2 := Lib.hid (fun wx (hx : Below w.heap.size w wx) => alive_any wx (hg.here hx))
  unfold errV at k1 k3 k4 k5
  have K1 := Lib.hid k1; clear k1
  have K3 := Lib.hid k3; clear k3
  have K4 := Lib.hid k4; clear k4
  have K5 := Lib.hid k5; clear k5
  have Hbox := Lib.hid hb; clear hb
  have Hg := Lib.hid hg; clear hg
  have HF := Lib.hid hf; clear hf
  obtain ⟨p, cap, rfl, hl, hn⟩ := h
  clear hl hn
  unfold errV
  go_enter Tryd.func4, Tryd.ntmps4
  go_wp2_with fail
  refine K1.out.mono ?_
  rintro e w1 ⟨rfl, h1⟩
  have Hbox1 := Lib.hid (box_call Hbox.out h1); clear h1
  have hb1 := Hbox1.out
  go_wp2_with fail
  refine (K3.out w1 Hbox1.out.1).mono ?_
  rintro e w2 ⟨v, rfl, h2, hv⟩
  have Hv := Lib.hid hv; clear hv
  clear hb1
  have Hbox2 := Lib.hid (box_call Hbox1.out h2); clear h2
  have hT2 : ErrT w2 := Hg.out.here Hbox2.out.1
  have A1 := Lib.hid (fun wx (hx : Below w2.heap.size w2 wx) => alive_any wx (hT2.here hx))
  have C1 := Lib.hid (fun wx (hx : Below w2.heap.size w2 wx) => Code_any (eOf E) ⟨#[]⟩ E.names.reverse v wx (hT2.here hx) (Hv.out.below hx))
  have C3 := Lib.hid (fun wx (hx : Below w2.heap.size w2 wx) => At_any (eOf E) ⟨#[]⟩ E.names.reverse v wx (hT2.here hx) (Hv.out.below hx))
  have C2 := Lib.hid (fun wx (hx : Below w2.heap.size w2 wx) => K4.out wx (keep_below Hbox2.out.1 (Nat.le_refl _) hx))
  have C4 := Lib.hid (fun wx (hx : Below w2.heap.size w2 wx) => K5.out wx (keep_below Hbox2.out.1 (Nat.le_refl _) hx))
  have h2 : ∀ (wx : World), Below w2.heap.size w2 (wx.alloc (.cells #[.int .i64 (IntKind.i64.wrap (E.code + 1)), .int .i64 E.code] 25)) → Calls Tryd.prog 18 #[v, .slice (some ⟨wx.heap.size, 0, none⟩) 2 2] (wx.alloc (.cells #[.int .i64 (IntKind.i64.wrap (E.code + 1)), .int .i64 E.code] 25)) (IsEnd (!E.isNil) (wx.alloc (.cells #[.int .i64 (IntKind.i64.wrap (E.code + 1)), .int .i64 E.code] 25))) := by
    intro wx hx'
    have k := Has_any [IntKind.i64.wrap (E.code + 1), E.code] (eOf E) ⟨#[]⟩ E.names.reverse v wx.heap.size 2 _ (Hv.out.below hx') (by simp) (by simp)
      (fun i hi => by
        match i, hi with
        | 0, _ => simp
        | 1, _ => simp)
    rw [any_two E] at k
    exact k
  have h1 : ∀ (wx : World), Below w2.heap.size w2 (wx.alloc (.cells #[.int .i64 (IntKind.i64.wrap (E.code + 1))] 25)) → Calls Tryd.prog 18 #[v, .slice (some ⟨wx.heap.size, 0, none⟩) 1 1] (wx.alloc (.cells #[.int .i64 (IntKind.i64.wrap (E.code + 1))] 25)) (IsEnd false (wx.alloc (.cells #[.int .i64 (IntKind.i64.wrap (E.code + 1))] 25))) := by
    intro wx hx'
    have k := Has_any [IntKind.i64.wrap (E.code + 1)] (eOf E) ⟨#[]⟩ E.names.reverse v wx.heap.size 1 _ (Hv.out.below hx') (by simp) (by simp)
      (fun i hi => by
        match i, hi with
        | 0, _ => simp)
    rw [any_one E] at k
    exact k
  have D2 := Lib.hid h2; clear h2
  have D1 := Lib.hid h1; clear h1
  have D0 := Lib.hid (fun wx => Has_none v wx)
  have HT2 := Lib.hid hT2; clear hT2
  have hb2 := box_call (W := w2) ⟨Below.refl _ _, Hbox2.out.2⟩ (Below.refl _ _)
  go_wp2_with fail
  go_region_held3 (fun w' => Below w2.heap.size w2 w' ∧ w'.cell? ⟨w.heap.size, 0, none⟩ = some (.bool E.isNil) ∧ w'.cell? ⟨w.heap.size, 1, none⟩ = some (.int .i64 E.code) ∧ w'.cell? ⟨w.heap.size, 2, none⟩ = some (.bool E.has) ∧ w'.cell? ⟨w.heap.size, 3, none⟩ = some (.int .i64 E.off) ∧ w'.cell? ⟨w.heap.size, 4, none⟩ = some (.slice p E.names.length cap))
    (first
      | exact box_call (by assumption) (by assumption)
      | exact box_alloc (by assumption) _
      | exact box_drew (by assumption))
    (first
      | (go_at_call 10; rename_i hS _ _; refine (A1.out _ hS.1).mono ?_; rintro en w' ⟨rfl, hb3'⟩; have hb3 := Lib.hid hb3'; clear hb3')
      | (go_at_call 12; rename_i hS _ _; refine (C1.out _ hS.1).mono ?_; rintro en w' ⟨rfl, hb3'⟩; have hb3 := Lib.hid hb3'; clear hb3')
      | (go_at_call 16; rename_i hS _ _; refine (C2.out _ hS.1).mono ?_; rintro en w' ⟨rfl, hb3'⟩; have hb3 := Lib.hid hb3'; clear hb3')
      | (go_at_call 13; rename_i hS _ _; refine (C3.out _ hS.1).mono ?_; rintro en w' ⟨rfl, hb3'⟩; have hb3 := Lib.hid hb3'; clear hb3')
      | (go_at_call 18; rename_i hS _ _; (with_reducible refine (D2.out _ hS.1).mono ?_); rintro en w' ⟨rfl, hb3'⟩; have hb3 := Lib.hid hb3'; clear hb3')
      | (go_at_call 18; rename_i hS _ _; (with_reducible refine (D1.out _ hS.1).mono ?_); rintro en w' ⟨rfl, hb3'⟩; have hb3 := Lib.hid hb3'; clear hb3')
      | (go_at_call 18; (with_reducible refine (D0.out _).mono ?_); rintro en w' ⟨rfl, hb3'⟩; have hb3 := Lib.hid hb3'; clear hb3')
      | (go_at_call 17; rename_i hS _ _; refine (C4.out _ hS.1).mono ?_; rintro en w' ⟨rfl, hb3'⟩; have hb3 := Lib.hid hb3'; clear hb3'))
  rename_i hE
  have HE := Lib.hid (keep_below Hbox2.out.1 (Nat.le_refl _) hE.1); clear hE
  go_wp2_with fail
  go_ret
  exact ⟨rfl, HE.out⟩

theorem reads_any (E : EData) (s : Value) (w : World) (hg : ErrT w) (h : NamesAt w s E.names) :
    Calls Tryd.prog 4 #[errV E s] w (IsEnd true w) := by
  cases hf : fewB E.names with
  | true => exact reads_few E s w hg h hf
  | false => exact reads_not E s w hg h hf
end Go.Proofs.YtenfchkellkifaaDoor
