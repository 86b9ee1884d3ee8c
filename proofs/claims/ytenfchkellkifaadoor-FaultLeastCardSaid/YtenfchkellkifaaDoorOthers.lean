/- FaultOthers returns true for all texts and names and changes no memory that was there. Condition: the variable errors.errorType holds the type error. -/
import Derived.Test.YtenfchkellkifaaDoorShifts
namespace Go.Proofs.YtenfchkellkifaaDoor
open Go.RowKit Go.Extern.Stop Go.Stop Go.Extern

theorem errorsNew (t : ByteArray) (w : World) :
    Calls Tryd.prog 24 #[.string t] w (fun e w' => e = .returned (.iface 82 (.pointer (some ⟨w.heap.size, 0, none⟩))) ∧ w' = w.alloc (.cells #[.string t] 84)) := by
  go_enter Tryd.func24, Tryd.ntmps24
  go_wp2
  go_ret
  exact ⟨rfl, rfl⟩

theorem others_long (t : ByteArray) (s : Value) (w : World) (hg : ErrT w) (hl : 100 < t.size) :
    Calls Tryd.prog 7 #[.string t, s] w (IsEnd true w) := by
  have hd : decide ((100 : Int) < (t.size : Int)) = true := by simp; omega
  have K := Lib.hid (alive_any w hg)
  have HL := Lib.hid hl; clear hl
  have Hg := Lib.hid hg; clear hg
  go_enter Tryd.func7, Tryd.ntmps7
  go_wp2_with fail
  refine K.out.mono ?_
  rintro e w1 ⟨rfl, h1⟩
  have H1 := Lib.hid h1; clear h1
  go_wp2_with fail
  go_ret
  exact ⟨rfl, H1.out⟩

theorem others_many (t : ByteArray) (ns : List ByteArray) (s : Value) (w : World) (hg : ErrT w) (h : NamesAt w s ns) (hl : ¬ 100 < t.size) (hf : fewB ns = false) :
    Calls Tryd.prog 7 #[.string t, s] w (IsEnd true w) := by
  have hd : decide ((100 : Int) < (t.size : Int)) = false := by simp; omega
  have k1 := few_any ⟨false, 0, false, 0, ns⟩ s w h
  simp only at k1
  rw [hf] at k1
  unfold errV at k1
  have K1 := Lib.hid k1; clear k1
  have K := Lib.hid (fun wx (hx : Below w.heap.size w wx) => alive_any wx (hg.here hx))
  have HL := Lib.hid hl; clear hl
  have HF := Lib.hid hf; clear hf
  have Hg := Lib.hid hg; clear hg
  obtain ⟨p, cap, rfl, hl, hn⟩ := h
  clear hl hn
  go_enter Tryd.func7, Tryd.ntmps7
  go_wp2_with fail
  refine K1.out.mono ?_
  rintro e w1 ⟨rfl, h1⟩
  have H1 := Lib.hid h1; clear h1
  go_wp2_with fail
  refine (K.out w1 H1.out).mono ?_
  rintro e w2 ⟨rfl, h2⟩
  have H2 := Lib.hid (keep_below H1.out (Nat.le_refl _) h2); clear h2
  go_wp2_with fail
  go_ret
  exact ⟨rfl, H2.out⟩

theorem other_code {t : ByteArray} {ns : List ByteArray} {v : Value} {wr : World} (hg : ErrT wr) (hv : ErrV wr.heap.size wr none t ns v) :
    (∀ wx, Below wr.heap.size wr wx → Calls Tryd.prog 12 #[v] wx (IntEnd 17 wx)) ∧ (∀ wx, Below wr.heap.size wr wx → Calls Tryd.prog 13 #[v] wx (IntEnd (-1) wx)) :=
  ⟨fun wx hx => Code_any (some none) t ns v wx (hg.here hx) (hv.below hx hx.size), fun wx hx => At_any (some none) t ns v wx (hg.here hx) (hv.below hx hx.size)⟩

/-- After i rounds of the law's loop. -/
def OthersRel (t : ByteArray) (ns : List ByteArray) (i : Nat) (v : Value) (w wr : World) : Prop :=
  ErrV wr.heap.size wr none t (ns.take i).reverse v ∧ Below w.heap.size w wr

set_option maxRecDepth 100000 in
set_option maxHeartbeats 4000000 in
theorem others_few (t : ByteArray) (ns : List ByteArray) (s : Value) (w : World) (hg : ErrT w) (h : NamesAt w s ns) (hl : ¬ 100 < t.size) (hf : fewB ns = true) :
    Calls Tryd.prog 7 #[.string t, s] w (IsEnd true w) := by
  have hd : decide ((100 : Int) < (t.size : Int)) = false := by simp; omega
  have k1 := few_any ⟨false, 0, false, 0, ns⟩ s w h
  simp only at k1
  rw [hf] at k1
  unfold errV at k1
  have K1 := Lib.hid k1; clear k1
  have K := Lib.hid (fun wx (hx : Below w.heap.size w wx) => alive_any wx (hg.here hx))
  have K2 := Lib.hid (fun wx => errorsNew t wx)
  have h20 := (few_spec hf).2
  have HL := Lib.hid hl; clear hl
  have HF := Lib.hid hf; clear hf
  have Hg := Lib.hid hg; clear hg
  obtain ⟨p, cap, rfl, hl, hn⟩ := h
  have HN := Lib.hid hn; clear hn
  clear hl
  go_enter Tryd.func7, Tryd.ntmps7
  go_wp2_with fail
  refine K1.out.mono ?_
  rintro e w1 ⟨rfl, h1⟩
  have H1 := Lib.hid h1; clear h1
  go_wp2_with fail
  refine (K2.out w1).mono ?_
  rintro e w2 ⟨rfl, rfl⟩
  have start : OthersRel t ns 0 (.iface 82 (.pointer (some ⟨w1.heap.size, 0, none⟩))) w (w1.alloc (.cells #[.string t] 84)) :=
    ⟨⟨w1.heap.size, rfl, by simp, by simp⟩, keep_below H1.out (Nat.le_refl _) ((Below.refl _ _).alloc (Nat.le_refl _) _)⟩
  have Start := Lib.hid start; clear start
  go_wp2_with fail
  go_loopg [5, 22] (ns.length + 1) (fun g v j wr => ∃ i : Nat, j = .int .i64 i ∧ i ≤ ns.length ∧ ns.length + 1 - i ≤ g ∧ OthersRel t ns i v w wr)
  case atStart => exact ⟨0, rfl, Nat.zero_le _, by omega, Start.out⟩
  case round =>
    obtain ⟨i, rfl, hi, hgk, hr⟩ := hrel
    obtain ⟨hv, hb⟩ := hr
    have Hv := Lib.hid hv
    have Hb := Lib.hid hb; clear hb
    by_cases hlt : i < ns.length
    · have hi63 : (i : Int) + 1 ≤ 9223372036854775807 := by omega
      obtain ⟨b, o, rfl, hb, hc⟩ := HN.out (fun e => by rw [e] at hlt; exact absurd hlt (Nat.not_lt_zero _))
      have hcell := (Hb.out.cell (p := ⟨b, o + i, none⟩) hb).trans (hc i hlt)
      clear hc hb
      generalize hx : ns.getD i default = x at hcell
      have HX := Lib.hid hx; clear hx
      have KW := Lib.hid (wrap_err x wr hv)
      obtain ⟨ty, u, rfl⟩ := hv.not_nil
      clear hv
      go_wp2_with fail
      refine KW.out.mono ?_
      rintro e w' ⟨v', rfl, hv', hb'⟩
      have Hv' := Lib.hid hv'; clear hv'
      have Hb' := Lib.hid hb'; clear hb'
      go_wp2_with fail
      go_roundg (gk - 1)
      case measure => omega
      case rel =>
        refine ⟨i + 1, by go_num, by omega, by omega, ?_, keep_below Hb.out (Nat.le_refl _) Hb'.out⟩
        rw [rev_take ns i hlt, HX.out]
        exact Hv'.out
    · obtain rfl : i = ns.length := by omega
      have HLt := Lib.hid hlt; clear hlt
      have hd0 : decide ((ns.length : Int) < (ns.length : Int)) = false := by simp
      have A1 := Lib.hid (K.out wr Hb.out)
      obtain ⟨c1, c2⟩ := other_code (Hg.out.here Hb.out) hv
      obtain ⟨ty, u, rfl⟩ := hv.not_nil
      clear hv
      have C1 := Lib.hid c1; clear c1
      have C2 := Lib.hid c2; clear c2
      go_wp2_with fail
      refine A1.out.mono ?_
      rintro e w3 ⟨rfl, h3⟩
      have H3 := Lib.hid h3; clear h3
      go_wp2_with fail
      refine (C1.out w3 H3.out).mono ?_
      rintro e w4 ⟨rfl, h4⟩
      have H4 := Lib.hid (keep_below H3.out (Nat.le_refl _) h4); clear h4
      go_wp2_with fail
      refine (C2.out w4 H4.out).mono ?_
      rintro e w5 ⟨rfl, h5⟩
      have H5 := Lib.hid (keep_below Hb.out (Nat.le_refl _) (keep_below H4.out (Nat.le_refl _) h5)); clear h5
      go_wp2_with fail
      go_ret
      exact ⟨rfl, H5.out⟩

theorem others_any (t : ByteArray) (ns : List ByteArray) (s : Value) (w : World) (hg : ErrT w) (h : NamesAt w s ns) :
    Calls Tryd.prog 7 #[.string t, s] w (IsEnd true w) := by
  by_cases hl : 100 < t.size
  · exact others_long t s w hg hl
  · cases hf : fewB ns with
    | true => exact others_few t ns s w hg h hl hf
    | false => exact others_many t ns s w hg h hl hf
end Go.Proofs.YtenfchkellkifaaDoor
