/- The error that build makes of a description, and the reference's Code, At and Text. Conditions: the description's numbers are ints; for Text: at most 20 names of at most 100 bytes. -/
import Derived.Test.YtenfchkellkifaaDoorFew
namespace Go.Proofs.YtenfchkellkifaaDoor
open Go.RowKit Go.Extern.Stop Go.Stop Go.Extern

def BuildEnd (E : EData) (w : World) (e : Ending) (w' : World) : Prop :=
  ∃ v, e = .returned v ∧ Below w.heap.size w w' ∧ ErrN w' (eOf E) ⟨#[]⟩ E.names.reverse v

/-- After i rounds of build's loop. -/
def BuildRel (E : EData) (i : Nat) (v : Value) (w wr : World) : Prop :=
  ErrV wr.heap.size wr (baseOf E) ⟨#[]⟩ (E.names.take i).reverse v ∧ Below w.heap.size w wr

theorem rev_take (ns : List ByteArray) (i : Nat) (hi : i < ns.length) : (ns.take (i + 1)).reverse = ns.getD i default :: (ns.take i).reverse := by
  rw [List.take_succ_eq_append_getElem hi, List.reverse_append]
  simp [hi]

set_option maxRecDepth 100000 in
set_option maxHeartbeats 1000000 in
theorem build_loop (E : EData) (p : Option Addr) (cap : Nat) (w : World) (h : NamesAt w (.slice p E.names.length cap) E.names) (hn : E.isNil = false) (hh : E.has = false ∨ E.has = true) :
    Calls Tryd.prog 15 #[errV E (.slice p E.names.length cap)] w (BuildEnd E w) := by
  have hnames := h
  obtain ⟨nil, code, has, off, ns⟩ := E
  simp only at hn hnames h hh
  subst hn
  obtain ⟨p', cap', he, hl, hcs⟩ := h
  obtain ⟨rfl, rfl⟩ : p = p' ∧ cap = cap' := by simpa using he
  clear he
  have HL := Lib.hid hl; clear hl
  have HN := Lib.hid hcs; clear hcs
  have hB : Below w.heap.size w (w.alloc (.cells #[.bool false, .int .i64 code, .bool has, .int .i64 off, .slice p ns.length cap] 36)) := (Below.refl _ _).alloc (Nat.le_refl _) _
  have HB := Lib.hid hB; clear hB
  have HNames := Lib.hid hnames; clear hnames
  unfold errV
  have start : BuildRel ⟨false, code, has, off, ns⟩ 0 (if has then .iface 28 (.agg #[.int .i64 code, .int .i64 off]) else .iface 25 (.int .i64 code)) w (w.alloc (.cells #[.bool false, .int .i64 code, .bool has, .int .i64 off, .slice p ns.length cap] 36)) := by
    refine ⟨?_, HB.out⟩
    cases has <;> rfl
  have Start := Lib.hid start; clear start
  obtain ⟨R, hR⟩ : ∃ R, R = BuildRel ⟨false, code, has, off, ns⟩ := ⟨_, rfl⟩
  have HR := Lib.hid hR; clear hR
  rcases hh with rfl | rfl
  all_goals
    go_enter Tryd.func15, Tryd.ntmps15
    go_wp2_with fail
    go_loopg [3, 22] (ns.length + 1) (fun g v j wr => ∃ i : Nat, j = .int .i64 i ∧ i ≤ ns.length ∧ ns.length + 1 - i ≤ g ∧ R i v w wr)
    case atStart => exact ⟨0, rfl, Nat.zero_le _, by omega, by rw [HR.out]; exact Start.out⟩
    case round =>
      obtain ⟨i, rfl, hi, hg, hr⟩ := hrel
      rw [HR.out] at hr
      obtain ⟨hv, hb⟩ := hr
      have Hv := Lib.hid hv
      have Hb := Lib.hid hb; clear hb
      by_cases hlt : i < ns.length
      · have hi63 : (i : Int) + 1 ≤ 9223372036854775807 := by have := HL.out; omega
        obtain ⟨b, o, rfl, hb, hc⟩ := HN.out (fun e => by rw [e] at hlt; exact absurd hlt (Nat.not_lt_zero _))
        have hcell := (Hb.out.cell (p := ⟨b, o + i, none⟩) hb).trans (hc i hlt)
        clear hc hb
        generalize hx : ns.getD i default = x at hcell
        have HX := Lib.hid hx; clear hx
        have K := Lib.hid (wrap_err x wr hv)
        obtain ⟨t, u, rfl⟩ := hv.not_nil
        clear hv
        go_wp2_with fail
        refine K.out.mono ?_
        rintro e w' ⟨v', rfl, hv', hb'⟩
        have Hv' := Lib.hid hv'; clear hv'
        have Hb' := Lib.hid hb'; clear hb'
        go_wp2_with fail
        go_roundg (gk - 1)
        case measure => omega
        case rel =>
          refine ⟨i + 1, by go_num, by omega, by omega, ?_⟩
          rw [HR.out]
          refine ⟨?_, keep_below Hb.out (Nat.le_refl _) Hb'.out⟩
          show ErrV _ _ _ _ (ns.take (i + 1)).reverse _
          rw [rev_take ns i hlt, HX.out]
          exact Hv'.out
      · obtain rfl : i = ns.length := by omega
        clear hv
        have HLt := Lib.hid hlt; clear hlt
        have hd0 : decide ((ns.length : Int) < (ns.length : Int)) = false := by simp
        go_wp2_with fail
        go_ret
        refine ⟨_, rfl, Hb.out, ?_⟩
        have e := Hv.out
        rw [List.take_of_length_le (Nat.le_refl _)] at e
        exact e

theorem build_any (E : EData) (s : Value) (w : World) (h : NamesAt w s E.names) :
    Calls Tryd.prog 15 #[errV E s] w (BuildEnd E w) := by
  have h' := h
  obtain ⟨p, cap, rfl, _⟩ := h'
  cases hn : E.isNil with
  | false => exact build_loop E p cap w h hn (by cases E.has <;> simp)
  | true =>
    obtain ⟨nil, code, has, off, ns⟩ := E
    simp only at hn
    subst hn
    clear h
    unfold errV
    go_enter Tryd.func15, Tryd.ntmps15
    go_wp2_with fail
    go_ret
    exact ⟨_, rfl, (Below.refl _ _).alloc (Nat.le_refl _) _, rfl⟩

theorem refCode_any (E : EData) (s : Value) (w : World) (h : NamesAt w s E.names) :
    Calls Tryd.prog 16 #[errV E s] w (IntEnd (codeOf (eOf E)) w) := by
  obtain ⟨p, cap, rfl, _⟩ := h
  obtain ⟨nil, code, has, off, ns⟩ := E
  unfold errV
  cases nil
  all_goals
    go_enter Tryd.func16, Tryd.ntmps16
    go_wp2_with fail
    go_ret
    exact ⟨rfl, (Below.refl _ _).alloc (Nat.le_refl _) _⟩

theorem refAt_any (E : EData) (s : Value) (w : World) (h : NamesAt w s E.names) :
    Calls Tryd.prog 17 #[errV E s] w (IntEnd ((atOf (eOf E)).getD (-1)) w) := by
  obtain ⟨p, cap, rfl, _⟩ := h
  obtain ⟨nil, code, has, off, ns⟩ := E
  unfold errV
  cases nil <;> cases has
  all_goals
    go_enter Tryd.func17, Tryd.ntmps17
    go_wp2_with fail
    go_ret
    exact ⟨rfl, (Below.refl _ _).alloc (Nat.le_refl _) _⟩
end Go.Proofs.YtenfchkellkifaaDoor
