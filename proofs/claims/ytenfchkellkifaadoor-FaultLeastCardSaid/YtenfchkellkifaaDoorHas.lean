/- Has and Shift of package fault, for errors in memory and nil. Condition: the variable errors.errorType holds the type error. -/
import Derived.Test.YtenfchkellkifaaDoorCode
import Derived.Deep.RegionHeld3
namespace Go.Proofs.YtenfchkellkifaaDoor
open Go.RowKit Go.Extern.Stop Go.Stop Go.Extern

def holdsB (c : Int) : Option (Option (Int × Option Int)) → Bool
  | none => false
  | some b => codeIs c b

theorem holds_N (c : Int) (e : Option (Option (Int × Option Int))) (s : ByteArray) (ns : List ByteArray) (v : Value) (w : World) (h : ErrN w e s ns v) :
    Calls Tryd.prog 31 #[v, .int .i64 c] w (IsEnd (holdsB c e) w) := by
  cases e with
  | none =>
    obtain rfl : v = .nilIface := h
    exact holds_nil c w
  | some b => exact holds_any c b s ns v w h

theorem Has_none (v : Value) (w : World) :
    Calls Tryd.prog 18 #[v, .slice none 0 0] w (IsEnd false w) := by
  go_enter Tryd.func18, Tryd.ntmps18
  go_wp2_with fail
  go_loop [9] (fun j => j = .int .i64 0) (fun _ => 0)
  case atStart => rfl
  case round =>
    subst hrel
    go_wp2_with fail
    go_ret
    exact ⟨rfl, Below.refl _ _⟩

theorem any_take (p : Int → Bool) (cs : List Int) : ∀ (i : Nat), i ≤ cs.length → (∀ m, m < i → p (cs.getD m 0) = false) → cs.any p = (cs.drop i).any p := by
  intro i
  induction i generalizing cs with
  | zero => intro _ _; rfl
  | succ i ih =>
    intro hi hm
    cases cs with
    | nil => simp
    | cons c cs =>
      have h0 : p c = false := by simpa using hm 0 (by omega)
      simp only [List.any_cons, h0, Bool.false_or, List.drop_succ_cons]
      exact ih cs (by simpa using hi) (fun m hlt => by simpa using hm (m + 1) (by omega))

theorem any_at (p : Int → Bool) (cs : List Int) (i : Nat) (hi : i < cs.length) (hm : ∀ m, m < i → p (cs.getD m 0) = false) (h : p (cs.getD i 0) = true) : cs.any p = true := by
  rw [any_take p cs i (Nat.le_of_lt hi) hm, List.drop_eq_getElem_cons hi]
  have he : cs.getD i 0 = cs[i] := by simp [hi]
  rw [he] at h
  simp only [List.any_cons, h, Bool.true_or]

set_option maxRecDepth 100000 in
theorem Has_any (cs : List Int) (e : Option (Option (Int × Option Int))) (s : ByteArray) (ns : List ByteArray) (v : Value) (k cap : Nat) (w : World) (h : ErrN w e s ns v) (hk : k < w.heap.size) (hl : cs.length ≤ 1000)
    (hc : ∀ i, i < cs.length → w.cell? ⟨k, i, none⟩ = some (.int .i64 (cs.getD i 0))) :
    Calls Tryd.prog 18 #[v, .slice (some ⟨k, 0, none⟩) cs.length cap] w (IsEnd (cs.any (holdsB · e)) w) := by
  have H := Lib.hid h; clear h
  have HC := Lib.hid hc; clear hc
  go_enter Tryd.func18, Tryd.ntmps18
  go_wp2_with fail
  go_loopg [9] (cs.length + 1) (fun g j wr => ∃ i : Nat, j = .int .i64 i ∧ i ≤ cs.length ∧ cs.length + 1 - i ≤ g ∧ (∀ m, m < i → holdsB (cs.getD m 0) e = false) ∧ Below w.heap.size w wr)
  case atStart => exact ⟨0, rfl, Nat.zero_le _, by omega, fun m hm => absurd hm (Nat.not_lt_zero _), Below.refl _ _⟩
  case round =>
    obtain ⟨i, rfl, hi, hg, hm, hb⟩ := hrel
    have Hm := Lib.hid hm; clear hm
    have Hb := Lib.hid hb; clear hb
    by_cases hlt : i < cs.length
    · have hcell : wr.cell? ⟨k, i, none⟩ = some (.int .i64 (cs.getD i 0)) := by rw [Hb.out.cell (p := ⟨k, i, none⟩) hk]; exact HC.out i hlt
      have HL := Lib.hid (holds_N (cs.getD i 0) e s ns v wr (H.out.below Hb.out))
      generalize hx : cs.getD i 0 = x at *
      have Hx := Lib.hid hx; clear hx
      go_wp2_with fail
      refine HL.out.mono ?_
      rintro en w' ⟨rfl, hb⟩
      have Hb2 := Lib.hid hb; clear hb
      cases hh : holdsB x e with
      | true =>
        have Hh := Lib.hid hh; clear hh
        go_wp2_with fail
        go_ret
        exact ⟨by rw [any_at (holdsB · e) cs i hlt Hm.out (by rw [Hx.out]; exact Hh.out)]; rfl, Hb.out.trans (Hb2.out.mono Hb.out.size)⟩
      | false =>
        have Hh := Lib.hid hh; clear hh
        go_wp2_with fail
        go_roundg (gk - 1)
        case measure => omega
        case rel =>
          refine ⟨i + 1, by go_num, by omega, by omega, fun m hlt => ?_, Hb.out.trans (Hb2.out.mono Hb.out.size)⟩
          rcases Nat.lt_or_ge m i with h | h
          · exact Hm.out m h
          · obtain rfl : m = i := by omega
            rw [Hx.out]; exact Hh.out
    · obtain rfl : i = cs.length := by omega
      go_wp2_with fail
      go_ret
      exact ⟨by rw [any_take (holdsB · e) cs cs.length (Nat.le_refl _) Hm.out]; simp, Hb.out⟩

/-- What Shift returns. -/
def ShiftEnd (e : Option (Option (Int × Option Int))) (by' : Int) (v : Value) (w : World) (en : Ending) (w' : World) : Prop :=
  Below w.heap.size w w' ∧ en = .returned (match atOf e with
    | some a => baseV (codeOf e) (some (IntKind.i64.wrap (a + by')))
    | none => v)

set_option maxRecDepth 100000 in
theorem Shift_any (e : Option (Option (Int × Option Int))) (s : ByteArray) (ns : List ByteArray) (v : Value) (d : Int) (w : World) (hg : ErrT w) (h : ErrN w e s ns v) :
    Calls Tryd.prog 19 #[v, .int .i64 d] w (ShiftEnd e d v w) := by
  have k := fault_any e s ns v w hg h
  have K := Lib.hid k; clear k
  have H := Lib.hid h; clear h
  have Hg := Lib.hid hg; clear hg
  go_enter Tryd.func19, Tryd.ntmps19
  go_wp2_with fail
  refine K.out.mono ?_
  intro en w1 ⟨hb, he⟩
  have Hb := Lib.hid hb; clear hb
  cases ha : atOf e with
  | none =>
    rw [ha] at he
    subst he
    have Ha := Lib.hid ha; clear ha
    go_wp2_with fail
    go_ret
    exact ⟨Hb.out.trans (((Below.refl _ _).alloc (Nat.le_refl _) _).mono Hb.out.size), by rw [Ha.out]; rfl⟩
  | some a =>
    rw [ha] at he
    subst he
    have Ha := Lib.hid ha; clear ha
    have hb2 : Below w.heap.size w (w1.alloc (.cells #[.int .i64 (codeOf e), .int .i64 a] 28)) := Hb.out.trans (((Below.refl _ _).alloc (Nat.le_refl _) _).mono Hb.out.size)
    have HC := Lib.hid (fun wx hx => Code_any e s ns v wx (Hg.out.here hx) (H.out.below hx))
    have Hb2 := Lib.hid hb2; clear hb2
    go_wp2_with fail
    go_region_held3 (fun w' => w'.cell? ⟨w1.heap.size, 1, none⟩ = some (.int .i64 a) ∧ Below w.heap.size w w')
      (first
        | exact ⟨by simp, Hb2.out.drew⟩
        | exact ⟨keep_cell hS.1 hb3.out, keep_below hS.2 (Nat.le_refl _) hb3.out⟩)
      (first | (go_at_call 12; rename_i hS _ _; refine (HC.out _ hS.2).mono ?_; rintro en w' ⟨rfl, hb3'⟩; have hb3 := Lib.hid hb3'; clear hb3'))
    rename_i hE
    go_wp2_with fail
    go_ret
    exact ⟨hE.2, by rw [Ha.out]; rfl⟩
end Go.Proofs.YtenfchkellkifaaDoor
