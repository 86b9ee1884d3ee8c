/- The reference's union, meet, difference, complement and subset. Conditions: correct lists of at most 20000 intervals. -/
import Derived.Test.YtnlbohaealkelaaODo
namespace Go.Proofs.Ytnlbohaealkelaa
open Go.RowKit
/-- A list in memory that is correct and not too long. -/
structure OpAt (w : World) (s : Value) (l : List Iv) : Prop where
  at' : IvsAt w s l
  good : GoodL l
  len : l.length ≤ 20000
theorem OpAt.call {w w' : World} {s : Value} {l : List Iv} (h : OpAt w s l) (hb : Below w.heap.size w w') : OpAt w' s l := ⟨h.at'.call hb, h.good, h.len⟩
theorem GoodL.ord {l : List Iv} (h : GoodL l) : ∀ y ∈ l, y.1 ≤ y.2 := fun y hy => (h.ok y hy).2.1
theorem doOr (a b : List Iv) (s t : Value) (w : World) (ha : OpAt w s a) (hb : OpAt w t b) : Calls Try.prog 27 #[s, t, .int .i64 0] w (IsOwnR (orL a b) w) :=
  refDo_any 0 fOr take_or a b s t w ha.at' hb.at' ha.good.all hb.good.all ha.good.ord hb.good.ord (by have := ha.len; have := hb.len; omega)
theorem doAnd (a b : List Iv) (s t : Value) (w : World) (ha : OpAt w s a) (hb : OpAt w t b) : Calls Try.prog 27 #[s, t, .int .i64 1] w (IsOwnR (andL a b) w) :=
  refDo_any 1 fAnd take_and a b s t w ha.at' hb.at' ha.good.all hb.good.all ha.good.ord hb.good.ord (by have := ha.len; have := hb.len; omega)
theorem doSub (a b : List Iv) (s t : Value) (w : World) (ha : OpAt w s a) (hb : OpAt w t b) : Calls Try.prog 27 #[s, t, .int .i64 2] w (IsOwnR (subL a b) w) :=
  refDo_any 2 fSub take_sub a b s t w ha.at' hb.at' ha.good.all hb.good.all ha.good.ord hb.good.ord (by have := ha.len; have := hb.len; omega)
set_option maxRecDepth 100000 in
theorem refUnion_any (a b : List Iv) (s t : Value) (w : World) (ha : OpAt w s a) (hb : OpAt w t b) : Calls Try.prog 35 #[s, t] w (IsOwnR (orL a b) w) := by
  have K := Lib.hid (doOr a b s t w ha hb); clear ha hb
  go_enter Try.func35, Try.ntmps35
  go_wp2_with fail
  refine K.out.mono ?_
  rintro e w1 ⟨v, rfl, hv, h1⟩
  have HV := Lib.hid hv; have H1 := Lib.hid h1; clear hv h1
  go_wp2_with fail
  go_ret
  exact ⟨v, rfl, HV.out, H1.out⟩
set_option maxRecDepth 100000 in
theorem refMinus_any (a b : List Iv) (s t : Value) (w : World) (ha : OpAt w s a) (hb : OpAt w t b) : Calls Try.prog 45 #[s, t] w (IsOwnR (subL a b) w) := by
  have K := Lib.hid (doSub a b s t w ha hb); clear ha hb
  go_enter Try.func45, Try.ntmps45
  go_wp2_with fail
  refine K.out.mono ?_
  rintro e w1 ⟨v, rfl, hv, h1⟩
  have HV := Lib.hid hv; have H1 := Lib.hid h1; clear hv h1
  go_wp2_with fail
  go_ret
  exact ⟨v, rfl, HV.out, H1.out⟩
/-- A literal list of one interval. -/
theorem one_new (w : World) (x y : Int) (t : TypeId) : IvsAt (w.alloc (.cells #[.int .u64 x, .int .u64 y] t)) (.slice (some ⟨w.heap.size, 0, none⟩) 1 1) [(x, y)] :=
  ⟨_, _, rfl, by simp, fun _ => ⟨w.heap.size, 0, rfl, fun i z hz => by
    match i, hz with
    | 0, hz => simp at hz; subst hz; simp
    | i + 1, hz => simp at hz⟩⟩
theorem one_op (w : World) (x y : Int) (t : TypeId) (h : GoodL [(x, y)]) : OpAt (w.alloc (.cells #[.int .u64 x, .int .u64 y] t)) (.slice (some ⟨w.heap.size, 0, none⟩) 1 1) [(x, y)] := ⟨one_new w x y t, h, by simp⟩
theorem own_nil_len {w : World} {B : Nat} {v : Value} {l : List Iv} (h : OwnL w B v l) : ∃ p c, v = .slice p l.length c := by
  obtain ⟨p, c, h, _⟩ := own_shape h
  exact ⟨p, c, h⟩
theorem len_zero (l : List Iv) : (((l.length : Nat) : Int) == 0) = decide (l = []) := by
  cases l with
  | nil => rfl
  | cons x r => simp; omega
set_option maxRecDepth 100000 in
theorem refSubset_any (a b : List Iv) (s t : Value) (w : World) (ha : OpAt w s a) (hb : OpAt w t b) : Calls Try.prog 32 #[s, t] w (IsEnd (decide (subL a b = [])) w) := by
  have K := Lib.hid (doSub a b s t w ha hb); clear ha hb
  have hz := len_zero (subL a b)
  generalize subL a b = L at *
  go_enter Try.func32, Try.ntmps32
  go_wp2_with fail
  refine K.out.mono ?_
  rintro e w1 ⟨v, rfl, hv, h1⟩
  obtain ⟨p, c, rfl⟩ := own_nil_len hv
  have H1 := Lib.hid h1; clear hv h1
  go_wp2_with fail
  go_ret
  exact ⟨rfl, H1.out⟩
end Go.Proofs.Ytnlbohaealkelaa
