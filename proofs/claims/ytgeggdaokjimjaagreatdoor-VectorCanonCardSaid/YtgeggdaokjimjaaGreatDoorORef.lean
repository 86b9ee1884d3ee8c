/- The reference's union, meet, difference, complement and subset. Conditions: correct lists of at most 20000 intervals. -/
import Derived.Test.YtgeggdaokjimjaaGreatDoorODo
namespace Go.Proofs.YtgeggdaokjimjaaGreatDoor
open Go.RowKit
/-- A list in memory that is correct and not too long. -/
structure OpAt (w : World) (s : Value) (l : List Iv) : Prop where
  at' : IvsAt w s l
  good : GoodL l
  len : l.length ≤ 20000
theorem OpAt.call {w w' : World} {s : Value} {l : List Iv} (h : OpAt w s l) (hb : Below w.heap.size w w') : OpAt w' s l := ⟨h.at'.call hb, h.good, h.len⟩
theorem GoodL.ord {l : List Iv} (h : GoodL l) : ∀ y ∈ l, y.1 ≤ y.2 := fun y hy => (h.ok y hy).2.1
theorem doSub (a b : List Iv) (s t : Value) (w : World) (ha : OpAt w s a) (hb : OpAt w t b) : Calls Tryz.prog 70 #[s, t, .int .i64 2] w (IsOwnR (subL a b) w) :=
  refDo_any 2 fSub take_sub a b s t w ha.at' hb.at' ha.good.all hb.good.all ha.good.ord hb.good.ord (by have := ha.len; have := hb.len; omega)
set_option maxRecDepth 100000 in
theorem refMinus_any (a b : List Iv) (s t : Value) (w : World) (ha : OpAt w s a) (hb : OpAt w t b) : Calls Tryz.prog 55 #[s, t] w (IsOwnR (subL a b) w) := by
  have K := Lib.hid (doSub a b s t w ha hb); clear ha hb
  go_enter Tryz.func55, Tryz.ntmps55
  go_wp2_with fail
  refine K.out.mono ?_
  rintro e w1 ⟨v, rfl, hv, h1⟩
  have HV := Lib.hid hv; have H1 := Lib.hid h1; clear hv h1
  go_wp2_with fail
  go_ret
  exact ⟨v, rfl, HV.out, H1.out⟩
end Go.Proofs.YtgeggdaokjimjaaGreatDoor
