/- errors.Is, holds and Has: whether the code of an error is one of some. No conditions. -/
import Derived.Test.YtenfchkellkifaaDoorIs
namespace Go.Proofs.YtenfchkellkifaaDoor
open Go.RowKit Go.Extern.Stop Go.Stop Go.Extern

theorem nilEq (c : Int) (w : World) : (binOp .eql 23 .nilIface (.iface 25 (.int .i64 c))).run Tryd.prog w = .ok (.bool false) w := by kernel_rfl
theorem typeOf_code (c : Int) (w : World) : (callFunc 27 #[.iface 25 (.int .i64 c)]).run Tryd.prog w = .ok (.value (.iface 86 (.agg #[.pointer (some ⟨1, 25, none⟩)]))) w := by kernel_rfl
theorem comparable_code (w : World) : (callFunc 69 #[.agg #[.pointer (some ⟨1, 25, none⟩)]]).run Tryd.prog w = .ok (.value (.bool true)) w := by kernel_rfl

theorem is_nil (c : Int) (w : World) :
    Calls Tryd.prog 11 #[.nilIface, .iface 25 (.int .i64 c)] w (IsEnd false w) := by
  have q := nilEq
  go_enter Tryd.func11, Tryd.ntmps11
  go_wp2_with fail
  go_ret
  exact ⟨rfl, Below.refl _ _⟩

set_option maxRecDepth 100000 in
theorem Is_any (c : Int) (b : Option (Int × Option Int)) (s : ByteArray) (ns : List ByteArray) (v : Value) (w : World) (h : ErrV w.heap.size w b s ns v) :
    Calls Tryd.prog 11 #[v, .iface 25 (.int .i64 c)] w (IsEnd (codeIs c b) w) := by
  have t := typeOf_code
  have m := rt_comp
  have hc := comparable_code
  obtain ⟨ty, x, rfl⟩ := h.not_nil
  have H := Lib.hid h; clear h
  go_enter Tryd.func11, Tryd.ntmps11
  go_wp2_with fail
  refine (is_any c b s ns _ _ H.out).mono ?_
  rintro e w' ⟨rfl, hb⟩
  go_wp2_with fail
  go_ret
  exact ⟨rfl, hb⟩
end Go.Proofs.YtenfchkellkifaaDoor
