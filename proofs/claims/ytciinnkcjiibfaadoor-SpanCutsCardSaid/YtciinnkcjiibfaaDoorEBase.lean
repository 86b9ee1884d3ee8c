/- Errors that are a code or a fault (no name in front): their values, the type assertions and method calls at them, the deferred function literals of package fault. No conditions. -/
import Derived.Test.YtciinnkcjiibfaaDoorLaw
import Derived.LaidEql
import Derived.Stop.Asserts
import Derived.WalkSpells
import Derived.Deep.LoopGhost
import Derived.Deep.DeepFit
import Derived.Deep.DeepCutAuto
namespace Go.Proofs.YtciinnkcjiibfaaDoor
open Go.RowKit Go.Extern.Stop Go.Stop Go.Extern

/-- The value of an error without names: a code, or a fault with a code and an offset. -/
def baseV (c : Int) : Option Int → Value
  | none => .iface 30 (.int .i64 c)
  | some a => .iface 50 (.agg #[.int .i64 c, .int .i64 a])

theorem unwrap_fault (c a : Int) (w : World) :
    Calls Tryd.prog 68 #[.agg #[.int .i64 c, .int .i64 a]] w fun e w' => e = .returned (baseV c none) ∧ w' = w.alloc (.cells #[.int .i64 c, .int .i64 a] 50) := by
  go_enter Tryd.func68, Tryd.ntmps68
  go_wp2
  go_ret
  exact ⟨rfl, rfl⟩

/-! type assertions and method calls -/
theorem noAs_fault (v : Value) (xT : TypeId) (w : World) : (Instr.typeAssert (.iface 50 v) xT 86 true).run Tryd.prog w = .ok (.tuple #[.nilIface, .bool false]) w := run_typeAssert_lacksB Tryd.underlying86 (by kernel_rfl) (by kernel_rfl) v xT w
theorem noAs_code (v : Value) (xT : TypeId) (w : World) : (Instr.typeAssert (.iface 30 v) xT 86 true).run Tryd.prog w = .ok (.tuple #[.nilIface, .bool false]) w := run_typeAssert_lacksB Tryd.underlying86 (by kernel_rfl) (by kernel_rfl) v xT w
theorem hasUn_fault (v : Value) (xT : TypeId) (w : World) : (Instr.typeAssert (.iface 50 v) xT 89 true).run Tryd.prog w = .ok (.tuple #[.iface 50 v, .bool true]) w := run_typeAssert_hasB Tryd.underlying89 (by kernel_rfl) v xT w
theorem noUn_code (v : Value) (xT : TypeId) (w : World) : (Instr.typeAssert (.iface 30 v) xT 89 true).run Tryd.prog w = .ok (.tuple #[.nilIface, .bool false]) w := run_typeAssert_lacksB Tryd.underlying89 (by kernel_rfl) (by kernel_rfl) v xT w
theorem noUns_code (v : Value) (xT : TypeId) (w : World) : (Instr.typeAssert (.iface 30 v) xT 91 true).run Tryd.prog w = .ok (.tuple #[.nilIface, .bool false]) w := run_typeAssert_lacksB Tryd.underlying91 (by kernel_rfl) (by kernel_rfl) v xT w
theorem un_fault (n : Nat) (x : Array Value) (w : World) : (Go.method (n + 1) 50 (.agg x) "Unwrap").run Tryd.prog w = .ok (68, .agg x) w := by kernel_rfl
theorem rt_elem (n : Nat) (h : Value) (w : World) : (Go.method (n + 1) 81 (.agg #[h]) "Elem").run Tryd.prog w = .ok (75, .agg #[h]) w := by kernel_rfl
theorem rt_impl (n : Nat) (h : Value) (w : World) : (Go.method (n + 1) 81 (.agg #[h]) "Implements").run Tryd.prog w = .ok (76, .agg #[h]) w := by kernel_rfl
theorem rt_assign (n : Nat) (h : Value) (w : World) : (Go.method (n + 1) 81 (.agg #[h]) "AssignableTo").run Tryd.prog w = .ok (73, .agg #[h]) w := by kernel_rfl
theorem rt_kind (n : Nat) (h : Value) (w : World) : (Go.method (n + 1) 81 (.agg #[h]) "Kind").run Tryd.prog w = .ok (63, h) w := by kernel_rfl
theorem typeOf_code (c : Int) (w : World) : (callFunc 46 #[.iface 30 (.int .i64 c)]).run Tryd.prog w = .ok (.value (.iface 81 (.agg #[.pointer (some ⟨1, 30, none⟩)]))) w := by kernel_rfl

/-! deferred function literals that recover, in a call that returns -/
theorem idle_code (w : World) :
    CallsD Tryd.prog 33 #[] .returning w fun e u' w' => e = .returned (.tuple #[]) ∧ u' = .returning ∧ w' = w := by
  refine callsD_of_wpS Tryd.func33 rfl fun c₀ cs hu => ?_
  apply wpS_region
  cases c₀
  simp_all [wpOpsS, go_sem, recoverD, Tryd.ntmps33, bodyPostS, results, Tryd.results33]
theorem idle_fault (w : World) :
    CallsD Tryd.prog 35 #[] .returning w fun e u' w' => e = .returned (.tuple #[]) ∧ u' = .returning ∧ w' = w := by
  refine callsD_of_wpS Tryd.func35 rfl fun c₀ cs hu => ?_
  apply wpS_region
  cases c₀
  simp_all [wpOpsS, go_sem, recoverD, Tryd.ntmps35, bodyPostS, results, Tryd.results35]

end Go.Proofs.YtciinnkcjiibfaaDoor
