/- Errors that are a code or a fault (no name in front): their values, the type assertions and method calls at them, the deferred function literals of package fault. No conditions. -/
import Derived.Test.YtgeggdaokjimjaaDoorLaw
import Derived.LaidEql
import Derived.Stop.Asserts
import Derived.WalkSpells
import Derived.Deep.LoopGhost
import Derived.Deep.DeepFit
import Derived.Deep.DeepCutAuto
namespace Go.Proofs.YtgeggdaokjimjaaDoor
open Go.RowKit Go.Extern.Stop Go.Stop Go.Extern
/-- The value of an error without names: a code, or a fault with a code and an offset. -/
def baseV (c : Int) : Option Int → Value
  | none => .iface 31 (.int .i64 c)
  | some a => .iface 58 (.agg #[.int .i64 c, .int .i64 a])
theorem unwrap_fault (c a : Int) (w : World) :
    Calls Tryd.prog 108 #[.agg #[.int .i64 c, .int .i64 a]] w fun e w' => e = .returned (baseV c none) ∧ w' = w.alloc (.cells #[.int .i64 c, .int .i64 a] 58) := by
  go_enter Tryd.func108, Tryd.ntmps108
  go_wp2
  go_ret
  exact ⟨rfl, rfl⟩
theorem noAs_fault (v : Value) (xT : TypeId) (w : World) : (Instr.typeAssert (.iface 58 v) xT 118 true).run Tryd.prog w = .ok (.tuple #[.nilIface, .bool false]) w := run_typeAssert_lacksB Tryd.underlying118 (by kernel_rfl) (by kernel_rfl) v xT w
theorem hasUn_fault (v : Value) (xT : TypeId) (w : World) : (Instr.typeAssert (.iface 58 v) xT 121 true).run Tryd.prog w = .ok (.tuple #[.iface 58 v, .bool true]) w := run_typeAssert_hasB Tryd.underlying121 (by kernel_rfl) v xT w
theorem un_fault (n : Nat) (x : Array Value) (w : World) : (Go.method (n + 1) 58 (.agg x) "Unwrap").run Tryd.prog w = .ok (108, .agg x) w := by kernel_rfl
theorem rt_elem (n : Nat) (h : Value) (w : World) : (Go.method (n + 1) 113 (.agg #[h]) "Elem").run Tryd.prog w = .ok (115, .agg #[h]) w := by kernel_rfl
theorem rt_impl (n : Nat) (h : Value) (w : World) : (Go.method (n + 1) 113 (.agg #[h]) "Implements").run Tryd.prog w = .ok (116, .agg #[h]) w := by kernel_rfl
theorem rt_assign (n : Nat) (h : Value) (w : World) : (Go.method (n + 1) 113 (.agg #[h]) "AssignableTo").run Tryd.prog w = .ok (113, .agg #[h]) w := by kernel_rfl
theorem rt_kind (n : Nat) (h : Value) (w : World) : (Go.method (n + 1) 113 (.agg #[h]) "Kind").run Tryd.prog w = .ok (103, h) w := by kernel_rfl
theorem typeOf_code (c : Int) (w : World) : (callFunc 81 #[.iface 31 (.int .i64 c)]).run Tryd.prog w = .ok (.value (.iface 113 (.agg #[.pointer (some ⟨1, 31, none⟩)]))) w := by kernel_rfl
theorem idle_code (w : World) :
    CallsD Tryd.prog 50 #[] .returning w fun e u' w' => e = .returned (.tuple #[]) ∧ u' = .returning ∧ w' = w := by
  refine callsD_of_wpS Tryd.func50 rfl fun c₀ cs hu => ?_
  apply wpS_region
  cases c₀
  simp_all [wpOpsS, go_sem, recoverD, Tryd.ntmps50, bodyPostS, results, Tryd.results50]
end Go.Proofs.YtgeggdaokjimjaaDoor
