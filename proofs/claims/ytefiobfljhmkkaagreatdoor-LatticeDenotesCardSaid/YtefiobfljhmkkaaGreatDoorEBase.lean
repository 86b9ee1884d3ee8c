/- Errors that are a code or a fault (no name in front): their values, the type assertions and method calls at them, the deferred function literals of package fault. No conditions. -/
import Derived.Test.YtefiobfljhmkkaaGreatDoorLaw
import Derived.LaidEql
import Derived.Stop.Asserts
import Derived.WalkSpells
import Derived.Deep.LoopGhost
import Derived.Deep.DeepFit
import Derived.Deep.DeepCutAuto
namespace Go.Proofs.YtefiobfljhmkkaaGreatDoor
open Go.RowKit Go.Extern.Stop Go.Stop Go.Extern
/-- The value of an error without names: a code, or a fault with a code and an offset. -/
def baseV (c : Int) : Option Int → Value
  | none => .iface 78 (.int .i64 c)
  | some a => .iface 108 (.agg #[.int .i64 c, .int .i64 a])
theorem unwrap_fault (c a : Int) (w : World) :
    Calls Tryz.prog 145 #[.agg #[.int .i64 c, .int .i64 a]] w fun e w' => e = .returned (baseV c none) ∧ w' = w.alloc (.cells #[.int .i64 c, .int .i64 a] 108) := by
  go_enter Tryz.func145, Tryz.ntmps145
  go_wp2
  go_ret
  exact ⟨rfl, rfl⟩
theorem noAs_fault (v : Value) (xT : TypeId) (w : World) : (Instr.typeAssert (.iface 108 v) xT 171 true).run Tryz.prog w = .ok (.tuple #[.nilIface, .bool false]) w := run_typeAssert_lacksB Tryz.underlying171 (by kernel_rfl) (by kernel_rfl) v xT w
theorem hasUn_fault (v : Value) (xT : TypeId) (w : World) : (Instr.typeAssert (.iface 108 v) xT 174 true).run Tryz.prog w = .ok (.tuple #[.iface 108 v, .bool true]) w := run_typeAssert_hasB Tryz.underlying174 (by kernel_rfl) v xT w
theorem un_fault (n : Nat) (x : Array Value) (w : World) : (Go.method (n + 1) 108 (.agg x) "Unwrap").run Tryz.prog w = .ok (145, .agg x) w := by kernel_rfl
theorem rt_elem (n : Nat) (h : Value) (w : World) : (Go.method (n + 1) 166 (.agg #[h]) "Elem").run Tryz.prog w = .ok (152, .agg #[h]) w := by kernel_rfl
theorem rt_impl (n : Nat) (h : Value) (w : World) : (Go.method (n + 1) 166 (.agg #[h]) "Implements").run Tryz.prog w = .ok (153, .agg #[h]) w := by kernel_rfl
theorem rt_assign (n : Nat) (h : Value) (w : World) : (Go.method (n + 1) 166 (.agg #[h]) "AssignableTo").run Tryz.prog w = .ok (150, .agg #[h]) w := by kernel_rfl
theorem rt_kind (n : Nat) (h : Value) (w : World) : (Go.method (n + 1) 166 (.agg #[h]) "Kind").run Tryz.prog w = .ok (140, h) w := by kernel_rfl
theorem typeOf_code (c : Int) (w : World) : (callFunc 115 #[.iface 78 (.int .i64 c)]).run Tryz.prog w = .ok (.value (.iface 166 (.agg #[.pointer (some ⟨1, 78, none⟩)]))) w := by kernel_rfl
theorem idle_code (w : World) :
    CallsD Tryz.prog 86 #[] .returning w fun e u' w' => e = .returned (.tuple #[]) ∧ u' = .returning ∧ w' = w := by
  refine callsD_of_wpS Tryz.func86 rfl fun c₀ cs hu => ?_
  apply wpS_region
  cases c₀
  simp_all [wpOpsS, go_sem, recoverD, Tryz.ntmps86, bodyPostS, results, Tryz.results86]
end Go.Proofs.YtefiobfljhmkkaaGreatDoor
