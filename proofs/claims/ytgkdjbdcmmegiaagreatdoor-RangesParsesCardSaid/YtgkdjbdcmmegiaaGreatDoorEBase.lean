/- Errors that are a code or a fault (no name in front): their values, the type assertions and method calls at them, the deferred function literals of package fault. No conditions. -/
import Derived.Test.YtgkdjbdcmmegiaaGreatDoorLaw
import Derived.LaidEql
import Derived.Stop.Asserts
import Derived.WalkSpells
import Derived.Deep.LoopGhost
import Derived.Deep.DeepFit
import Derived.Deep.DeepCutAuto
namespace Go.Proofs.YtgkdjbdcmmegiaaGreatDoor
open Go.RowKit Go.Extern.Stop Go.Stop Go.Extern

/-- The value of an error without names: a code, or a fault with a code and an offset. -/
def baseV (c : Int) : Option Int → Value
  | none => .iface 30 (.int .i64 c)
  | some a => .iface 56 (.agg #[.int .i64 c, .int .i64 a])

theorem unwrap_fault (c a : Int) (w : World) :
    Calls Tryz.prog 158 #[.agg #[.int .i64 c, .int .i64 a]] w fun e w' => e = .returned (baseV c none) ∧ w' = w.alloc (.cells #[.int .i64 c, .int .i64 a] 56) := by
  go_enter Tryz.func158, Tryz.ntmps158
  go_wp2
  go_ret
  exact ⟨rfl, rfl⟩

/-! type assertions and method calls -/
theorem noAs_fault (v : Value) (xT : TypeId) (w : World) : (Instr.typeAssert (.iface 56 v) xT 150 true).run Tryz.prog w = .ok (.tuple #[.nilIface, .bool false]) w := run_typeAssert_lacksB Tryz.underlying150 (by kernel_rfl) (by kernel_rfl) v xT w
theorem noAs_code (v : Value) (xT : TypeId) (w : World) : (Instr.typeAssert (.iface 30 v) xT 150 true).run Tryz.prog w = .ok (.tuple #[.nilIface, .bool false]) w := run_typeAssert_lacksB Tryz.underlying150 (by kernel_rfl) (by kernel_rfl) v xT w
theorem hasUn_fault (v : Value) (xT : TypeId) (w : World) : (Instr.typeAssert (.iface 56 v) xT 153 true).run Tryz.prog w = .ok (.tuple #[.iface 56 v, .bool true]) w := run_typeAssert_hasB Tryz.underlying153 (by kernel_rfl) v xT w
theorem noUn_code (v : Value) (xT : TypeId) (w : World) : (Instr.typeAssert (.iface 30 v) xT 153 true).run Tryz.prog w = .ok (.tuple #[.nilIface, .bool false]) w := run_typeAssert_lacksB Tryz.underlying153 (by kernel_rfl) (by kernel_rfl) v xT w
theorem noUns_code (v : Value) (xT : TypeId) (w : World) : (Instr.typeAssert (.iface 30 v) xT 155 true).run Tryz.prog w = .ok (.tuple #[.nilIface, .bool false]) w := run_typeAssert_lacksB Tryz.underlying155 (by kernel_rfl) (by kernel_rfl) v xT w
theorem un_fault (n : Nat) (x : Array Value) (w : World) : (Go.method (n + 1) 56 (.agg x) "Unwrap").run Tryz.prog w = .ok (158, .agg x) w := by kernel_rfl
theorem rt_elem (n : Nat) (h : Value) (w : World) : (Go.method (n + 1) 145 (.agg #[h]) "Elem").run Tryz.prog w = .ok (166, .agg #[h]) w := by kernel_rfl
theorem rt_impl (n : Nat) (h : Value) (w : World) : (Go.method (n + 1) 145 (.agg #[h]) "Implements").run Tryz.prog w = .ok (167, .agg #[h]) w := by kernel_rfl
theorem rt_assign (n : Nat) (h : Value) (w : World) : (Go.method (n + 1) 145 (.agg #[h]) "AssignableTo").run Tryz.prog w = .ok (164, .agg #[h]) w := by kernel_rfl
theorem rt_kind (n : Nat) (h : Value) (w : World) : (Go.method (n + 1) 145 (.agg #[h]) "Kind").run Tryz.prog w = .ok (153, h) w := by kernel_rfl
theorem typeOf_code (c : Int) (w : World) : (callFunc 96 #[.iface 30 (.int .i64 c)]).run Tryz.prog w = .ok (.value (.iface 145 (.agg #[.pointer (some ⟨9, 30, none⟩)]))) w := by kernel_rfl

/-! deferred function literals that recover, in a call that returns -/
theorem idle_code (w : World) :
    CallsD Tryz.prog 56 #[] .returning w fun e u' w' => e = .returned (.tuple #[]) ∧ u' = .returning ∧ w' = w := by
  refine callsD_of_wpS Tryz.func56 rfl fun c₀ cs hu => ?_
  apply wpS_region
  cases c₀
  simp_all [wpOpsS, go_sem, recoverD, Tryz.ntmps56, bodyPostS, results, Tryz.results56]
theorem idle_fault (w : World) :
    CallsD Tryz.prog 58 #[] .returning w fun e u' w' => e = .returned (.tuple #[]) ∧ u' = .returning ∧ w' = w := by
  refine callsD_of_wpS Tryz.func58 rfl fun c₀ cs hu => ?_
  apply wpS_region
  cases c₀
  simp_all [wpOpsS, go_sem, recoverD, Tryz.ntmps58, bodyPostS, results, Tryz.results58]

end Go.Proofs.YtgkdjbdcmmegiaaGreatDoor
