/- Closed facts on the program's tables: comparisons, type assertions and method calls at the four dynamic types of errors. No conditions. -/
import Derived.Test.YtenfchkellkifaaDoorErrs
namespace Go.Proofs.YtenfchkellkifaaDoor
open Go.RowKit Go.Extern.Stop Go.Stop Go.Extern

/-! comparisons with a code -/
theorem eqv_named (p : Option Addr) (c : Int) (w : World) : (binOp .eql 23 (.iface 66 (.pointer p)) (.iface 25 (.int .i64 c))).run Tryd.prog w = .ok (.bool false) w := by kernel_rfl
theorem eqv_fault (x a c : Int) (w : World) : (binOp .eql 23 (.iface 28 (.agg #[.int .i64 x, .int .i64 a])) (.iface 25 (.int .i64 c))).run Tryd.prog w = .ok (.bool false) w := by kernel_rfl
theorem eqv_other (p : Option Addr) (c : Int) (w : World) : (binOp .eql 23 (.iface 82 (.pointer p)) (.iface 25 (.int .i64 c))).run Tryd.prog w = .ok (.bool false) w := by kernel_rfl
theorem eqv_code (x c : Int) (w : World) : (binOp .eql 23 (.iface 25 (.int .i64 x)) (.iface 25 (.int .i64 c))).run Tryd.prog w = .ok (.bool (x == c)) w := by kernel_rfl

/-! type assertions -/
theorem noIs_named (v : Value) (xT : TypeId) (w : World) : (Instr.typeAssert (.iface 66 v) xT 88 true).run Tryd.prog w = .ok (.tuple #[.nilIface, .bool false]) w := run_typeAssert_lacksB Tryd.underlying88 (by kernel_rfl) (by kernel_rfl) v xT w
theorem noIs_fault (v : Value) (xT : TypeId) (w : World) : (Instr.typeAssert (.iface 28 v) xT 88 true).run Tryd.prog w = .ok (.tuple #[.nilIface, .bool false]) w := run_typeAssert_lacksB Tryd.underlying88 (by kernel_rfl) (by kernel_rfl) v xT w
theorem noIs_other (v : Value) (xT : TypeId) (w : World) : (Instr.typeAssert (.iface 82 v) xT 88 true).run Tryd.prog w = .ok (.tuple #[.nilIface, .bool false]) w := run_typeAssert_lacksB Tryd.underlying88 (by kernel_rfl) (by kernel_rfl) v xT w
theorem noIs_code (v : Value) (xT : TypeId) (w : World) : (Instr.typeAssert (.iface 25 v) xT 88 true).run Tryd.prog w = .ok (.tuple #[.nilIface, .bool false]) w := run_typeAssert_lacksB Tryd.underlying88 (by kernel_rfl) (by kernel_rfl) v xT w
theorem noAs_named (v : Value) (xT : TypeId) (w : World) : (Instr.typeAssert (.iface 66 v) xT 96 true).run Tryd.prog w = .ok (.tuple #[.nilIface, .bool false]) w := run_typeAssert_lacksB Tryd.underlying96 (by kernel_rfl) (by kernel_rfl) v xT w
theorem noAs_fault (v : Value) (xT : TypeId) (w : World) : (Instr.typeAssert (.iface 28 v) xT 96 true).run Tryd.prog w = .ok (.tuple #[.nilIface, .bool false]) w := run_typeAssert_lacksB Tryd.underlying96 (by kernel_rfl) (by kernel_rfl) v xT w
theorem noAs_other (v : Value) (xT : TypeId) (w : World) : (Instr.typeAssert (.iface 82 v) xT 96 true).run Tryd.prog w = .ok (.tuple #[.nilIface, .bool false]) w := run_typeAssert_lacksB Tryd.underlying96 (by kernel_rfl) (by kernel_rfl) v xT w
theorem noAs_code (v : Value) (xT : TypeId) (w : World) : (Instr.typeAssert (.iface 25 v) xT 96 true).run Tryd.prog w = .ok (.tuple #[.nilIface, .bool false]) w := run_typeAssert_lacksB Tryd.underlying96 (by kernel_rfl) (by kernel_rfl) v xT w
theorem hasUn_named (v : Value) (xT : TypeId) (w : World) : (Instr.typeAssert (.iface 66 v) xT 79 true).run Tryd.prog w = .ok (.tuple #[.iface 66 v, .bool true]) w := run_typeAssert_hasB Tryd.underlying79 (by kernel_rfl) v xT w
theorem hasUn_fault (v : Value) (xT : TypeId) (w : World) : (Instr.typeAssert (.iface 28 v) xT 79 true).run Tryd.prog w = .ok (.tuple #[.iface 28 v, .bool true]) w := run_typeAssert_hasB Tryd.underlying79 (by kernel_rfl) v xT w
theorem noUn_other (v : Value) (xT : TypeId) (w : World) : (Instr.typeAssert (.iface 82 v) xT 79 true).run Tryd.prog w = .ok (.tuple #[.nilIface, .bool false]) w := run_typeAssert_lacksB Tryd.underlying79 (by kernel_rfl) (by kernel_rfl) v xT w
theorem noUn_code (v : Value) (xT : TypeId) (w : World) : (Instr.typeAssert (.iface 25 v) xT 79 true).run Tryd.prog w = .ok (.tuple #[.nilIface, .bool false]) w := run_typeAssert_lacksB Tryd.underlying79 (by kernel_rfl) (by kernel_rfl) v xT w
theorem noUns_other (v : Value) (xT : TypeId) (w : World) : (Instr.typeAssert (.iface 82 v) xT 91 true).run Tryd.prog w = .ok (.tuple #[.nilIface, .bool false]) w := run_typeAssert_lacksB Tryd.underlying91 (by kernel_rfl) (by kernel_rfl) v xT w
theorem noUns_code (v : Value) (xT : TypeId) (w : World) : (Instr.typeAssert (.iface 25 v) xT 91 true).run Tryd.prog w = .ok (.tuple #[.nilIface, .bool false]) w := run_typeAssert_lacksB Tryd.underlying91 (by kernel_rfl) (by kernel_rfl) v xT w

/-! method calls -/
theorem un_named (n : Nat) (p : Addr) (w : World) : (Go.method (n + 1) 66 (.pointer (some p)) "Unwrap").run Tryd.prog w = .ok (62, .pointer (some p)) w := by kernel_rfl
theorem un_fault (n : Nat) (x : Array Value) (w : World) : (Go.method (n + 1) 28 (.agg x) "Unwrap").run Tryd.prog w = .ok (60, .agg x) w := by kernel_rfl
theorem er_named (n : Nat) (p : Addr) (w : World) : (Go.method (n + 1) 66 (.pointer (some p)) "Error").run Tryd.prog w = .ok (61, .pointer (some p)) w := by kernel_rfl
theorem er_fault (n : Nat) (x : Array Value) (w : World) : (Go.method (n + 1) 28 (.agg x) "Error").run Tryd.prog w = .ok (59, .agg x) w := by kernel_rfl
theorem er_code (n : Nat) (c : Int) (w : World) : (Go.method (n + 1) 25 (.int .i64 c) "Error").run Tryd.prog w = .ok (32, .int .i64 c) w := by kernel_rfl
theorem er_other (n : Nat) (p : Addr) (w : World) : (Go.method (n + 1) 82 (.pointer (some p)) "Error").run Tryd.prog w = .ok (66, .pointer (some p)) w := by kernel_rfl
theorem rt_elem (n : Nat) (h : Value) (w : World) : (Go.method (n + 1) 86 (.agg #[h]) "Elem").run Tryd.prog w = .ok (70, .agg #[h]) w := by kernel_rfl
theorem rt_impl (n : Nat) (h : Value) (w : World) : (Go.method (n + 1) 86 (.agg #[h]) "Implements").run Tryd.prog w = .ok (71, .agg #[h]) w := by kernel_rfl
theorem rt_assign (n : Nat) (h : Value) (w : World) : (Go.method (n + 1) 86 (.agg #[h]) "AssignableTo").run Tryd.prog w = .ok (68, .agg #[h]) w := by kernel_rfl
theorem rt_comp (n : Nat) (h : Value) (w : World) : (Go.method (n + 1) 86 (.agg #[h]) "Comparable").run Tryd.prog w = .ok (69, .agg #[h]) w := by kernel_rfl
theorem rt_kind (n : Nat) (h : Value) (w : World) : (Go.method (n + 1) 86 (.agg #[h]) "Kind").run Tryd.prog w = .ok (56, h) w := by kernel_rfl
end Go.Proofs.YtenfchkellkifaaDoor
