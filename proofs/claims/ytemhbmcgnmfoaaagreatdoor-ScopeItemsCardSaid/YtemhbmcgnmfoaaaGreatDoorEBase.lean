/- Errors that are a code or a fault (no name in front): their values, the type assertions and method calls at them, the deferred function literals of package fault. No conditions. -/
import Derived.Test.YtemhbmcgnmfoaaaGreatDoorLaw
import Derived.LaidEql
import Derived.Stop.Asserts
import Derived.WalkSpells
import Derived.Deep.LoopGhost
import Derived.Deep.DeepFit
import Derived.Deep.DeepCutAuto
namespace Go.Proofs.YtemhbmcgnmfoaaaGreatDoor
open Go.RowKit Go.Extern.Stop Go.Stop Go.Extern
/-- The value of an error without names: a code, or a fault with a code and an offset. -/
def baseV (c : Int) : Option Int → Value
  | none => .iface 31 (.int .i64 c)
  | some a => .iface 69 (.agg #[.int .i64 c, .int .i64 a])
theorem unwrap_fault (c a : Int) (w : World) :
    Calls Tryz.prog 204 #[.agg #[.int .i64 c, .int .i64 a]] w fun e w' => e = .returned (baseV c none) ∧ w' = w.alloc (.cells #[.int .i64 c, .int .i64 a] 69) := by
  go_enter Tryz.func204, Tryz.ntmps204
  go_wp2
  go_ret
  exact ⟨rfl, rfl⟩
theorem noAs_fault (v : Value) (xT : TypeId) (w : World) : (Instr.typeAssert (.iface 69 v) xT 178 true).run Tryz.prog w = .ok (.tuple #[.nilIface, .bool false]) w := run_typeAssert_lacksB Tryz.underlying178 (by kernel_rfl) (by kernel_rfl) v xT w
theorem noAs_code (v : Value) (xT : TypeId) (w : World) : (Instr.typeAssert (.iface 31 v) xT 178 true).run Tryz.prog w = .ok (.tuple #[.nilIface, .bool false]) w := run_typeAssert_lacksB Tryz.underlying178 (by kernel_rfl) (by kernel_rfl) v xT w
theorem hasUn_fault (v : Value) (xT : TypeId) (w : World) : (Instr.typeAssert (.iface 69 v) xT 181 true).run Tryz.prog w = .ok (.tuple #[.iface 69 v, .bool true]) w := run_typeAssert_hasB Tryz.underlying181 (by kernel_rfl) v xT w
theorem noUn_code (v : Value) (xT : TypeId) (w : World) : (Instr.typeAssert (.iface 31 v) xT 181 true).run Tryz.prog w = .ok (.tuple #[.nilIface, .bool false]) w := run_typeAssert_lacksB Tryz.underlying181 (by kernel_rfl) (by kernel_rfl) v xT w
theorem noUns_code (v : Value) (xT : TypeId) (w : World) : (Instr.typeAssert (.iface 31 v) xT 182 true).run Tryz.prog w = .ok (.tuple #[.nilIface, .bool false]) w := run_typeAssert_lacksB Tryz.underlying182 (by kernel_rfl) (by kernel_rfl) v xT w
theorem un_fault (n : Nat) (x : Array Value) (w : World) : (Go.method (n + 1) 69 (.agg x) "Unwrap").run Tryz.prog w = .ok (204, .agg x) w := by kernel_rfl
theorem rt_elem (n : Nat) (h : Value) (w : World) : (Go.method (n + 1) 173 (.agg #[h]) "Elem").run Tryz.prog w = .ok (211, .agg #[h]) w := by kernel_rfl
theorem rt_impl (n : Nat) (h : Value) (w : World) : (Go.method (n + 1) 173 (.agg #[h]) "Implements").run Tryz.prog w = .ok (212, .agg #[h]) w := by kernel_rfl
theorem rt_assign (n : Nat) (h : Value) (w : World) : (Go.method (n + 1) 173 (.agg #[h]) "AssignableTo").run Tryz.prog w = .ok (209, .agg #[h]) w := by kernel_rfl
theorem rt_kind (n : Nat) (h : Value) (w : World) : (Go.method (n + 1) 173 (.agg #[h]) "Kind").run Tryz.prog w = .ok (199, h) w := by kernel_rfl
theorem typeOf_code (c : Int) (w : World) : (callFunc 125 #[.iface 31 (.int .i64 c)]).run Tryz.prog w = .ok (.value (.iface 173 (.agg #[.pointer (some ⟨3, 31, none⟩)]))) w := by kernel_rfl
theorem idle_code (w : World) :
    CallsD Tryz.prog 67 #[] .returning w fun e u' w' => e = .returned (.tuple #[]) ∧ u' = .returning ∧ w' = w := by
  refine callsD_of_wpS Tryz.func67 rfl fun c₀ cs hu => ?_
  apply wpS_region
  cases c₀
  simp_all [wpOpsS, go_sem, recoverD, Tryz.ntmps67, bodyPostS, results, Tryz.results67]
theorem idle_fault (w : World) :
    CallsD Tryz.prog 69 #[] .returning w fun e u' w' => e = .returned (.tuple #[]) ∧ u' = .returning ∧ w' = w := by
  refine callsD_of_wpS Tryz.func69 rfl fun c₀ cs hu => ?_
  apply wpS_region
  cases c₀
  simp_all [wpOpsS, go_sem, recoverD, Tryz.ntmps69, bodyPostS, results, Tryz.results69]
end Go.Proofs.YtemhbmcgnmfoaaaGreatDoor

/- Closed facts on the entries for internal/reflectlite that errors.As comes to, at targets of type *api.Errno and *api.Fault. No conditions. -/
namespace Go.Proofs.YtemhbmcgnmfoaaaGreatDoor
open Go.RowKit Go.Extern.Stop Go.Stop Go.Extern
theorem ty_fault (x : Array Value) (w : World) : (callFunc 125 #[.iface 69 (.agg x)]).run Tryz.prog w = .ok (.value (.iface 173 (.agg #[.pointer (some ⟨3, 69, none⟩)]))) w := by kernel_rfl
theorem valueOf_code (t : Addr) (w : World) : (callFunc 96 #[.iface 100 (.pointer (some t))]).run Tryz.prog w
    = .ok (.value (.agg #[.pointer (some ⟨3, 100, none⟩), .pointer (some ⟨w.heap.size, 0, none⟩), .int .u64 150])) (w.alloc (.cells #[.pointer (some t)] 100)) := by kernel_rfl
theorem type_code (a : Addr) (w : World) : (callFunc 97 #[.agg #[.pointer (some ⟨3, 100, none⟩), .pointer (some a), .int .u64 150]]).run Tryz.prog w
    = .ok (.value (.iface 173 (.agg #[.pointer (some ⟨3, 100, none⟩)]))) w := by kernel_rfl
theorem kindP_code (w : World) : (callFunc 199 #[.pointer (some ⟨3, 100, none⟩)]).run Tryz.prog w = .ok (.value (.int .u8 22)) w := by kernel_rfl
theorem kindE_code (w : World) : (callFunc 199 #[.pointer (some ⟨3, 31, none⟩)]).run Tryz.prog w = .ok (.value (.int .u8 2)) w := by kernel_rfl
theorem elemT_code (w : World) : (callFunc 211 #[.agg #[.pointer (some ⟨3, 100, none⟩)]]).run Tryz.prog w = .ok (.value (.iface 173 (.agg #[.pointer (some ⟨3, 31, none⟩)]))) w := by kernel_rfl
theorem impl_code (w : World) : (callFunc 212 #[.agg #[.pointer (some ⟨3, 31, none⟩)], .iface 173 (.agg #[.pointer (some ⟨3, 27, none⟩)])]).run Tryz.prog w = .ok (.value (.bool true)) w := by kernel_rfl
theorem asg_fault_code (w : World) : (callFunc 209 #[.agg #[.pointer (some ⟨3, 69, none⟩)], .iface 173 (.agg #[.pointer (some ⟨3, 31, none⟩)])]).run Tryz.prog w = .ok (.value (.bool false)) w := by kernel_rfl
theorem asg_code_code (w : World) : (callFunc 209 #[.agg #[.pointer (some ⟨3, 31, none⟩)], .iface 173 (.agg #[.pointer (some ⟨3, 31, none⟩)])]).run Tryz.prog w = .ok (.value (.bool true)) w := by kernel_rfl
theorem partsP_code (a : Addr) (w : World) : (ReflectliteValue.parts (.agg #[.pointer (some ⟨3, 100, none⟩), .pointer (some a), .int .u64 150])).run Tryz.prog w = .ok (some (100, a, 150)) w := by kernel_rfl
theorem partsV_code (a : Addr) (w : World) : (ReflectliteValue.parts (.agg #[.pointer (some ⟨3, 31, none⟩), .pointer (some a), .int .u64 130])).run Tryz.prog w = .ok (some (31, a, 130)) w := by kernel_rfl
theorem partsA_code (a : Addr) (w : World) : (ReflectliteValue.parts (.agg #[.pointer (some ⟨3, 31, none⟩), .pointer (some a), .int .u64 386])).run Tryz.prog w = .ok (some (31, a, 386)) w := by kernel_rfl
theorem elemOfP_code (w : World) : (Rtype.elem? 100).run Tryz.prog w = .ok (some 31) w := by kernel_rfl
theorem mkE_code (p : Addr) (w : World) : (ReflectliteValue.mk 31 p ReflectliteValue.flagAddr).run Tryz.prog w = .ok (.agg #[.pointer (some ⟨3, 31, none⟩), .pointer (some p), .int .u64 386]) w := by kernel_rfl
theorem direct_code (w : World) : (Rtype.directlyAssignable 31 31).run Tryz.prog w = .ok true w := by kernel_rfl
theorem isNil_code (a p : Addr) (W : World) (ha : W.cell? a = some (.pointer (some p))) :
    (callFunc 98 #[.agg #[.pointer (some ⟨3, 100, none⟩), .pointer (some a), .int .u64 150]]).run Tryz.prog W = .ok (.value (.bool false)) W := by
  have h := @run_callFunc_extern Tryz.prog 98 _ (ReflectliteValue.method (ReflectliteValue.valueError "reflectlite.Value.IsNil" 0) ReflectliteValue.isNil) Tryz.func98 (by kernel_rfl) (by kernel_rfl) (by kernel_rfl) (by kernel_rfl)
  rw [h, show ReflectliteValue.method (ReflectliteValue.valueError "reflectlite.Value.IsNil" 0) ReflectliteValue.isNil #[.agg #[.pointer (some ⟨3, 100, none⟩), .pointer (some a), .int .u64 150]] = (ReflectliteValue.parts (.agg #[.pointer (some ⟨3, 100, none⟩), .pointer (some a), .int .u64 150]) >>= fun x => _) from rfl]
  simp only [Sem.run_bind, partsP_code, Result.andThen]
  simp [ReflectliteValue.isNil, loadVar, isAgg, underlying, Tryz.underlying100, ha, Result.andThen]
theorem elemV_code (a p : Addr) (W : World) (ha : W.cell? a = some (.pointer (some p))) :
    (callFunc 126 #[.agg #[.pointer (some ⟨3, 100, none⟩), .pointer (some a), .int .u64 150]]).run Tryz.prog W
      = .ok (.value (.agg #[.pointer (some ⟨3, 31, none⟩), .pointer (some p), .int .u64 386])) W := by
  have h := @run_callFunc_extern Tryz.prog 126 _ (ReflectliteValue.method (ReflectliteValue.valueError "reflectlite.Value.Elem" 0) ReflectliteValue.elem) Tryz.func126 (by kernel_rfl) (by kernel_rfl) (by kernel_rfl) (by kernel_rfl)
  rw [h, show ReflectliteValue.method (ReflectliteValue.valueError "reflectlite.Value.Elem" 0) ReflectliteValue.elem #[.agg #[.pointer (some ⟨3, 100, none⟩), .pointer (some a), .int .u64 150]] = (ReflectliteValue.parts (.agg #[.pointer (some ⟨3, 100, none⟩), .pointer (some a), .int .u64 150]) >>= fun x => _) from rfl]
  simp only [Sem.run_bind, partsP_code, Result.andThen]
  simp [ReflectliteValue.elem, loadVar, isAgg, underlying, Tryz.underlying100, ha, Result.andThen, elemOfP_code, mkE_code]
theorem valueOfV_code (c : Int) (w : World) : (callFunc 96 #[.iface 31 (.int .i64 c)]).run Tryz.prog w
    = .ok (.value (.agg #[.pointer (some ⟨3, 31, none⟩), .pointer (some ⟨w.heap.size, 0, none⟩), .int .u64 130])) (w.alloc (.cells #[.int .i64 c] 31)) := by kernel_rfl
theorem set_code (ta b : Addr) (c : Int) (old : Value) (W : World) (hb : W.cell? b = some (.int .i64 c)) (ht : W.cell? ta = some old) (hf : W.frozen? ta = false) :
    (callFunc 127 #[.agg #[.pointer (some ⟨3, 31, none⟩), .pointer (some ta), .int .u64 386], .agg #[.pointer (some ⟨3, 31, none⟩), .pointer (some b), .int .u64 130]]).run Tryz.prog W
      = .ok (.value (.tuple #[])) (W.setCell ta (.int .i64 c)) := by
  have h := @run_callFunc_extern Tryz.prog 127 _ ReflectliteValue.set Tryz.func127 (by kernel_rfl) (by kernel_rfl) (by kernel_rfl) (by kernel_rfl)
  rw [h, show ReflectliteValue.set #[.agg #[.pointer (some ⟨3, 31, none⟩), .pointer (some ta), .int .u64 386], .agg #[.pointer (some ⟨3, 31, none⟩), .pointer (some b), .int .u64 130]] = (ReflectliteValue.parts (.agg #[.pointer (some ⟨3, 31, none⟩), .pointer (some ta), .int .u64 386]) >>= fun x => ReflectliteValue.parts (.agg #[.pointer (some ⟨3, 31, none⟩), .pointer (some b), .int .u64 130]) >>= fun y => _) from rfl]
  simp only [Sem.run_bind, partsA_code, partsV_code, Result.andThen]
  simp [ReflectliteValue.flagAddr, loadVar, isAgg, underlying, Tryz.underlying31, hb, Result.andThen, direct_code, storeVar, Value.cells, storeCells, Addr.add]
  rw [run_store Tryz.prog W ta _ _ (by rfl)]
  simp [ht, hf]
theorem valueOf_fault (t : Addr) (w : World) : (callFunc 96 #[.iface 101 (.pointer (some t))]).run Tryz.prog w
    = .ok (.value (.agg #[.pointer (some ⟨3, 101, none⟩), .pointer (some ⟨w.heap.size, 0, none⟩), .int .u64 150])) (w.alloc (.cells #[.pointer (some t)] 101)) := by kernel_rfl
theorem type_fault (a : Addr) (w : World) : (callFunc 97 #[.agg #[.pointer (some ⟨3, 101, none⟩), .pointer (some a), .int .u64 150]]).run Tryz.prog w
    = .ok (.value (.iface 173 (.agg #[.pointer (some ⟨3, 101, none⟩)]))) w := by kernel_rfl
theorem kindP_fault (w : World) : (callFunc 199 #[.pointer (some ⟨3, 101, none⟩)]).run Tryz.prog w = .ok (.value (.int .u8 22)) w := by kernel_rfl
theorem kindE_fault (w : World) : (callFunc 199 #[.pointer (some ⟨3, 69, none⟩)]).run Tryz.prog w = .ok (.value (.int .u8 25)) w := by kernel_rfl
theorem elemT_fault (w : World) : (callFunc 211 #[.agg #[.pointer (some ⟨3, 101, none⟩)]]).run Tryz.prog w = .ok (.value (.iface 173 (.agg #[.pointer (some ⟨3, 69, none⟩)]))) w := by kernel_rfl
theorem impl_fault (w : World) : (callFunc 212 #[.agg #[.pointer (some ⟨3, 69, none⟩)], .iface 173 (.agg #[.pointer (some ⟨3, 27, none⟩)])]).run Tryz.prog w = .ok (.value (.bool true)) w := by kernel_rfl
theorem asg_fault_fault (w : World) : (callFunc 209 #[.agg #[.pointer (some ⟨3, 69, none⟩)], .iface 173 (.agg #[.pointer (some ⟨3, 69, none⟩)])]).run Tryz.prog w = .ok (.value (.bool true)) w := by kernel_rfl
theorem asg_code_fault (w : World) : (callFunc 209 #[.agg #[.pointer (some ⟨3, 31, none⟩)], .iface 173 (.agg #[.pointer (some ⟨3, 69, none⟩)])]).run Tryz.prog w = .ok (.value (.bool false)) w := by kernel_rfl
theorem partsP_fault (a : Addr) (w : World) : (ReflectliteValue.parts (.agg #[.pointer (some ⟨3, 101, none⟩), .pointer (some a), .int .u64 150])).run Tryz.prog w = .ok (some (101, a, 150)) w := by kernel_rfl
theorem partsV_fault (a : Addr) (w : World) : (ReflectliteValue.parts (.agg #[.pointer (some ⟨3, 69, none⟩), .pointer (some a), .int .u64 153])).run Tryz.prog w = .ok (some (69, a, 153)) w := by kernel_rfl
theorem partsA_fault (a : Addr) (w : World) : (ReflectliteValue.parts (.agg #[.pointer (some ⟨3, 69, none⟩), .pointer (some a), .int .u64 409])).run Tryz.prog w = .ok (some (69, a, 409)) w := by kernel_rfl
theorem elemOfP_fault (w : World) : (Rtype.elem? 101).run Tryz.prog w = .ok (some 69) w := by kernel_rfl
theorem mkE_fault (p : Addr) (w : World) : (ReflectliteValue.mk 69 p ReflectliteValue.flagAddr).run Tryz.prog w = .ok (.agg #[.pointer (some ⟨3, 69, none⟩), .pointer (some p), .int .u64 409]) w := by kernel_rfl
theorem direct_fault (w : World) : (Rtype.directlyAssignable 69 69).run Tryz.prog w = .ok true w := by kernel_rfl
theorem isNil_fault (a p : Addr) (W : World) (ha : W.cell? a = some (.pointer (some p))) :
    (callFunc 98 #[.agg #[.pointer (some ⟨3, 101, none⟩), .pointer (some a), .int .u64 150]]).run Tryz.prog W = .ok (.value (.bool false)) W := by
  have h := @run_callFunc_extern Tryz.prog 98 _ (ReflectliteValue.method (ReflectliteValue.valueError "reflectlite.Value.IsNil" 0) ReflectliteValue.isNil) Tryz.func98 (by kernel_rfl) (by kernel_rfl) (by kernel_rfl) (by kernel_rfl)
  rw [h, show ReflectliteValue.method (ReflectliteValue.valueError "reflectlite.Value.IsNil" 0) ReflectliteValue.isNil #[.agg #[.pointer (some ⟨3, 101, none⟩), .pointer (some a), .int .u64 150]] = (ReflectliteValue.parts (.agg #[.pointer (some ⟨3, 101, none⟩), .pointer (some a), .int .u64 150]) >>= fun x => _) from rfl]
  simp only [Sem.run_bind, partsP_fault, Result.andThen]
  simp [ReflectliteValue.isNil, loadVar, isAgg, underlying, Tryz.underlying101, ha, Result.andThen]
theorem elemV_fault (a p : Addr) (W : World) (ha : W.cell? a = some (.pointer (some p))) :
    (callFunc 126 #[.agg #[.pointer (some ⟨3, 101, none⟩), .pointer (some a), .int .u64 150]]).run Tryz.prog W
      = .ok (.value (.agg #[.pointer (some ⟨3, 69, none⟩), .pointer (some p), .int .u64 409])) W := by
  have h := @run_callFunc_extern Tryz.prog 126 _ (ReflectliteValue.method (ReflectliteValue.valueError "reflectlite.Value.Elem" 0) ReflectliteValue.elem) Tryz.func126 (by kernel_rfl) (by kernel_rfl) (by kernel_rfl) (by kernel_rfl)
  rw [h, show ReflectliteValue.method (ReflectliteValue.valueError "reflectlite.Value.Elem" 0) ReflectliteValue.elem #[.agg #[.pointer (some ⟨3, 101, none⟩), .pointer (some a), .int .u64 150]] = (ReflectliteValue.parts (.agg #[.pointer (some ⟨3, 101, none⟩), .pointer (some a), .int .u64 150]) >>= fun x => _) from rfl]
  simp only [Sem.run_bind, partsP_fault, Result.andThen]
  simp [ReflectliteValue.elem, loadVar, isAgg, underlying, Tryz.underlying101, ha, Result.andThen, elemOfP_fault, mkE_fault]
theorem valueOfV_fault (c x : Int) (w : World) : (callFunc 96 #[.iface 69 (.agg #[.int .i64 c, .int .i64 x])]).run Tryz.prog w
    = .ok (.value (.agg #[.pointer (some ⟨3, 69, none⟩), .pointer (some ⟨w.heap.size, 0, none⟩), .int .u64 153])) (w.alloc (.cells #[.int .i64 c, .int .i64 x] 69)) := by kernel_rfl
theorem set_fault (ta b : Nat) (c x : Int) (o1 o2 : Value) (W : World) (hb : W.cell? ⟨b, 0, none⟩ = some (.int .i64 c)) (hb1 : W.cell? ⟨b, 1, none⟩ = some (.int .i64 x))
    (ht : W.cell? ⟨ta, 0, none⟩ = some o1) (ht1 : W.cell? ⟨ta, 1, none⟩ = some o2) (hf : W.frozen? ⟨ta, 0, none⟩ = false) (hf1 : W.frozen? ⟨ta, 1, none⟩ = false) :
    (callFunc 127 #[.agg #[.pointer (some ⟨3, 69, none⟩), .pointer (some ⟨ta, 0, none⟩), .int .u64 409], .agg #[.pointer (some ⟨3, 69, none⟩), .pointer (some ⟨b, 0, none⟩), .int .u64 153]]).run Tryz.prog W
      = .ok (.value (.tuple #[])) ((W.setCell ⟨ta, 0, none⟩ (.int .i64 c)).setCell ⟨ta, 1, none⟩ (.int .i64 x)) := by
  have h := @run_callFunc_extern Tryz.prog 127 _ ReflectliteValue.set Tryz.func127 (by kernel_rfl) (by kernel_rfl) (by kernel_rfl) (by kernel_rfl)
  have hs : ∀ w, (sizeOf 69).run Tryz.prog w = .ok 2 w := fun _ => by kernel_rfl
  have hsx : (W.setCell ⟨ta, 0, none⟩ (.int .i64 c)).cell? ⟨ta, 1, none⟩ = some o2 := by
    rw [World.cell?_setCell_other _ _ _ _ (by simp)]; exact ht1
  have hfx : (W.setCell ⟨ta, 0, none⟩ (.int .i64 c)).frozen? ⟨ta, 1, none⟩ = false := by simpa using hf1
  rw [h, show ReflectliteValue.set #[.agg #[.pointer (some ⟨3, 69, none⟩), .pointer (some ⟨ta, 0, none⟩), .int .u64 409], .agg #[.pointer (some ⟨3, 69, none⟩), .pointer (some ⟨b, 0, none⟩), .int .u64 153]] = (ReflectliteValue.parts (.agg #[.pointer (some ⟨3, 69, none⟩), .pointer (some ⟨ta, 0, none⟩), .int .u64 409]) >>= fun x => ReflectliteValue.parts (.agg #[.pointer (some ⟨3, 69, none⟩), .pointer (some ⟨b, 0, none⟩), .int .u64 153]) >>= fun y => _) from rfl]
  simp only [Sem.run_bind, partsA_fault, partsV_fault, Result.andThen]
  simp [ReflectliteValue.flagAddr, loadVar, isAgg, underlying, Tryz.underlying69, hb, hb1, loadCells, loadCellsFrom, hs, Result.andThen, direct_fault, storeVar, Value.cells, storeCells, Addr.add]
  rw [run_store Tryz.prog W ⟨ta, 0, none⟩ _ _ (by rfl)]
  simp [ht, hf]
  rw [run_store Tryz.prog _ ⟨ta, 1, none⟩ _ _ (by rfl)]
  simp [hsx, hfx]
end Go.Proofs.YtemhbmcgnmfoaaaGreatDoor
