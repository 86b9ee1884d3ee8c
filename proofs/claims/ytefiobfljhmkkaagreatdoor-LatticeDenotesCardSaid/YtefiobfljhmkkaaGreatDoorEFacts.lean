/- Closed facts on the entries for internal/reflectlite that errors.As comes to, at targets of type *api.Errno and *api.Fault. No conditions. -/
import Derived.Test.YtefiobfljhmkkaaGreatDoorEBase
namespace Go.Proofs.YtefiobfljhmkkaaGreatDoor
open Go.RowKit Go.Extern.Stop Go.Stop Go.Extern
theorem ty_fault (x : Array Value) (w : World) : (callFunc 115 #[.iface 108 (.agg x)]).run Tryz.prog w = .ok (.value (.iface 166 (.agg #[.pointer (some ⟨1, 108, none⟩)]))) w := by kernel_rfl
theorem valueOf_code (t : Addr) (w : World) : (callFunc 97 #[.iface 128 (.pointer (some t))]).run Tryz.prog w
    = .ok (.value (.agg #[.pointer (some ⟨1, 128, none⟩), .pointer (some ⟨w.heap.size, 0, none⟩), .int .u64 150])) (w.alloc (.cells #[.pointer (some t)] 128)) := by kernel_rfl
theorem type_code (a : Addr) (w : World) : (callFunc 98 #[.agg #[.pointer (some ⟨1, 128, none⟩), .pointer (some a), .int .u64 150]]).run Tryz.prog w
    = .ok (.value (.iface 166 (.agg #[.pointer (some ⟨1, 128, none⟩)]))) w := by kernel_rfl
theorem kindP_code (w : World) : (callFunc 140 #[.pointer (some ⟨1, 128, none⟩)]).run Tryz.prog w = .ok (.value (.int .u8 22)) w := by kernel_rfl
theorem kindE_code (w : World) : (callFunc 140 #[.pointer (some ⟨1, 78, none⟩)]).run Tryz.prog w = .ok (.value (.int .u8 2)) w := by kernel_rfl
theorem elemT_code (w : World) : (callFunc 152 #[.agg #[.pointer (some ⟨1, 128, none⟩)]]).run Tryz.prog w = .ok (.value (.iface 166 (.agg #[.pointer (some ⟨1, 78, none⟩)]))) w := by kernel_rfl
theorem impl_code (w : World) : (callFunc 153 #[.agg #[.pointer (some ⟨1, 78, none⟩)], .iface 166 (.agg #[.pointer (some ⟨1, 46, none⟩)])]).run Tryz.prog w = .ok (.value (.bool true)) w := by kernel_rfl
theorem asg_fault_code (w : World) : (callFunc 150 #[.agg #[.pointer (some ⟨1, 108, none⟩)], .iface 166 (.agg #[.pointer (some ⟨1, 78, none⟩)])]).run Tryz.prog w = .ok (.value (.bool false)) w := by kernel_rfl
theorem asg_code_code (w : World) : (callFunc 150 #[.agg #[.pointer (some ⟨1, 78, none⟩)], .iface 166 (.agg #[.pointer (some ⟨1, 78, none⟩)])]).run Tryz.prog w = .ok (.value (.bool true)) w := by kernel_rfl
theorem partsP_code (a : Addr) (w : World) : (ReflectliteValue.parts (.agg #[.pointer (some ⟨1, 128, none⟩), .pointer (some a), .int .u64 150])).run Tryz.prog w = .ok (some (128, a, 150)) w := by kernel_rfl
theorem partsV_code (a : Addr) (w : World) : (ReflectliteValue.parts (.agg #[.pointer (some ⟨1, 78, none⟩), .pointer (some a), .int .u64 130])).run Tryz.prog w = .ok (some (78, a, 130)) w := by kernel_rfl
theorem partsA_code (a : Addr) (w : World) : (ReflectliteValue.parts (.agg #[.pointer (some ⟨1, 78, none⟩), .pointer (some a), .int .u64 386])).run Tryz.prog w = .ok (some (78, a, 386)) w := by kernel_rfl
theorem elemOfP_code (w : World) : (Rtype.elem? 128).run Tryz.prog w = .ok (some 78) w := by kernel_rfl
theorem mkE_code (p : Addr) (w : World) : (ReflectliteValue.mk 78 p ReflectliteValue.flagAddr).run Tryz.prog w = .ok (.agg #[.pointer (some ⟨1, 78, none⟩), .pointer (some p), .int .u64 386]) w := by kernel_rfl
theorem direct_code (w : World) : (Rtype.directlyAssignable 78 78).run Tryz.prog w = .ok true w := by kernel_rfl
theorem isNil_code (a p : Addr) (W : World) (ha : W.cell? a = some (.pointer (some p))) :
    (callFunc 99 #[.agg #[.pointer (some ⟨1, 128, none⟩), .pointer (some a), .int .u64 150]]).run Tryz.prog W = .ok (.value (.bool false)) W := by
  have h := @run_callFunc_extern Tryz.prog 99 _ (ReflectliteValue.method (ReflectliteValue.valueError "reflectlite.Value.IsNil" 0) ReflectliteValue.isNil) Tryz.func99 (by kernel_rfl) (by kernel_rfl) (by kernel_rfl) (by kernel_rfl)
  rw [h, show ReflectliteValue.method (ReflectliteValue.valueError "reflectlite.Value.IsNil" 0) ReflectliteValue.isNil #[.agg #[.pointer (some ⟨1, 128, none⟩), .pointer (some a), .int .u64 150]] = (ReflectliteValue.parts (.agg #[.pointer (some ⟨1, 128, none⟩), .pointer (some a), .int .u64 150]) >>= fun x => _) from rfl]
  simp only [Sem.run_bind, partsP_code, Result.andThen]
  simp [ReflectliteValue.isNil, loadVar, isAgg, underlying, Tryz.underlying128, ha, Result.andThen]
theorem elemV_code (a p : Addr) (W : World) (ha : W.cell? a = some (.pointer (some p))) :
    (callFunc 116 #[.agg #[.pointer (some ⟨1, 128, none⟩), .pointer (some a), .int .u64 150]]).run Tryz.prog W
      = .ok (.value (.agg #[.pointer (some ⟨1, 78, none⟩), .pointer (some p), .int .u64 386])) W := by
  have h := @run_callFunc_extern Tryz.prog 116 _ (ReflectliteValue.method (ReflectliteValue.valueError "reflectlite.Value.Elem" 0) ReflectliteValue.elem) Tryz.func116 (by kernel_rfl) (by kernel_rfl) (by kernel_rfl) (by kernel_rfl)
  rw [h, show ReflectliteValue.method (ReflectliteValue.valueError "reflectlite.Value.Elem" 0) ReflectliteValue.elem #[.agg #[.pointer (some ⟨1, 128, none⟩), .pointer (some a), .int .u64 150]] = (ReflectliteValue.parts (.agg #[.pointer (some ⟨1, 128, none⟩), .pointer (some a), .int .u64 150]) >>= fun x => _) from rfl]
  simp only [Sem.run_bind, partsP_code, Result.andThen]
  simp [ReflectliteValue.elem, loadVar, isAgg, underlying, Tryz.underlying128, ha, Result.andThen, elemOfP_code, mkE_code]
theorem valueOfV_code (c : Int) (w : World) : (callFunc 97 #[.iface 78 (.int .i64 c)]).run Tryz.prog w
    = .ok (.value (.agg #[.pointer (some ⟨1, 78, none⟩), .pointer (some ⟨w.heap.size, 0, none⟩), .int .u64 130])) (w.alloc (.cells #[.int .i64 c] 78)) := by kernel_rfl
theorem set_code (ta b : Addr) (c : Int) (old : Value) (W : World) (hb : W.cell? b = some (.int .i64 c)) (ht : W.cell? ta = some old) (hf : W.frozen? ta = false) :
    (callFunc 117 #[.agg #[.pointer (some ⟨1, 78, none⟩), .pointer (some ta), .int .u64 386], .agg #[.pointer (some ⟨1, 78, none⟩), .pointer (some b), .int .u64 130]]).run Tryz.prog W
      = .ok (.value (.tuple #[])) (W.setCell ta (.int .i64 c)) := by
  have h := @run_callFunc_extern Tryz.prog 117 _ ReflectliteValue.set Tryz.func117 (by kernel_rfl) (by kernel_rfl) (by kernel_rfl) (by kernel_rfl)
  rw [h, show ReflectliteValue.set #[.agg #[.pointer (some ⟨1, 78, none⟩), .pointer (some ta), .int .u64 386], .agg #[.pointer (some ⟨1, 78, none⟩), .pointer (some b), .int .u64 130]] = (ReflectliteValue.parts (.agg #[.pointer (some ⟨1, 78, none⟩), .pointer (some ta), .int .u64 386]) >>= fun x => ReflectliteValue.parts (.agg #[.pointer (some ⟨1, 78, none⟩), .pointer (some b), .int .u64 130]) >>= fun y => _) from rfl]
  simp only [Sem.run_bind, partsA_code, partsV_code, Result.andThen]
  simp [ReflectliteValue.flagAddr, loadVar, isAgg, underlying, Tryz.underlying78, hb, Result.andThen, direct_code, storeVar, Value.cells, storeCells, Addr.add]
  rw [run_store Tryz.prog W ta _ _ (by rfl)]
  simp [ht, hf]
end Go.Proofs.YtefiobfljhmkkaaGreatDoor
