/- A literal map with the keys true and false, made, filled and asked once: the three operations as equations. No conditions. -/
import Derived.Test.YtciinnkcjiibfaaDoorCells
import Derived.MapKept
import Derived.Carry
namespace Go.Proofs.YtciinnkcjiibfaaDoor
open Go.RowKit Go.MapKept

def putMap (w : World) (r : Nat) (o : Obj) : World := { w with heap := w.heap.setIfInBounds r o }
section
variable {P : Program} {t kt et : TypeId} {w : World} {r : Nat}
theorem putMap_at {o : Obj} (hb : w.heap[r]? = some o) (o' : Obj) : (putMap w r o').heap[r]? = some o' := (heap_set hb).1
theorem putMap_below {B : Nat} {a : World} (h : Below B a w) (hr : B ≤ r) (o : Obj) : Below B a (putMap w r o) :=
  h.trans ⟨rfl, rfl, rfl, by simp [putMap], fun k hk => by
    unfold putMap
    simp only
    rw [Array.getElem?_setIfInBounds_ne (by omega)]⟩
theorem run_put0 (ht : P.underlying t = some (.map kt et)) (hk : P.underlying kt = some .bool) (b : Bool) (v : Value) (hb : w.heap[r]? = some (.map #[] 0)) :
    (Instr.mapUpdate t (.map (some r)) (.bool b) v).run P w = .ok () (putMap w r (.map #[{ key := .bool b, val := v, born := 0 }] 1)) := by
  have hf : Instr.findNow .bool (.bool b) ([] : List MapEntry) 0 = some none := rfl
  have hc : (Instr.checkKey false 10000 kt (.bool b)).run P w = .ok () w := run_checkKey (k := .bool b) hk (by simp [IsKey]) false 9999
  simp [Instr.mapUpdate, run_underlying ht, Go.MapKept.run_getObj_map hb, hc, Go.MapKept.run_findKey hk hf, Go.MapKept.run_setObj_map _ hb, Result.andThen, putMap]
theorem run_put1 (ht : P.underlying t = some (.map kt et)) (hk : P.underlying kt = some .bool) (u v : Value) (hb : w.heap[r]? = some (.map #[{ key := .bool true, val := u, born := 0 }] 1)) :
    (Instr.mapUpdate t (.map (some r)) (.bool false) v).run P w = .ok () (putMap w r (.map #[{ key := .bool true, val := u, born := 0 }, { key := .bool false, val := v, born := 1 }] 2)) := by
  have hf : Instr.findNow .bool (.bool false) [({ key := .bool true, val := u, born := 0 } : MapEntry)] 0 = some none := rfl
  have hc : (Instr.checkKey false 10000 kt (.bool false)).run P w = .ok () w := run_checkKey (k := .bool false) hk (by simp [IsKey]) false 9999
  simp [Instr.mapUpdate, run_underlying ht, Go.MapKept.run_getObj_map hb, hc, Go.MapKept.run_findKey hk hf, Go.MapKept.run_setObj_map _ hb, Result.andThen, putMap]
theorem run_look2 (ht : P.underlying t = some (.map kt et)) (hk : P.underlying kt = some .bool) (b : Bool) (u v : Value) (hb : w.heap[r]? = some (.map #[{ key := .bool true, val := u, born := 0 }, { key := .bool false, val := v, born := 1 }] 2)) :
    (Instr.lookup t (.map (some r)) (.bool b) false).run P w = .ok (if b then u else v) w := by
  have hc : ∀ e, (Instr.checkKey e 10000 kt (.bool b)).run P w = .ok () w := fun e => run_checkKey (k := .bool b) hk (by simp [IsKey]) e 9999
  cases b with
  | true =>
    have hf : Instr.findNow .bool (.bool true) [({ key := .bool true, val := u, born := 0 } : MapEntry), { key := .bool false, val := v, born := 1 }] 0 = some (some (0, u)) := rfl
    simp [Instr.lookup, run_underlying ht, Go.MapKept.run_getObj_map hb, hc, Go.MapKept.run_findKey hk hf, Result.andThen]
  | false =>
    have hf : Instr.findNow .bool (.bool false) [({ key := .bool true, val := u, born := 0 } : MapEntry), { key := .bool false, val := v, born := 1 }] 0 = some (some (1, v)) := rfl
    simp [Instr.lookup, run_underlying ht, Go.MapKept.run_getObj_map hb, hc, Go.MapKept.run_findKey hk hf, Result.andThen]
theorem alloc_map_at (w : World) : (w.alloc (.map #[] 0)).heap[w.heap.size]? = some (.map #[] 0) := by
  show (w.heap.push _)[w.heap.size]? = _
  simp
end
end Go.Proofs.YtciinnkcjiibfaaDoor
