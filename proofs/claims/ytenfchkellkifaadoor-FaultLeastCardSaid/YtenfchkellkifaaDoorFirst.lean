/- errors.As and first, for errors in memory: the first code and the first fault of the chain. Condition: the variable errors.errorType holds the type error. -/
import Derived.Test.YtenfchkellkifaaDoorAsFault
namespace Go.Proofs.YtenfchkellkifaaDoor
open Go.RowKit Go.Extern.Stop Go.Stop Go.Extern

/-- The package-level variable errors.errorType holds its type. -/
def ErrT (w : World) : Prop := w.cell? ⟨0, 0, none⟩ = some (.iface 86 (.agg #[.pointer (some ⟨1, 23, none⟩)]))

theorem ErrT.lt {w : World} (h : ErrT w) : 0 < w.heap.size := World.block_lt_of_cell? w _ h
theorem ErrT.below {w w' : World} {B : Nat} (h : ErrT w) (hb : Below B w w') (hB : 0 < B) : ErrT w' := by
  unfold ErrT at *; rw [hb.cell (p := ⟨0, 0, none⟩) hB]; exact h
theorem ErrT.here {w w' : World} (h : ErrT w) (hb : Below w.heap.size w w') : ErrT w' := h.below hb h.lt

theorem As_nil (t : Value) (w : World) :
    Calls Tryd.prog 22 #[.nilIface, t] w fun e w' => e = .returned (.bool false) ∧ w = w' := by
  go_enter Tryd.func22, Tryd.ntmps22
  go_wp2
  go_ret
  exact ⟨rfl, rfl⟩

set_option maxRecDepth 100000 in
set_option maxHeartbeats 4000000 in
theorem As_code (b : Option (Int × Option Int)) (s : ByteArray) (ns : List ByteArray) (v : Value) (tb : Nat) (old : Value) (w : World) (hg : ErrT w)
    (h : ErrV tb w b s ns v) (ht : w.cell? ⟨tb, 0, none⟩ = some old) (hf : w.frozen? ⟨tb, 0, none⟩ = false) (hgt : 0 < tb) :
    Calls Tryd.prog 22 #[v, .iface 93 (.pointer (some ⟨tb, 0, none⟩))] w (AsCode b tb w) := by
  have htl : tb < w.heap.size := World.block_lt_of_cell? w _ ht
  have hB : Below tb w ((w.alloc (.cells #[.pointer (some ⟨tb, 0, none⟩)] 93)).alloc (.cells #[.pointer (some ⟨1, 93, none⟩), .pointer (some ⟨w.heap.size, 0, none⟩), .int .u64 150] 72)) :=
    ((Below.refl _ _).alloc (Nat.le_of_lt htl) _).alloc (by simp; omega) _
  have e0 : ((w.alloc (.cells #[.pointer (some ⟨tb, 0, none⟩)] 93)).alloc (.cells #[.pointer (some ⟨1, 93, none⟩), .pointer (some ⟨w.heap.size, 0, none⟩), .int .u64 150] 72)).cell? ⟨w.heap.size, 0, none⟩ = some (.pointer (some ⟨tb, 0, none⟩)) := by
    rw [World.cell?_alloc_lt _ _ ⟨w.heap.size, 0, none⟩ (by simp)]; simp
  have hg2 : ((w.alloc (.cells #[.pointer (some ⟨tb, 0, none⟩)] 93)).alloc (.cells #[.pointer (some ⟨1, 93, none⟩), .pointer (some ⟨w.heap.size, 0, none⟩), .int .u64 150] 72)).cell? ⟨0, 0, none⟩ = some (.iface 86 (.agg #[.pointer (some ⟨1, 23, none⟩)])) :=
    hg.below hB hgt
  have n8 := isNil_code ⟨w.heap.size, 0, none⟩ ⟨tb, 0, none⟩ ((w.alloc (.cells #[.pointer (some ⟨tb, 0, none⟩)] 93)).alloc (.cells #[.pointer (some ⟨1, 93, none⟩), .pointer (some ⟨w.heap.size, 0, none⟩), .int .u64 150] 72)) e0
  have k := as_code b s ns v w.heap.size tb old ((w.alloc (.cells #[.pointer (some ⟨tb, 0, none⟩)] 93)).alloc (.cells #[.pointer (some ⟨1, 93, none⟩), .pointer (some ⟨w.heap.size, 0, none⟩), .int .u64 150] 72))
    (h.below hB (Nat.le_refl _)) e0 (by simp; omega) (by rw [World.cell?_alloc_lt _ _ ⟨tb, 0, none⟩ (by simp; omega), World.cell?_alloc_lt _ _ ⟨tb, 0, none⟩ htl]; exact ht)
    (by rw [World.frozen?_alloc_old _ _ ⟨tb, 0, none⟩ (by simp; omega), World.frozen?_alloc_old _ _ ⟨tb, 0, none⟩ (Nat.ne_of_lt htl)]; exact hf) (by simp; omega)
  have K := Lib.hid k; clear k
  have HB := Lib.hid hB; clear hB
  have Ht := Lib.hid ht; clear ht
  have Hf := Lib.hid hf; clear hf
  have Hg := Lib.hid hg; clear hg
  have E0 := Lib.hid e0; clear e0
  obtain ⟨ty, x, rfl⟩ := h.not_nil
  have H := Lib.hid h; clear h
  have f1 := valueOf_code
  have f2 := type_code
  have f3 := rt_kind
  have f4 := kindP_code
  have f5 := kindE_code
  have f6 := rt_elem
  have f7 := elemT_code
  have f8 := rt_impl
  have f9 := impl_code
  go_enter Tryd.func22, Tryd.ntmps22
  go_wp2_with fail
  refine K.out.mono ?_
  intro e w' he
  cases b with
  | none =>
    obtain ⟨rfl, hb⟩ := he
    have Hb := Lib.hid hb; clear hb
    go_wp2_with fail
    go_ret
    exact ⟨rfl, HB.out.trans Hb.out⟩
  | some y =>
    obtain ⟨rfl, hb, hc⟩ := he
    have Hb := Lib.hid hb; clear hb
    have Hc := Lib.hid hc; clear hc
    go_wp2_with fail
    go_ret
    exact ⟨rfl, HB.out.trans Hb.out, Hc.out⟩
set_option maxRecDepth 100000 in
set_option maxHeartbeats 4000000 in
theorem As_fault (b : Option (Int × Option Int)) (s : ByteArray) (ns : List ByteArray) (v : Value) (tb : Nat) (old o2 : Value) (w : World) (hg : ErrT w)
    (h : ErrV tb w b s ns v) (ht : w.cell? ⟨tb, 0, none⟩ = some old) (hf : w.frozen? ⟨tb, 0, none⟩ = false) (ht1 : w.cell? ⟨tb, 1, none⟩ = some o2) (hf1 : w.frozen? ⟨tb, 1, none⟩ = false) (hgt : 0 < tb) :
    Calls Tryd.prog 22 #[v, .iface 47 (.pointer (some ⟨tb, 0, none⟩))] w (AsFault b tb w) := by
  have htl : tb < w.heap.size := World.block_lt_of_cell? w _ ht
  have hB : Below tb w ((w.alloc (.cells #[.pointer (some ⟨tb, 0, none⟩)] 47)).alloc (.cells #[.pointer (some ⟨1, 47, none⟩), .pointer (some ⟨w.heap.size, 0, none⟩), .int .u64 150] 72)) :=
    ((Below.refl _ _).alloc (Nat.le_of_lt htl) _).alloc (by simp; omega) _
  have e0 : ((w.alloc (.cells #[.pointer (some ⟨tb, 0, none⟩)] 47)).alloc (.cells #[.pointer (some ⟨1, 47, none⟩), .pointer (some ⟨w.heap.size, 0, none⟩), .int .u64 150] 72)).cell? ⟨w.heap.size, 0, none⟩ = some (.pointer (some ⟨tb, 0, none⟩)) := by
    rw [World.cell?_alloc_lt _ _ ⟨w.heap.size, 0, none⟩ (by simp)]; simp
  have hg2 : ((w.alloc (.cells #[.pointer (some ⟨tb, 0, none⟩)] 47)).alloc (.cells #[.pointer (some ⟨1, 47, none⟩), .pointer (some ⟨w.heap.size, 0, none⟩), .int .u64 150] 72)).cell? ⟨0, 0, none⟩ = some (.iface 86 (.agg #[.pointer (some ⟨1, 23, none⟩)])) :=
    hg.below hB hgt
  have n8 := isNil_fault ⟨w.heap.size, 0, none⟩ ⟨tb, 0, none⟩ ((w.alloc (.cells #[.pointer (some ⟨tb, 0, none⟩)] 47)).alloc (.cells #[.pointer (some ⟨1, 47, none⟩), .pointer (some ⟨w.heap.size, 0, none⟩), .int .u64 150] 72)) e0
  have k := as_fault b s ns v w.heap.size tb old o2 ((w.alloc (.cells #[.pointer (some ⟨tb, 0, none⟩)] 47)).alloc (.cells #[.pointer (some ⟨1, 47, none⟩), .pointer (some ⟨w.heap.size, 0, none⟩), .int .u64 150] 72))
    (h.below hB (Nat.le_refl _)) e0 (by simp; omega) (by rw [World.cell?_alloc_lt _ _ ⟨tb, 0, none⟩ (by simp; omega), World.cell?_alloc_lt _ _ ⟨tb, 0, none⟩ htl]; exact ht)
    (by rw [World.frozen?_alloc_old _ _ ⟨tb, 0, none⟩ (by simp; omega), World.frozen?_alloc_old _ _ ⟨tb, 0, none⟩ (Nat.ne_of_lt htl)]; exact hf) (by rw [World.cell?_alloc_lt _ _ ⟨tb, 1, none⟩ (by simp; omega), World.cell?_alloc_lt _ _ ⟨tb, 1, none⟩ htl]; exact ht1)
    (by rw [World.frozen?_alloc_old _ _ ⟨tb, 1, none⟩ (by simp; omega), World.frozen?_alloc_old _ _ ⟨tb, 1, none⟩ (Nat.ne_of_lt htl)]; exact hf1) (by simp; omega)
  have K := Lib.hid k; clear k
  have HB := Lib.hid hB; clear hB
  have Ht := Lib.hid ht; clear ht
  have Hf := Lib.hid hf; clear hf
  have Ht1 := Lib.hid ht1; clear ht1
  have Hf1 := Lib.hid hf1; clear hf1
  have Hg := Lib.hid hg; clear hg
  have E0 := Lib.hid e0; clear e0
  obtain ⟨ty, x, rfl⟩ := h.not_nil
  have H := Lib.hid h; clear h
  have f1 := valueOf_fault
  have f2 := type_fault
  have f3 := rt_kind
  have f4 := kindP_fault
  have f5 := kindE_fault
  have f6 := rt_elem
  have f7 := elemT_fault
  have f8 := rt_impl
  have f9 := impl_fault
  go_enter Tryd.func22, Tryd.ntmps22
  go_wp2_with fail
  refine K.out.mono ?_
  intro e w' he
  rcases b with _ | ⟨c, _ | o⟩
  · obtain ⟨rfl, hb⟩ := he
    have Hb := Lib.hid hb; clear hb
    go_wp2_with fail
    go_ret
    exact ⟨rfl, HB.out.trans Hb.out⟩
  · obtain ⟨rfl, hb⟩ := he
    have Hb := Lib.hid hb; clear hb
    go_wp2_with fail
    go_ret
    exact ⟨rfl, HB.out.trans Hb.out⟩
  · obtain ⟨rfl, hb, hc0, hc1⟩ := he
    have Hb := Lib.hid hb; clear hb
    have Hc0 := Lib.hid hc0; clear hc0
    have Hc1 := Lib.hid hc1; clear hc1
    go_wp2_with fail
    go_ret
    exact ⟨rfl, HB.out.trans Hb.out, Hc0.out, Hc1.out⟩

def FirstCode (b : Option (Int × Option Int)) (w : World) (e : Ending) (w' : World) : Prop :=
  Below w.heap.size w w' ∧ match b with
    | some (c, _) => e = .returned (.tuple #[.int .i64 c, .bool true])
    | none => e = .returned (.tuple #[.int .i64 0, .bool false])

set_option maxRecDepth 100000 in
theorem first_code (b : Option (Int × Option Int)) (s : ByteArray) (ns : List ByteArray) (v : Value) (w : World) (hg : ErrT w) (h : ErrV w.heap.size w b s ns v) :
    Calls Tryd.prog 29 #[v] w (FirstCode b w) := by
  have hB : Below w.heap.size w (w.alloc (.cells #[.int .i64 0] 25)) := (Below.refl _ _).alloc (Nat.le_refl _) _
  have k := As_code b s ns v w.heap.size (.int .i64 0) (w.alloc (.cells #[.int .i64 0] 25)) (hg.here hB) (h.below hB (Nat.le_refl _)) (by simp) (by simp) hg.lt
  have K := Lib.hid k; clear k
  have HB := Lib.hid hB; clear hB
  have H := Lib.hid h; clear h
  have Hg := Lib.hid hg; clear hg
  go_enter_defers Tryd.func29, Tryd.ntmps29
  go_wp2_with fail
  refine K.out.mono ?_
  intro e w' he
  rcases b with _ | ⟨c, o⟩
  · obtain ⟨rfl, hb⟩ := he
    have Hb := Lib.hid hb; clear hb
    go_wp2_with fail
    refine leaves_cons (f := 37) (args := #[]) (by simp) (by simp [go_sem]) ?_
    refine (idle_code _).mono ?_
    rintro e u' w'' ⟨rfl, rfl, rfl⟩
    exact ⟨.tuple #[.int .i64 0, .bool false], by simp [results, Tryd.results29, go_sem], HB.out.trans Hb.out, rfl⟩
  · obtain ⟨rfl, hb, hc⟩ := he
    have Hb := Lib.hid hb; clear hb
    go_wp2_with fail
    refine leaves_cons (f := 37) (args := #[]) (by simp) (by simp [go_sem]) ?_
    refine (idle_code _).mono ?_
    rintro e u' w'' ⟨rfl, rfl, rfl⟩
    exact ⟨.tuple #[.int .i64 c, .bool true], by simp [results, Tryd.results29, go_sem], HB.out.trans Hb.out, rfl⟩
end Go.Proofs.YtenfchkellkifaaDoor
