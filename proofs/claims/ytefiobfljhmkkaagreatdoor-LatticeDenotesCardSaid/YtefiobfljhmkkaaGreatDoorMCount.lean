/- Counts of package word and of the reference (stage 2's texts under other names). Conditions: the parts are numbers of 64 bits. -/
import Derived.Test.YtefiobfljhmkkaaGreatDoorLaw
import Derived.Laws.Externs
import Derived.Outline
import Derived.LoopTactic
import Derived.Deep.RegionHeld3
namespace Go.Proofs.YtefiobfljhmkkaaGreatDoor
open Go.RowKit Go.ChangeShapes Go.WideShapes
/-- Add64, as an equation of the call. -/
theorem w_add64_run (x y c : Int) (w : World) (hx : 0 ≤ x) (hy : 0 ≤ y) (hc0 : 0 ≤ c) (hc : c ≤ 1) :
    (callFunc 55 #[.int .u64 x, .int .u64 y, .int .u64 c]).run Tryz.prog w = .ok (.value (.tuple #[.int .u64 ((x + y + c) % 18446744073709551616), .int .u64 ((x + y + c) / 18446744073709551616)])) w := by
  rw [run_callFunc_extern Tryz.func55 (by kernel_rfl) (by kernel_rfl) (by kernel_rfl) (e := add64Entry) (by kernel_rfl), run_add64 x y c hx hy hc0 hc]
  simp only [Result.andThen]
theorem w_below_alloc {a w : World} (h : Below a.heap.size a w) (o : Obj) : Below a.heap.size a (w.alloc o) := h.alloc h.size o
theorem w_keep_free {w w' : World} {p : Addr} (h : w.frozen? p = false) (hp : p.block < w.heap.size) (hb : Below w.heap.size w w') : w'.frozen? p = false := by
  rw [hb.frozen hp]; exact h
theorem w_two_stored {w : World} {b : Nat} {u0 u1 : Value} (h0 : w.cell? ⟨b, 0, none⟩ = some u0) (h1 : w.cell? ⟨b, 1, none⟩ = some u1) (v0 v1 : Value) :
    ((w.setCell ⟨b, 0, none⟩ v0).setCell ⟨b, 1, none⟩ v1).cell? ⟨b, 0, none⟩ = some v0 ∧ ((w.setCell ⟨b, 0, none⟩ v0).setCell ⟨b, 1, none⟩ v1).cell? ⟨b, 1, none⟩ = some v1 ∧ (w.setCell ⟨b, 0, none⟩ v0).cell? ⟨b, 0, none⟩ = some v0 := by
  refine ⟨?_, ?_, ?_⟩
  · rw [World.cell?_setCell_other _ _ _ _ (by simp)]; exact World.cell?_setCell_same' _ _ _ (by rw [h0]; rfl)
  · exact World.cell?_setCell_same' _ _ _ (by rw [World.cell?_setCell_other _ _ _ _ (by simp), h1]; rfl)
  · exact World.cell?_setCell_same' _ _ _ (by rw [h0]; rfl)
def w_IsCnt (a b : Int) (w : World) (e : Ending) (w' : World) : Prop := e = .returned (.agg #[.int .u64 a, .int .u64 b]) ∧ Below w.heap.size w w'
set_option maxRecDepth 100000 in
theorem w_plus_any (a b c d l k h : Int) (w : World) (ha : 0 ≤ a) (hb : 0 ≤ b) (hc : 0 ≤ c) (hd : 0 ≤ d)
    (hl : (b + d + 0) % 18446744073709551616 = l) (hk : (b + d + 0) / 18446744073709551616 = k) (hh : (a + c + k) % 18446744073709551616 = h) (hk0 : 0 ≤ k) (hk1 : k ≤ 1) :
    Calls Tryz.prog 35 #[.agg #[.int .u64 a, .int .u64 b], .agg #[.int .u64 c, .int .u64 d]] w (w_IsCnt h l w) := by
  have h1 := fun w => w_add64_run b d 0 w hb hd (by omega) (by omega)
  have h2 := fun w => w_add64_run a c k w ha hc hk0 hk1
  rw [hl, hk] at h1
  rw [hh] at h2
  clear hl hk hh
  go_enter Tryz.func35, Tryz.ntmps35
  go_wp2_with fail
  exact bodyPost_ret (v := .agg #[.int .u64 h, .int .u64 l]) (by simp [results, Tryz.results35, go_sem]) rfl ⟨rfl, w_below_alloc (w_below_alloc (w_below_alloc (Below.refl _ _) _) _) _⟩
theorem w_width_le (lo hi k l : Int) (w : World) (h0 : 0 ≤ lo) (h : lo ≤ hi) (h1 : hi ≤ 18446744073709551615)
    (hl : (hi - lo + 1) % 18446744073709551616 = l) (hk : (hi - lo + 1) / 18446744073709551616 = k) :
    Calls Tryz.prog 73 #[.int .u64 lo, .int .u64 hi] w (w_IsCnt k l w) := by
  have hp := fun w => w_plus_any 0 (hi - lo) 0 1 l k k w (by omega) (by omega) (by omega) (by omega) (by omega) (by omega) (by omega) (by omega) (by omega)
  have HP := Lib.hid hp; clear hp
  have HL := Lib.hid hl; clear hl
  have HK := Lib.hid hk; clear hk
  go_enter Tryz.func73, Tryz.ntmps73
  go_wp2_with fail
  refine (HP.out _).mono ?_
  rintro e w' ⟨rfl, hw⟩
  have hs := hw.size
  have hc0 := keep_cell (p := ⟨w.heap.size, 0, none⟩) (v := .int .u64 0) (by simp) hw
  have hc1 := keep_cell (p := ⟨w.heap.size, 1, none⟩) (v := .int .u64 0) (by simp) hw
  have hf0 := w_keep_free (p := ⟨w.heap.size, 0, none⟩) (by simp) (by simp) hw
  have hf1 := w_keep_free (p := ⟨w.heap.size, 1, none⟩) (by simp) (by simp) hw
  have HW := Lib.hid hw; clear hw
  go_wp2_with fail
  have hs2 := w_two_stored hc0 hc1 (.int .u64 k) (.int .u64 l)
  refine bodyPost_ret (v := .agg #[.int .u64 k, .int .u64 l]) (by simp [results, Tryz.results73, go_sem, hs2.1, hs2.2.1]) rfl ⟨rfl, ?_⟩
  exact ((keep_below (w_below_alloc (Below.refl _ _) _) (by simp) HW.out).setCell (Nat.le_refl _) _).setCell (Nat.le_refl _) _
/-- -1, 0 or 1. -/
def w_cmpI (a b : Int) : Int := if a < b then -1 else if b < a then 1 else 0
def w_orI (a b : Int) : Int := if a = 0 then b else a
def w_cmpC (a b c d : Int) : Int := w_orI (w_cmpI a c) (w_cmpI b d)
theorem w_four_call {W w1 w2 : World} {k m : Nat} {a b c d : Value}
    (h : Below W.heap.size W w1 ∧ w1.cell? ⟨k, 0, none⟩ = some a ∧ w1.cell? ⟨k, 1, none⟩ = some b ∧ w1.cell? ⟨m, 0, none⟩ = some c ∧ w1.cell? ⟨m, 1, none⟩ = some d)
    (hb : Hid (Below w1.heap.size w1 w2)) :
    Below W.heap.size W w2 ∧ w2.cell? ⟨k, 0, none⟩ = some a ∧ w2.cell? ⟨k, 1, none⟩ = some b ∧ w2.cell? ⟨m, 0, none⟩ = some c ∧ w2.cell? ⟨m, 1, none⟩ = some d :=
  ⟨keep_below h.1 (Nat.le_refl _) hb.out, keep_cell h.2.1 hb.out, keep_cell h.2.2.1 hb.out, keep_cell h.2.2.2.1 hb.out, keep_cell h.2.2.2.2 hb.out⟩
theorem w_four_drew {W w1 : World} {k m : Nat} {a b c d : Value}
    (h : Below W.heap.size W w1 ∧ w1.cell? ⟨k, 0, none⟩ = some a ∧ w1.cell? ⟨k, 1, none⟩ = some b ∧ w1.cell? ⟨m, 0, none⟩ = some c ∧ w1.cell? ⟨m, 1, none⟩ = some d) :
    Below W.heap.size W w1.drew ∧ w1.drew.cell? ⟨k, 0, none⟩ = some a ∧ w1.drew.cell? ⟨k, 1, none⟩ = some b ∧ w1.drew.cell? ⟨m, 0, none⟩ = some c ∧ w1.drew.cell? ⟨m, 1, none⟩ = some d :=
  w_four_call h ((Below.refl _ _).drew)
theorem w_four_alloc {W w1 : World} {k m : Nat} {a b c d : Value}
    (h : Below W.heap.size W w1 ∧ w1.cell? ⟨k, 0, none⟩ = some a ∧ w1.cell? ⟨k, 1, none⟩ = some b ∧ w1.cell? ⟨m, 0, none⟩ = some c ∧ w1.cell? ⟨m, 1, none⟩ = some d) (o : Obj) :
    Below W.heap.size W (w1.alloc o) ∧ (w1.alloc o).cell? ⟨k, 0, none⟩ = some a ∧ (w1.alloc o).cell? ⟨k, 1, none⟩ = some b ∧ (w1.alloc o).cell? ⟨m, 0, none⟩ = some c ∧ (w1.alloc o).cell? ⟨m, 1, none⟩ = some d :=
  w_four_call h ((w_below_alloc (Below.refl _ _) _))
end Go.Proofs.YtefiobfljhmkkaaGreatDoor
