/- Counts: Plus, Width and the reference's Plus, Width and Compare; cmp.Compare and cmp.Or. Conditions: the arguments are numbers of 64 bits. -/
import Derived.Test.YtomjjjjjmknhkaaWNum
import Derived.Outline
import Derived.LoopTactic
import Derived.Deep.RegionHeld3
namespace Go.Proofs.Ytomjjjjjmknhkaa
open Go.RowKit

theorem below_alloc {a w : World} (h : Below a.heap.size a w) (o : Obj) : Below a.heap.size a (w.alloc o) := h.alloc h.size o

theorem keep_free {w w' : World} {p : Addr} (h : w.frozen? p = false) (hp : p.block < w.heap.size) (hb : Below w.heap.size w w') : w'.frozen? p = false := by
  rw [hb.frozen hp]; exact h

theorem two_stored {w : World} {b : Nat} {u0 u1 : Value} (h0 : w.cell? ⟨b, 0, none⟩ = some u0) (h1 : w.cell? ⟨b, 1, none⟩ = some u1) (v0 v1 : Value) :
    ((w.setCell ⟨b, 0, none⟩ v0).setCell ⟨b, 1, none⟩ v1).cell? ⟨b, 0, none⟩ = some v0 ∧ ((w.setCell ⟨b, 0, none⟩ v0).setCell ⟨b, 1, none⟩ v1).cell? ⟨b, 1, none⟩ = some v1 ∧ (w.setCell ⟨b, 0, none⟩ v0).cell? ⟨b, 0, none⟩ = some v0 := by
  refine ⟨?_, ?_, ?_⟩
  · rw [World.cell?_setCell_other _ _ _ _ (by simp)]; exact World.cell?_setCell_same' _ _ _ (by rw [h0]; rfl)
  · exact World.cell?_setCell_same' _ _ _ (by rw [World.cell?_setCell_other _ _ _ _ (by simp), h1]; rfl)
  · exact World.cell?_setCell_same' _ _ _ (by rw [h0]; rfl)

/-- A count as a value. -/
def cnt (a b : Int) : Value := .agg #[.int .u64 a, .int .u64 b]
def IsCnt (a b : Int) (w : World) (e : Ending) (w' : World) : Prop := e = .returned (.agg #[.int .u64 a, .int .u64 b]) ∧ Below w.heap.size w w'

set_option maxRecDepth 100000 in
theorem plus_any (a b c d l k h : Int) (w : World) (ha : 0 ≤ a) (hb : 0 ≤ b) (hc : 0 ≤ c) (hd : 0 ≤ d)
    (hl : (b + d + 0) % 18446744073709551616 = l) (hk : (b + d + 0) / 18446744073709551616 = k) (hh : (a + c + k) % 18446744073709551616 = h) (hk0 : 0 ≤ k) (hk1 : k ≤ 1) :
    Calls Try.prog 18 #[.agg #[.int .u64 a, .int .u64 b], .agg #[.int .u64 c, .int .u64 d]] w (IsCnt h l w) := by
  have h1 := fun w => add64_run b d 0 w hb hd (by omega) (by omega)
  have h2 := fun w => add64_run a c k w ha hc hk0 hk1
  rw [hl, hk] at h1
  rw [hh] at h2
  clear hl hk hh
  go_enter Try.func18, Try.ntmps18
  go_wp2_with fail
  exact bodyPost_ret (v := .agg #[.int .u64 h, .int .u64 l]) (by simp [results, Try.results18, go_sem]) rfl ⟨rfl, below_alloc (below_alloc (below_alloc (Below.refl _ _) _) _) _⟩

theorem width_gt (lo hi : Int) (w : World) (h : hi < lo) :
    Calls Try.prog 16 #[.int .u64 lo, .int .u64 hi] w (IsCnt 0 0 w) := by
  go_enter Try.func16, Try.ntmps16
  go_wp2_with fail
  exact bodyPost_ret (v := .agg #[.int .u64 0, .int .u64 0]) (by simp [results, Try.results16, go_sem]) rfl ⟨rfl, below_alloc (Below.refl _ _) _⟩

theorem width_le (lo hi k l : Int) (w : World) (h0 : 0 ≤ lo) (h : lo ≤ hi) (h1 : hi ≤ 18446744073709551615)
    (hl : (hi - lo + 1) % 18446744073709551616 = l) (hk : (hi - lo + 1) / 18446744073709551616 = k) :
    Calls Try.prog 16 #[.int .u64 lo, .int .u64 hi] w (IsCnt k l w) := by
  have hp := fun w => plus_any 0 (hi - lo) 0 1 l k k w (by omega) (by omega) (by omega) (by omega) (by omega) (by omega) (by omega) (by omega) (by omega)
  have HP := Lib.hid hp; clear hp
  have HL := Lib.hid hl; clear hl
  have HK := Lib.hid hk; clear hk
  go_enter Try.func16, Try.ntmps16
  go_wp2_with fail
  refine (HP.out _).mono ?_
  rintro e w' ⟨rfl, hw⟩
  have hs := hw.size
  have hc0 := keep_cell (p := ⟨w.heap.size, 0, none⟩) (v := .int .u64 0) (by simp) hw
  have hc1 := keep_cell (p := ⟨w.heap.size, 1, none⟩) (v := .int .u64 0) (by simp) hw
  have hf0 := keep_free (p := ⟨w.heap.size, 0, none⟩) (by simp) (by simp) hw
  have hf1 := keep_free (p := ⟨w.heap.size, 1, none⟩) (by simp) (by simp) hw
  have HW := Lib.hid hw; clear hw
  go_wp2_with fail
  have hs2 := two_stored hc0 hc1 (.int .u64 k) (.int .u64 l)
  refine bodyPost_ret (v := .agg #[.int .u64 k, .int .u64 l]) (by simp [results, Try.results16, go_sem, hs2.1, hs2.2.1]) rfl ⟨rfl, ?_⟩
  exact ((keep_below (below_alloc (Below.refl _ _) _) (by simp) HW.out).setCell (Nat.le_refl _) _).setCell (Nat.le_refl _) _

theorem refWidth_any (lo hi k l : Int) (w : World) (h0 : 0 ≤ lo) (h1 : hi ≤ 18446744073709551615) (hh : 0 ≤ hi) (hlo : lo ≤ 18446744073709551615)
    (hl : (if hi < lo then 0 else (hi - lo + 1) % 18446744073709551616) = l) (hk : (if hi < lo then 0 else (hi - lo + 1) / 18446744073709551616) = k) :
    Calls Try.prog 17 #[.int .u64 lo, .int .u64 hi] w (IsPair k l w) := by
  by_cases h : hi < lo
  · obtain rfl : 0 = k := by simpa [h] using hk
    obtain rfl : 0 = l := by simpa [h] using hl
    clear hl hk
    go_enter Try.func17, Try.ntmps17
    go_wp2
    go_ret2
    exact ⟨rfl, rfl⟩
  · rw [if_neg h] at hl hk
    by_cases hz : lo = 0
    · subst hz
      by_cases ht : hi = 18446744073709551615
      · subst ht
        obtain rfl : 1 = k := by simpa using hk
        obtain rfl : 0 = l := by simpa using hl
        clear hl hk
        go_enter Try.func17, Try.ntmps17
        go_wp2
        go_ret2
        exact ⟨rfl, rfl⟩
      · obtain rfl : 0 = k := by omega
        obtain rfl : hi - 0 + 1 = l := by omega
        have hb : (hi == 18446744073709551615) = false := by simpa using ht
        have ht2 : hi ≤ 18446744073709551614 := by omega
        clear hl hk ht
        go_enter Try.func17, Try.ntmps17
        go_wp2
        go_ret2
        exact ⟨by simp, rfl⟩
    · obtain rfl : 0 = k := by omega
      obtain rfl : hi - lo + 1 = l := by omega
      have hb : (lo == 0) = false := by simpa using hz
      have hz2 : 1 ≤ lo := by omega
      clear hl hk hz
      go_enter Try.func17, Try.ntmps17
      go_wp2
      go_ret2
      exact ⟨rfl, rfl⟩
end Go.Proofs.Ytomjjjjjmknhkaa
