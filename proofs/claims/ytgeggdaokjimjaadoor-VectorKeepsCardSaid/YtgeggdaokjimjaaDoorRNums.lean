/- Slices of numbers that a call has made itself. No conditions. -/
import Derived.Test.YtgeggdaokjimjaaDoorRFind
import Derived.Test.YtgeggdaokjimjaaDoorRIv
import Derived.Deep.RegionLaw
import Derived.Deep.RegionHeld3
namespace Go.Proofs.YtgeggdaokjimjaaDoor
open Go.RowKit
def nmC (l : List Int) : List Value := l.map (Value.int .u64)
theorem infoU : (Tryd.prog.info? 34).map (fun i => (i.zero, i.size, i.bytes)) = some (some (.int .u64 0), 1, 8) := by kernel_rfl
def OwnN (W : World) (B : Nat) (v : Value) (L : List Int) : Prop := W.ownsRow B 34 1 v L.length (nmC L)
theorem OwnN.below {W W' : World} {B : Nat} {v : Value} {L : List Int} (h : OwnN W B v L) (hb : Below W.heap.size W W') : OwnN W' B v L := own_below h hb
theorem OwnN.nil (W : World) (B : Nat) : OwnN W B (.slice none 0 0) [] := World.ownsRow_nil _ _ _ _
theorem OwnN.nums {w : World} {B : Nat} {v : Value} {l : List Int} (h : OwnN w B v l) (hl : l.length ≤ 4194304) : NumsAt w v l := by
  obtain ⟨h1, h2⟩ := h
  rcases h2 with ⟨rfl, hn⟩ | ⟨g, cap, cur, rfl, hg, hh, hnc, _, hcs, ht⟩
  · obtain rfl : l = [] := List.length_eq_zero_iff.1 hn
    exact ⟨none, 0, rfl, by simp, fun h => absurd rfl h⟩
  · refine ⟨_, cap, rfl, hl, fun _ => ⟨g, 0, rfl, fun i x hi => ?_⟩⟩
    have hlt : i < l.length := (List.getElem?_eq_some_iff.1 hi).1
    have e1 : w.cell? ⟨g, 0 + i, none⟩ = cur[i]? := by simp [World.cell?, hh]
    rw [e1, ← Array.getElem?_toList]
    have hx : (nmC l)[i]? = some (.int .u64 x) := by simp [nmC, hi]
    rw [← ht, List.getElem?_take] at hx
    rw [if_pos (by omega)] at hx
    exact hx
end Go.Proofs.YtgeggdaokjimjaaDoor
