/- The law VectorKeeps in every state, out of what package vector says. Conditions: the contracts of package vector, and the fixed value of errors.errorType. -/
import Derived.Test.YtemhbmcgnmfoaaaGreatDoorPAlive
import Derived.Test.YtemhbmcgnmfoaaaGreatDoorNKeeps
import Derived.Test.YtemhbmcgnmfoaaaGreatDoorPCodeK
namespace Go.Proofs.YtemhbmcgnmfoaaaGreatDoor
open Go.RowKit
theorem nsV_len (V : List (Int × Int × List Iv)) : (nsV V).length = V.length := by unfold nsV; simp
theorem SoftW.call {w w' : World} {B : Nat} {v : Value} {ns : List Nat} (h : SoftW w B v ns) (hb : Below w.heap.size w w') : SoftW w' B v ns := by
  obtain ⟨p, cap, h1, h2, h3⟩ := h
  refine ⟨p, cap, h1, h2, fun hne => ?_⟩
  obtain ⟨b, o, h5, hB, h6⟩ := h3 hne
  refine ⟨b, o, h5, hB, fun i n hi => ?_⟩
  obtain ⟨⟨z, hz⟩, ⟨y, hy⟩, f0, f1, s, hs, hso⟩ := h6 i n hi
  exact ⟨⟨z, keep_cell hz hb⟩, ⟨y, keep_cell hy hb⟩, keep_free f0 (World.block_lt_of_cell? w _ hz) hb, keep_free f1 (World.block_lt_of_cell? w _ hy) hb, s, keep_cell hs hb, hso.call hb⟩
theorem kept_slice {w : World} {a c : Addr} {k : IntKind} {z : Int} {p : Option Addr} {n m : Nat} (ha : w.cell? a = some (.int k z)) (hc : w.cell? c = some (.slice p n m)) (y : Value) : (w.setCell a y).cell? c = some (.slice p n m) := by
  rw [World.cell?_setCell_other _ _ _ _ (fun e => by rw [e, hc] at ha; cases ha)]; exact hc
theorem int_set {w : World} {a c : Addr} {y : Int} (h : ∃ z : Int, w.cell? c = some (.int .u64 z)) : ∃ z : Int, (w.setCell a (.int .u64 y)).cell? c = some (.int .u64 z) := by
  obtain ⟨z, hz⟩ := h
  by_cases he : a = c
  · subst he; exact ⟨y, World.cell?_setCell_same' _ _ _ (by rw [hz]; rfl)⟩
  · exact ⟨z, by rw [World.cell?_setCell_other _ _ _ _ he]; exact hz⟩
theorem SoftE.setI {w : World} {B : Nat} {v : Value} {n : Nat} (h : SoftE w B v n) (a : Addr) (y : Int) : SoftE (w.setCell a (.int .u64 y)) B v n := by
  obtain ⟨p, cap, h1, h2, h3⟩ := h
  refine ⟨p, cap, h1, h2, fun hn => ?_⟩
  obtain ⟨g, o, h4, h5, h6⟩ := h3 hn
  refine ⟨g, o, h4, h5, fun i hi => ?_⟩
  obtain ⟨⟨hz, hf⟩, hy, hg⟩ := h6 i hi
  exact ⟨⟨int_set hz, by rw [World.frozen?_setCell]; exact hf⟩, int_set hy, by rw [World.frozen?_setCell]; exact hg⟩
theorem SoftW.setI {w : World} {B : Nat} {v : Value} {ns : List Nat} (h : SoftW w B v ns) {a : Addr} {z : Int} (hz : w.cell? a = some (.int .u64 z)) (y : Int) : SoftW (w.setCell a (.int .u64 y)) B v ns := by
  obtain ⟨p, cap, h1, h2, h3⟩ := h
  refine ⟨p, cap, h1, h2, fun hne => ?_⟩
  obtain ⟨b, o, h5, hB, h6⟩ := h3 hne
  refine ⟨b, o, h5, hB, fun i n hi => ?_⟩
  obtain ⟨k0, k1, f0, f1, s, hs, hso⟩ := h6 i n hi
  refine ⟨int_set k0, int_set k1, by rw [World.frozen?_setCell]; exact f0, by rw [World.frozen?_setCell]; exact f1, s, ?_, hso.setI _ _⟩
  obtain ⟨q, c, e, _⟩ := hso
  rw [e] at hs ⊢
  exact kept_slice hz hs _
theorem SoftW.at {w : World} {B : Nat} {v : Value} {ns : List Nat} (h : SoftW w B v ns) {i n : Nat} (hi : ns[i]? = some n) : ∃ b o m cap z z' p c, v = .slice (some ⟨b, o, none⟩) m cap ∧ B ≤ b ∧ w.cell? ⟨b, o + i * 3, none⟩ = some (.int .u64 z) ∧ w.cell? ⟨b, o + i * 3 + 1, none⟩ = some (.int .u64 z') ∧
    w.frozen? ⟨b, o + i * 3, none⟩ = false ∧ w.frozen? ⟨b, o + i * 3 + 1, none⟩ = false ∧ w.cell? ⟨b, o + i * 3 + 2, none⟩ = some (.slice p n c) ∧ SoftE w B (.slice p n c) n := by
  obtain ⟨p, cap, h1, _, h3⟩ := h
  obtain ⟨b, o, rfl, hB, h6⟩ := h3 (by intro e; rw [e] at hi; simp at hi)
  obtain ⟨⟨z, hz⟩, ⟨y, hy⟩, f0, f1, s, hs, hso⟩ := h6 i n hi
  have hso' := hso
  obtain ⟨q, c, e, _⟩ := hso
  subst e
  exact ⟨b, o, _, cap, z, y, q, c, h1, hB, hz, hy, f0, f1, hs, hso'⟩
theorem SoftE.at {w : World} {B : Nat} {p : Option Addr} {n c : Nat} (h : SoftE w B (.slice p n c) n) {j : Nat} (hj : j < n) : ∃ g o z z', p = some ⟨g, o, none⟩ ∧ B ≤ g ∧ w.cell? ⟨g, o + j * 2, none⟩ = some (.int .u64 z) ∧ w.frozen? ⟨g, o + j * 2, none⟩ = false ∧ w.cell? ⟨g, o + j * 2 + 1, none⟩ = some (.int .u64 z') ∧ w.frozen? ⟨g, o + j * 2 + 1, none⟩ = false := by
  obtain ⟨p', cap, h1, _, h3⟩ := h
  cases h1
  obtain ⟨g, o, rfl, hB, h6⟩ := h3 (by omega)
  obtain ⟨⟨⟨z, hz⟩, hf⟩, ⟨y, hy⟩, hg⟩ := h6 j hj
  exact ⟨g, o, z, y, rfl, hB, hz, hf, hy, hg⟩
end Go.Proofs.YtemhbmcgnmfoaaaGreatDoor
