/- Lists of descriptions as arguments: what can be read as data is a list of descriptions in memory. No conditions. -/
import Derived.Test.YtenfchkellkifaaDoorLeastLaw
import Derived.Test.YtenfchkellkifaaDoorOpen
namespace Go.Proofs.YtenfchkellkifaaDoor
open Go.ChangeShapes Go.WideShapes Go.RowKit Go.Deep

section
variable {H : Type} {enc : TypeId × Value → H}

instance : Inhabited EData := ⟨⟨true, 0, false, 0, []⟩⟩

set_option maxRecDepth 100000 in
theorem descs_of_trod {W : World} {fuel : Nat} {cs : List Value} {x : DataW H × List MemPlace} (h : DataW.trod enc Tryd.prog W 0 (fun _ => true) true fuel 52 cs = some x) :
    ∃ (s : Value) (n : Nat) (D : Nat → EData), cs = [s] ∧ DescsAt W s n D := by
  rcases open_slice Tryd.underlying52 h with ⟨rfl, _⟩ | ⟨a, len, cap, m, k, Dx, Pl, rfl, _, hl, hm, hmm, _, hc⟩
  · exact ⟨_, 0, fun _ => default, rfl, none, 0, rfl, by simp, fun h => absurd h (Nat.lt_irrefl _)⟩
  · have e5 : Tryd.prog.cellsOf 36 = 5 := by kernel_rfl
    rw [e5] at hc
    have hm' : m = cap := by simpa using hmm
    have each : ∀ i, i < len → ∃ E : EData, ∃ s, W.cell? (a.add (i * 5)) = some (.bool E.isNil) ∧ W.cell? ((a.add (i * 5)).add 1) = some (.int .i64 E.code) ∧ W.cell? ((a.add (i * 5)).add 2) = some (.bool E.has) ∧
        W.cell? ((a.add (i * 5)).add 3) = some (.int .i64 E.off) ∧ W.cell? ((a.add (i * 5)).add 4) = some s ∧ NamesAt W s E.names ∧ E.code ≤ 9223372036854775807 := fun i hi => by
      obtain ⟨cs', h1, h2⟩ := hc i (by omega)
      obtain ⟨E, s, rfl, hn, hcode, _⟩ := desc_of_trod h2
      obtain ⟨_, _, hget⟩ := World.cells?_some h1
      have g0 := hget 0 (by omega)
      have g1 := hget 1 (by omega)
      have g2 := hget 2 (by omega)
      have g3 := hget 3 (by omega)
      have g4 := hget 4 (by omega)
      exact ⟨E, s, by simpa [Addr.add] using g0, by simpa using g1, by simpa using g2, by simpa using g3, by simpa using g4, hn, hcode.2⟩
    obtain ⟨D, hD⟩ := choose_lt each
    refine ⟨_, len, D, rfl, some a, cap, rfl, ?_, fun hp => ?_⟩
    · unfold maxLen at hm; omega
    · obtain ⟨b, o, spot⟩ := a
      obtain ⟨s0, c0, _⟩ := hD 0 hp
      have hspot : spot = none := by simpa [Addr.add] using World.cell?_spot c0
      subst hspot
      refine ⟨b, o, rfl, ?_, fun i hi => ?_⟩
      · have := World.block_lt_of_cell? W _ c0
        simpa [Addr.add] using this
      · obtain ⟨s, g0, g1, g2, g3, g4, hn, hcode⟩ := hD i hi
        simp only [Go.WideShapes.add_plain] at g0 g1 g2 g3 g4
        exact ⟨s, g0, g1, g2, g3, g4, hn, hcode⟩
end
end Go.Proofs.YtenfchkellkifaaDoor
