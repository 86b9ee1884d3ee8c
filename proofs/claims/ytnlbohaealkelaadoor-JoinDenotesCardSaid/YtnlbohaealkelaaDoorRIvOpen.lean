/- A slice of intervals that came in. No conditions. -/
import Derived.Test.YtnlbohaealkelaaDoorRIv
import Derived.Deep.SlicePairs
import Derived.OpenShut
namespace Go.Proofs.YtnlbohaealkelaaDoor
open Go.RowKit Go.ChangeShapes Go.WideShapes Go.Deep
section
variable {H : Type} {enc : TypeId × Value → H}
set_option maxRecDepth 100000 in
/-- Longer than the law looks at, or a list in memory. -/
theorem ivs_open {W : World} {base : Nat} {v : Value} {d : DataW H} {p : List MemPlace} (hv : Value.okWide Tryd.prog W .any base 24 v) (h : DataW.Trod enc Tryd.prog W 0 (fun _ => true) true 24 v d p) :
    (∃ q n cap, v = .slice q n cap ∧ 60 < n) ∨ ∃ l, l.length ≤ 60 ∧ All64 l ∧ IvsAt W v l := by
  obtain ⟨a0, len0, cap0, rfl⟩ := okWide_slice Tryd.underlying24 hv
  by_cases hn : 60 < len0
  · exact .inl ⟨a0, len0, cap0, rfl, hn⟩
  refine .inr ?_
  obtain ⟨fuel, hf⟩ := h
  rcases open_slice_pairs Tryd.underlying24 Tryd.underlying40 (by kernel_rfl) rfl rfl (by kernel_rfl) (by kernel_rfl) hf with ⟨hcs, _⟩ | ⟨a, len, cap, m, n, V0, V1, D0, D1, P0, P1, hcs, _, hl, _, hm, _, hi⟩
  · simp [Value.cells] at hcs
    obtain ⟨rfl, rfl, rfl⟩ := hcs
    exact ⟨[], by simp, (fun x hx => by cases hx), none, 0, rfl, by simp, fun h => absurd rfl h⟩
  · simp [Value.cells] at hcs
    obtain ⟨rfl, rfl, rfl⟩ := hcs
    simp only [if_true] at hm
    subst hm
    have num : ∀ i, i < len0 → ∃ x y : Int, V0 i = .int .u64 x ∧ V1 i = .int .u64 y ∧ (0 ≤ x ∧ x ≤ 18446744073709551615) ∧ (0 ≤ y ∧ y ≤ 18446744073709551615) := fun i h => by
      obtain ⟨_, _, h0, h1⟩ := hi i (by omega)
      obtain ⟨x, e0, _, w0⟩ := DataW.trod_int Tryd.underlying22 h0
      obtain ⟨y, e1, _, w1⟩ := DataW.trod_int Tryd.underlying22 h1
      simp at e0 e1
      exact ⟨x, y, e0, e1, bounds_u64 w0, bounds_u64 w1⟩
    obtain ⟨b, o, spot⟩ := a
    refine ⟨(List.range len0).map fun i => (intOf (V0 i), intOf (V1 i)), by simp; omega, fun z hz => ?_, some ⟨b, o, spot⟩, m, by simp, by simp; omega, fun hne => ?_⟩
    · obtain ⟨i, hi', rfl⟩ := List.mem_map.1 hz
      obtain ⟨x, y, e0, e1, hx, hy⟩ := num i (List.mem_range.1 hi')
      rw [e0, e1]
      exact ⟨hx, hy⟩
    · have hp : 0 < len0 := by
        rcases Nat.eq_zero_or_pos len0 with h0 | h0
        · subst h0; exact absurd (by simp) hne
        · exact h0
      have hspot : spot = none := by simpa [Addr.add] using World.cell?_spot (hi 0 (by omega)).1
      subst hspot
      refine ⟨b, o, rfl, fun i x hx => ?_⟩
      rw [List.getElem?_map] at hx
      obtain ⟨j, hj, rfl⟩ := Option.map_eq_some_iff.1 hx
      obtain ⟨hlt, hj⟩ := List.getElem?_eq_some_iff.1 hj
      have hil : i < len0 := by simpa using hlt
      obtain rfl : i = j := by simpa using hj
      obtain ⟨x, y, e0, e1, _, _⟩ := num i hil
      obtain ⟨c0, c1, _, _⟩ := hi i (by omega)
      rw [add_plain] at c0 c1
      rw [e0] at c0
      rw [e1] at c1
      rw [e0, e1]
      exact ⟨c0, by simpa [Nat.add_assoc, intOf] using c1⟩
end
end Go.Proofs.YtnlbohaealkelaaDoor
