/- Descriptions as arguments: what can be read as data is a description in memory. No conditions. -/
import Derived.Test.YtenfchkellkifaaDoorBox
import Derived.Test.YtenfchkellkifaaDoorCard
import Derived.Deep.Strs
import Derived.OpenShut
namespace Go.Proofs.YtenfchkellkifaaDoor
open Go.ChangeShapes Go.WideShapes Go.RowKit Go.Deep

section
variable {H : Type} {enc : TypeId × Value → H}

/-- A slice of strings that came in. -/
theorem names_of_trod {W : World} {fuel : Nat} {cs : List Value} {x : DataW H × List MemPlace} (h : DataW.trod enc Tryd.prog W 0 (fun _ => true) true fuel 34 cs = some x) :
    ∃ s ns, cs = [s] ∧ NamesAt W s ns := by
  rcases open_strs Tryd.underlying34 Tryd.underlying9 (by kernel_rfl) h with ⟨rfl, _⟩ | ⟨a, len, cap, m, Sx, rfl, _, hl, hm, hmm, _, hc⟩
  · exact ⟨_, [], rfl, none, 0, rfl, by simp, fun h => absurd rfl h⟩
  · refine ⟨_, (List.range len).map Sx, rfl, some a, cap, by simp, ?_, fun hne => ?_⟩
    · unfold maxLen at hm; simp; omega
    · have hp : 0 < len := by
        rcases Nat.eq_zero_or_pos len with h0 | h0
        · subst h0; exact absurd rfl hne
        · exact h0
      have hm' : m = cap := by simpa using hmm
      obtain ⟨b, o, spot⟩ := a
      have hspot : spot = none := by simpa [Addr.add] using World.cell?_spot (hc 0 (by omega)).1
      subst hspot
      have hcell : ∀ i, i < len → W.cell? ⟨b, o + i, none⟩ = some (.string (Sx i)) := fun i hi => by
        rw [← Go.WideShapes.add_plain]; exact (hc i (by omega)).1
      refine ⟨b, o, rfl, World.block_lt_of_cell? W _ (hcell 0 hp), fun i hi => ?_⟩
      have hi' : i < len := by simpa using hi
      rw [hcell i hi']
      simp [hi']

set_option maxRecDepth 100000 in
/-- The cells of a description. -/
theorem desc_of_trod {W : World} {fuel : Nat} {cs : List Value} {x : DataW H × List MemPlace} (h : DataW.trod enc Tryd.prog W 0 (fun _ => true) true fuel 36 cs = some x) :
    ∃ (E : EData) (s : Value), cs = [.bool E.isNil, .int .i64 E.code, .bool E.has, .int .i64 E.off, s] ∧ NamesAt W s E.names ∧ (-9223372036854775808 ≤ E.code ∧ E.code ≤ 9223372036854775807) ∧ (-9223372036854775808 ≤ E.off ∧ E.off ≤ 9223372036854775807) := by
  obtain ⟨xs, n, _, rfl, hl, hlen, hf⟩ := DataW.trod_struct Tryd.underlying36 h
  have e5 : Tryd.prog.cellsOf 36 = 5 := by kernel_rfl
  have e1 : Tryd.prog.cellsOf 3 = 1 := by kernel_rfl
  have e2 : Tryd.prog.cellsOf 4 = 1 := by kernel_rfl
  have e3 : Tryd.prog.cellsOf 34 = 1 := by kernel_rfl
  rw [e5] at hl
  match cs, hl with
  | [c0, c1, c2, c3, c4], _ =>
    match xs, hlen with
    | [x0, x1, x2, x3, x4], _ =>
      have h0 := hf 0 { name := "Nil", type := 4, offset := 0, embedded := false, tag := "", pkgPath := "", byteOffset := 0 } rfl
      have h1 := hf 1 { name := "Code", type := 3, offset := 1, embedded := false, tag := "", pkgPath := "", byteOffset := 8 } rfl
      have h2 := hf 2 { name := "Has", type := 4, offset := 2, embedded := false, tag := "", pkgPath := "", byteOffset := 16 } rfl
      have h3 := hf 3 { name := "At", type := 3, offset := 3, embedded := false, tag := "", pkgPath := "", byteOffset := 24 } rfl
      have h4 := hf 4 { name := "Names", type := 34, offset := 4, embedded := false, tag := "", pkgPath := "", byteOffset := 32 } rfl
      simp only [e1, e2, e3, List.drop_zero, List.drop_succ_cons, List.take_succ_cons, List.take_zero, List.getElem?_cons_zero, List.getElem?_cons_succ] at h0 h1 h2 h3 h4
      obtain ⟨b0, g0, _⟩ := DataW.trod_bool Tryd.underlying4 h0
      obtain ⟨b1, g1, _, w1⟩ := DataW.trod_int Tryd.underlying3 h1
      obtain ⟨b2, g2, _⟩ := DataW.trod_bool Tryd.underlying4 h2
      obtain ⟨b3, g3, _, w3⟩ := DataW.trod_int Tryd.underlying3 h3
      obtain ⟨s, ns, g4, hn⟩ := names_of_trod h4
      simp only [List.cons.injEq, and_true] at g0 g1 g2 g3 g4
      subst g0; subst g1; subst g2; subst g3; subst g4
      exact ⟨⟨b0, b1, b2, b3, ns⟩, c4, rfl, hn, bounds_i64 w1, bounds_i64 w3⟩

set_option maxRecDepth 100000 in
/-- A description by value, as an argument. -/
theorem desc_open {W : World} {base : Nat} {v : Value} {d : DataW H} {p : List MemPlace} (hv : Value.okWide Tryd.prog W .any base 36 v) (h : DataW.Trod enc Tryd.prog W 0 (fun _ => true) true 36 v d p) :
    ∃ (E : EData) (s : Value), v = errV E s ∧ NamesAt W s E.names ∧ (-9223372036854775808 ≤ E.code ∧ E.code ≤ 9223372036854775807) ∧ (-9223372036854775808 ≤ E.off ∧ E.off ≤ 9223372036854775807) := by
  obtain ⟨cs, rfl, _⟩ := okWide_struct Tryd.underlying36 hv
  obtain ⟨fuel, hd⟩ := h
  obtain ⟨E, s, hcs, hn, h1, h2⟩ := desc_of_trod hd
  have e : cs = #[.bool E.isNil, .int .i64 E.code, .bool E.has, .int .i64 E.off, s] := by
    have hcs' : cs.toList = [.bool E.isNil, .int .i64 E.code, .bool E.has, .int .i64 E.off, s] := hcs
    cases cs; simp_all
  subst e
  exact ⟨E, s, rfl, hn, h1, h2⟩
end
end Go.Proofs.YtenfchkellkifaaDoor
