/- Knowledge that came in: its fragments in memory, each with its items and its vector. No conditions. -/
import Derived.Test.YtemhbmcgnmfoaaaGreatDoorPOpen
import Derived.Lib.SmallJoins
namespace Go.Proofs.YtemhbmcgnmfoaaaGreatDoor
open Go.RowKit Go.ChangeShapes Go.WideShapes Go.Deep
/-- Fragments in memory: the slice of the items, the slice of the vector. -/
def KnoAt (W : World) (v : Value) (fs : List (Value × Value)) : Prop :=
  ∃ p cap, v = .slice p fs.length cap ∧ fs.length ≤ maxLen ∧ (fs ≠ [] → ∃ b o, p = some ⟨b, o, none⟩ ∧ ∀ i f, fs[i]? = some f →
    W.cell? ⟨b, o + i * 2, none⟩ = some f.1 ∧ W.cell? ⟨b, o + i * 2 + 1, none⟩ = some f.2)
theorem KnoAt.call {w w' : World} {v : Value} {fs : List (Value × Value)} (h : KnoAt w v fs) (hb : Below w.heap.size w w') : KnoAt w' v fs := by
  obtain ⟨p, cap, h1, h2, h3⟩ := h
  refine ⟨p, cap, h1, h2, fun hne => ?_⟩
  obtain ⟨b, o, h5, h6⟩ := h3 hne
  exact ⟨b, o, h5, fun i e hi => ⟨keep_cell (h6 i e hi).1 hb, keep_cell (h6 i e hi).2 hb⟩⟩
/-- What a fragment that came in is. -/
structure FragIn (lim : Nat) (W : World) (f : Value × Value) : Prop where
  sane1 : SaneE f.1
  items : HolesAt lim W f.1
  sane2 : SaneE f.2
  vec : ∃ es, VecAt W f.2 es ∧ ∀ e ∈ es, EntIn lim W e
section
variable {H : Type} {enc : TypeId × Value → H}
set_option maxRecDepth 100000 in
theorem frag_trod {W : World} {fuel : Nat} {cs : List Value} {x : DataW H × List MemPlace} (h : DataW.trod enc Tryz.prog W 0 (fun _ => true) true fuel 57 cs = some x) (lim : Nat) (hlim : lim ≤ 1048576) :
    ∃ f : Value × Value, cs = [f.1, f.2] ∧ FragIn lim W f := by
  have c2 : Tryz.prog.cellsOf 57 = 2 := by kernel_rfl
  have cv : Tryz.prog.cellsOf 40 = 1 := by kernel_rfl
  have cr : Tryz.prog.cellsOf 46 = 1 := by kernel_rfl
  obtain ⟨xs, k, _, _, hlen, hxl, hf⟩ := DataW.trod_struct Tryz.underlying57 h
  rw [c2] at hlen
  match xs, hxl, cs, hlen with
  | [y0, y1], _, [v0, v1], _ =>
    have g0 := hf 0 _ rfl
    have g1 := hf 1 _ rfl
    simp [cr, cv] at g0 g1
    obtain ⟨hs, hh⟩ := ivs_trod g0 lim hlim
    obtain ⟨hs2, hh2⟩ := vec_trod g1 lim hlim
    exact ⟨(v0, v1), rfl, hs, hh, hs2, hh2⟩
set_option maxRecDepth 100000 in
theorem kno_trod {W : World} {fuel : Nat} {v : Value} {x : DataW H × List MemPlace} (h : DataW.trod enc Tryz.prog W 0 (fun _ => true) true fuel 23 [v] = some x) (lim : Nat) (hlim : lim ≤ 1048576) :
    SaneE v ∧ ∃ fs, KnoAt W v fs ∧ ∀ f ∈ fs, FragIn lim W f := by
  rcases open_slice Tryz.underlying23 h with ⟨hcs, _⟩ | ⟨a, len, cap, m, n, D, Pl, hcs, _, hl, hcap, hm, _, hi⟩
  · obtain rfl := (List.cons.inj hcs).1
    exact ⟨sane_nil, [], ⟨none, 0, rfl, Nat.zero_le _, fun h => absurd rfl h⟩, fun e he => by cases he⟩
  · obtain rfl := (List.cons.inj hcs).1
    refine ⟨sane_lit a len cap hl, ?_⟩
    simp only [if_true] at hm
    subst hm
    have c2 : Tryz.prog.cellsOf 57 = 2 := by kernel_rfl
    have each : ∀ i, i < len → ∃ f : Value × Value, (W.cell? (a.add (i * 2)) = some f.1 ∧ W.cell? (a.add (i * 2 + 1)) = some f.2) ∧ FragIn lim W f := by
      intro i hlt
      obtain ⟨cs', h1, h2⟩ := hi i (by omega)
      rw [c2] at h1
      obtain ⟨f, rfl, hf⟩ := frag_trod h2 lim hlim
      obtain ⟨_, _, hcell⟩ := World.cells?_some h1
      have e0 := hcell 0 (by omega)
      have e1 := hcell 1 (by omega)
      rw [add_add] at e0 e1
      exact ⟨f, ⟨by simpa using e0, by simpa using e1⟩, hf⟩
    obtain ⟨q, hq⟩ := choose_lt each
    obtain ⟨b, o, spot⟩ := a
    refine ⟨(List.range len).map q, ⟨some ⟨b, o, spot⟩, m, by simp, by simp; omega, fun hne => ?_⟩, fun e he => ?_⟩
    · have hp : 0 < len := by
        rcases Nat.eq_zero_or_pos len with h0 | h0
        · subst h0; exact absurd (by simp) hne
        · exact h0
      have hspot : spot = none := by simpa [Addr.add] using World.cell?_spot (hq 0 hp).1.1
      subst hspot
      refine ⟨b, o, rfl, fun i e he => ?_⟩
      rw [List.getElem?_map] at he
      obtain ⟨j, hj, rfl⟩ := Option.map_eq_some_iff.1 he
      obtain ⟨hlt, hj⟩ := List.getElem?_eq_some_iff.1 hj
      have hil : i < len := by simpa using hlt
      obtain rfl : i = j := by simpa using hj
      obtain ⟨c0, c1⟩ := (hq i hil).1
      rw [add_plain] at c0 c1
      exact ⟨c0, by simpa [Nat.add_assoc] using c1⟩
    · obtain ⟨i, hi', rfl⟩ := List.mem_map.1 he
      exact (hq i (List.mem_range.1 hi')).2
/-- An argument that is knowledge. -/
def knoArg (W : World) (v : Value) : Prop := SaneE v ∧ ∃ fs, KnoAt W v fs ∧ ∀ f ∈ fs, FragIn 30 W f
set_option maxRecDepth 100000 in
theorem kno_open {W : World} {v : Value} {d : DataW H} {p : List MemPlace} {base : Nat} (hv : Value.okWide Tryz.prog W .any base 23 v) (h : DataW.Trod enc Tryz.prog W 0 (fun _ => true) true 23 v d p) : knoArg W v := by
  obtain ⟨a0, len0, cap0, rfl⟩ := okWide_slice Tryz.underlying23 hv
  obtain ⟨fuel, hf⟩ := h
  have hc : (Value.slice a0 len0 cap0).cells.toList = [Value.slice a0 len0 cap0] := rfl
  rw [hc] at hf
  exact kno_trod hf 30 (by omega)
end
end Go.Proofs.YtemhbmcgnmfoaaaGreatDoor

/- A version for an item (a struct of three numbers) that came in. No conditions. -/
namespace Go.Proofs.YtemhbmcgnmfoaaaGreatDoor
open Go.RowKit Go.ChangeShapes Go.WideShapes
section
variable {H : Type} {enc : TypeId × Value → H}
set_option maxRecDepth 100000 in
theorem ver_open {W : World} {base : Nat} {v : Value} {d : DataW H} {p : List MemPlace} (hv : Value.okWide Tryz.prog W .any base 36 v) (h : DataW.Trod enc Tryz.prog W 0 (fun _ => true) true 36 v d p) :
    ∃ t r c : Int, v = .agg #[.int .u64 t, .int .u64 r, .int .u64 c] ∧ (0 ≤ t ∧ t ≤ 18446744073709551615) ∧ (0 ≤ r ∧ r ≤ 18446744073709551615) ∧ (0 ≤ c ∧ c ≤ 18446744073709551615) := by
  obtain ⟨c0, c1, c2, y0, y1, y2, n, rfl, _, _, hy0, hy1, hy2⟩ := Go.Joins.open_agg3 Tryz.underlying36 (by kernel_rfl) (by kernel_rfl) hv h
  obtain ⟨a, e0, _, wa⟩ := DataW.trod_int Tryz.underlying34 hy0
  obtain ⟨b, e1, _, wb⟩ := DataW.trod_int Tryz.underlying34 hy1
  obtain ⟨c, e2, _, wc⟩ := DataW.trod_int Tryz.underlying34 hy2
  simp at e0 e1 e2
  subst e0 e1 e2
  exact ⟨a, b, c, rfl, bounds_u64 wa, bounds_u64 wb, bounds_u64 wc⟩
end
end Go.Proofs.YtemhbmcgnmfoaaaGreatDoor
