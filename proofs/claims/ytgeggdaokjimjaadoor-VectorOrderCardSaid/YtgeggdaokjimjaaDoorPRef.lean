/- The reference's vectors: few, found, known, the same, checked, canonical. Conditions: as each theorem says. -/
import Derived.Test.YtgeggdaokjimjaaDoorPOpen
import Derived.Test.YtgeggdaokjimjaaDoorNRef2
namespace Go.Proofs.YtgeggdaokjimjaaDoor
open Go.RowKit
/-- A vector in memory: its entries with their holes. -/
structure VecM (W : World) (v : Value) (V : List (Int × Int × List Iv)) : Prop where
  sh : ∃ es, VecAt W v es ∧ es.length = V.length ∧ ∀ (i : Nat) (e : Int × Int × Value) (x : Int × Int × List Iv), es[i]? = some e → V[i]? = some x → e.1 = x.1 ∧ e.2.1 = x.2.1 ∧ AnyAt W e.2.2 x.2.1 x.2.2
  len : V.length ≤ 100000
theorem VecM.call {w w' : World} {v : Value} {V : List (Int × Int × List Iv)} (h : VecM w v V) (hb : Below w.heap.size w w') : VecM w' v V := by
  obtain ⟨⟨es, h1, h2, h3⟩, h4⟩ := h
  exact ⟨⟨es, h1.call hb, h2, fun i e x he hx => ⟨(h3 i e x he hx).1, (h3 i e x he hx).2.1, (h3 i e x he hx).2.2.call hb⟩⟩, h4⟩
theorem VecM.shape {w : World} {v : Value} {V : List (Int × Int × List Iv)} (h : VecM w v V) : ∃ p cap, v = .slice p V.length cap := by
  obtain ⟨⟨es, ⟨p, cap, h1, _⟩, h2, _⟩, _⟩ := h
  exact ⟨p, cap, by rw [h1, h2]⟩
theorem VecM.elem {w : World} {v : Value} {V : List (Int × Int × List Iv)} (h : VecM w v V) {i : Nat} {r m : Int} {H : List Iv} (hi : V[i]? = some (r, m, H)) :
    ∃ b o cap p n c, v = .slice (some ⟨b, o, none⟩) V.length cap ∧ w.cell? ⟨b, o + i * 3, none⟩ = some (.int .u64 r) ∧ w.cell? ⟨b, o + i * 3 + 1, none⟩ = some (.int .u64 m) ∧ w.cell? ⟨b, o + i * 3 + 2, none⟩ = some (.slice p n c) ∧ AnyAt w (.slice p n c) m H := by
  obtain ⟨⟨es, ⟨p, cap, h1, _, h5⟩, h2, h3⟩, h4⟩ := h
  have hlt : i < V.length := (List.getElem?_eq_some_iff.1 hi).1
  have he : es[i]? = some es[i] := by simp [show i < es.length by omega]
  obtain ⟨b, o, rfl, h6⟩ := h5 (by intro e; rw [e] at h2; simp at h2; omega)
  obtain ⟨c0, c1, c2⟩ := h6 i _ he
  obtain ⟨e0, e1, ha⟩ := h3 i _ _ he hi
  obtain ⟨q, cq, hs, _⟩ := ha.at'.shape
  rw [e0] at c0
  rw [e1] at c1
  rw [hs] at c2 ha
  exact ⟨b, o, cap, q, _, cq, by rw [h1, h2], c0, c1, c2, ha⟩
/-- A vector in memory, its lists only to be read. -/
structure VecI (W : World) (v : Value) (V : List (Int × Int × List Iv)) : Prop where
  sh : ∃ es, VecAt W v es ∧ es.length = V.length ∧ ∀ (i : Nat) (e : Int × Int × Value) (x : Int × Int × List Iv), es[i]? = some e → V[i]? = some x → e.1 = x.1 ∧ e.2.1 = x.2.1 ∧ IvsAt W e.2.2 x.2.2
  len : V.length ≤ 100000
theorem VecM.i {w : World} {v : Value} {V : List (Int × Int × List Iv)} (h : VecM w v V) : VecI w v V := by
  obtain ⟨⟨es, h1, h2, h3⟩, h4⟩ := h
  exact ⟨⟨es, h1, h2, fun i e x he hx => ⟨(h3 i e x he hx).1, (h3 i e x he hx).2.1, (h3 i e x he hx).2.2.at'⟩⟩, h4⟩
theorem VecI.call {w w' : World} {v : Value} {V : List (Int × Int × List Iv)} (h : VecI w v V) (hb : Below w.heap.size w w') : VecI w' v V := by
  obtain ⟨⟨es, h1, h2, h3⟩, h4⟩ := h
  exact ⟨⟨es, h1.call hb, h2, fun i e x he hx => ⟨(h3 i e x he hx).1, (h3 i e x he hx).2.1, (h3 i e x he hx).2.2.call hb⟩⟩, h4⟩
theorem VecI.shape {w : World} {v : Value} {V : List (Int × Int × List Iv)} (h : VecI w v V) : ∃ p cap, v = .slice p V.length cap := by
  obtain ⟨⟨es, ⟨p, cap, h1, _⟩, h2, _⟩, _⟩ := h
  exact ⟨p, cap, by rw [h1, h2]⟩
theorem VecI.elem {w : World} {v : Value} {V : List (Int × Int × List Iv)} (h : VecI w v V) {i : Nat} {r m : Int} {H : List Iv} (hi : V[i]? = some (r, m, H)) :
    ∃ b o cap p n c, v = .slice (some ⟨b, o, none⟩) V.length cap ∧ w.cell? ⟨b, o + i * 3, none⟩ = some (.int .u64 r) ∧ w.cell? ⟨b, o + i * 3 + 1, none⟩ = some (.int .u64 m) ∧ w.cell? ⟨b, o + i * 3 + 2, none⟩ = some (.slice p n c) ∧ IvsAt w (.slice p n c) H := by
  obtain ⟨⟨es, ⟨p, cap, h1, _, h5⟩, h2, h3⟩, h4⟩ := h
  have hlt : i < V.length := (List.getElem?_eq_some_iff.1 hi).1
  have he : es[i]? = some es[i] := by simp [show i < es.length by omega]
  obtain ⟨b, o, rfl, h6⟩ := h5 (by intro e; rw [e] at h2; simp at h2; omega)
  obtain ⟨c0, c1, c2⟩ := h6 i _ he
  obtain ⟨e0, e1, ha⟩ := h3 i _ _ he hi
  obtain ⟨q, cq, hs, _⟩ := ha.shape
  rw [e0] at c0
  rw [e1] at c1
  rw [hs] at c2 ha
  exact ⟨b, o, cap, q, _, cq, by rw [h1, h2], c0, c1, c2, ha⟩
/-- The reference's word on the size of a vector. -/
def lenS : Value → Nat | .slice _ n _ => n | _ => 0
def fewB (es : List (Int × Int × Value)) : Bool := es.all (fun e => decide (lenS e.2.2 ≤ 30)) && decide (es.length ≤ 20)
theorem EntIn.slice {lim : Nat} {W : World} {e : Int × Int × Value} (h : EntIn lim W e) : ∃ p n c, e.2.2 = .slice p n c := by
  obtain ⟨_, _, _, ⟨q, n, cap, h, _⟩ | ⟨l, _, _, h⟩⟩ := h
  · exact ⟨q, n, cap, h⟩
  · obtain ⟨p, c, h, _⟩ := h.shape; exact ⟨p, _, c, h⟩
/-- What a vector is that is not turned away. -/
theorem few_vec {W : World} {v : Value} {es : List (Int × Int × Value)} (hv : VecAt W v es) (hin : ∀ e ∈ es, EntIn 30 W e) (hf : fewB es = true) :
    ∃ V, VecM W v V ∧ V.length ≤ 20 ∧ ∀ x ∈ V, x.2.2.length ≤ 30 ∧ (0 ≤ x.1 ∧ x.1 ≤ 18446744073709551615) := by
  unfold fewB at hf
  rw [Bool.and_eq_true, List.all_eq_true] at hf
  have hl : es.length ≤ 20 := by simpa using hf.2
  have each : ∀ i, i < es.length → ∃ x : Int × Int × List Iv, ∀ e, es[i]? = some e → (e.1 = x.1 ∧ e.2.1 = x.2.1 ∧ AnyAt W e.2.2 x.2.1 x.2.2) ∧ x.2.2.length ≤ 30 ∧ (0 ≤ x.1 ∧ x.1 ≤ 18446744073709551615) := by
    intro i hi
    have he : es[i]? = some es[i] := by simp [hi]
    have hm := List.getElem_mem hi
    obtain ⟨h0, h1, hs, hh⟩ := hin _ hm
    rcases hh with ⟨q, n, cap, hq, hn⟩ | ⟨l, hl', h64, hat⟩
    · have h30 : lenS es[i].2.2 ≤ 30 := by simpa using hf.1 _ hm
      rw [hq] at h30
      have h31 : n ≤ 30 := h30
      omega
    · refine ⟨(es[i].1, es[i].2.1, l), fun e he' => ?_⟩
      obtain rfl := Option.some.inj (he.symm.trans he')
      exact ⟨⟨rfl, rfl, hat, h64, hs, h1.1, h1.2, Nat.le_trans hl' (by decide)⟩, hl', h0⟩
  obtain ⟨q, hq⟩ := Go.Deep.choose_lt each
  refine ⟨(List.range es.length).map q, ⟨⟨es, hv, by simp, fun i e x he hx => ?_⟩, by simp; omega⟩, by simpa using hl, fun x hx => ?_⟩
  · have hi := (List.getElem?_eq_some_iff.1 he).1
    rw [List.getElem?_map, List.getElem?_range hi] at hx
    obtain rfl := Option.some.inj hx
    exact (hq i hi e he).1
  · obtain ⟨i, hi, rfl⟩ := List.mem_map.1 hx
    have hi := List.mem_range.1 hi
    exact (hq i hi es[i] (by simp [hi])).2
set_option maxRecDepth 100000 in
set_option maxHeartbeats 2000000 in
theorem few_any (v : Value) (es : List (Int × Int × Value)) (w : World) (hv : VecAt w v es) (hin : ∀ e ∈ es, EntIn 30 w e) : Calls Tryd.prog 8 #[v] w (IsEnd (fewB es) w) := by
  obtain ⟨p, cap, rfl, hlen, hc⟩ := hv
  have HC := Lib.hid hc; clear hc
  have HIN := Lib.hid hin; clear hin
  have hml : es.length ≤ 9223372036854775807 := by unfold maxLen at hlen; omega
  go_enter Tryd.func8, Tryd.ntmps8
  go_wp2_with fail
  go_loopw [3] (fun i wr => ∃ k : Nat, i = .int .i64 k ∧ k ≤ es.length ∧ (∀ j e, j < k → es[j]? = some e → lenS e.2.2 ≤ 30) ∧ Below w.heap.size w wr) (fun i _ => es.length - (intOf i).toNat)
  case atStart => exact ⟨0, rfl, Nat.zero_le _, fun j e hj => absurd hj (Nat.not_lt_zero j), Below.refl _ _⟩
  case round =>
    obtain ⟨k, rfl, hk, hbef, hb⟩ := hrel
    have HBF := Lib.hid hbef; clear hbef
    have HB := Lib.hid hb; clear hb
    by_cases hlt : k < es.length
    · have he : es[k]? = some es[k] := by simp [hlt]
      obtain ⟨b, o, rfl, h6⟩ := HC.out (by intro e; rw [e] at hlt; simp at hlt)
      obtain ⟨_, _, c2⟩ := h6 k _ he
      obtain ⟨q, n, c, hs⟩ := (HIN.out _ (List.getElem_mem hlt)).slice
      replace c2 := keep_cell c2 HB.out
      rw [hs] at c2
      have HE := Lib.hid (And.intro he hs); clear he h6 hs
      have i1 : (0 : Int) ≤ (k : Int) := by omega
      have i2 : (k : Int) < (es.length : Int) := by omega
      by_cases hn : 30 < n
      · have e1 : decide ((30 : Int) < (n : Int)) = true := by simp; omega
        have HZ : Hid (fewB es = false) := Lib.hid (by
          unfold fewB
          rw [Bool.and_eq_false_iff]
          refine .inl ?_
          rw [List.all_eq_false]
          have h31 : ¬ lenS es[k].2.2 ≤ 30 := by rw [HE.out.2]; exact Nat.not_le.2 hn
          exact ⟨es[k], List.getElem_mem hlt, by simpa using h31⟩)
        go_wp2_with fail
        go_ret
        exact ⟨by rw [HZ.out]; rfl, HB.out⟩
      · have e1 : decide ((30 : Int) < (n : Int)) = false := by simp; omega
        have HN := Lib.hid hn; clear hn
        go_wp2_with fail
        go_roundw
        case rel => exact ⟨k + 1, by go_num, by omega, fun j e hj hje => by
          rcases Nat.lt_or_eq_of_le (Nat.le_of_lt_succ hj) with h | h
          · exact HBF.out j e h hje
          · subst h
            obtain rfl := Option.some.inj (HE.out.1.symm.trans hje)
            rw [HE.out.2]
            exact Nat.le_of_not_lt HN.out, HB.out⟩
        case measure => simp [intOf]; omega
    · obtain rfl : k = es.length := by omega
      have hz : fewB es = decide (es.length ≤ 20) := by
        unfold fewB
        rw [show es.all (fun e => decide (lenS e.2.2 ≤ 30)) = true from by
          rw [List.all_eq_true]
          intro e he
          obtain ⟨i, hi⟩ := List.mem_iff_getElem?.1 he
          simpa using HBF.out i e (List.getElem?_eq_some_iff.1 hi).1 hi]
        simp
      by_cases h20 : es.length ≤ 20
      · rw [decide_eq_true h20] at hz
        have e1 : decide ((es.length : Int) ≤ 20) = true := by simp; omega
        have HZ := Lib.hid hz; clear hz
        go_wp2_with fail
        go_ret
        exact ⟨by rw [HZ.out]; rfl, HB.out⟩
      · rw [decide_eq_false h20] at hz
        have e1 : decide ((es.length : Int) ≤ 20) = false := by simp; omega
        have HZ := Lib.hid hz; clear hz
        go_wp2_with fail
        go_ret
        exact ⟨by rw [HZ.out]; rfl, HB.out⟩
/-- The index of a replica's entry, or -1. -/
def findV (V : List (Int × Int × List Iv)) (r : Int) : Int := match V.findIdx? (fun x => decide (x.1 = r)) with | some k => (k : Int) | none => -1
theorem findV_some {V : List (Int × Int × List Iv)} {r : Int} {k : Nat} {x : Int × Int × List Iv} (hx : V[k]? = some x) (hr : x.1 = r) (h : ∀ j y, j < k → V[j]? = some y → y.1 ≠ r) : findV V r = (k : Int) := by
  unfold findV
  have : V.findIdx? (fun x => decide (x.1 = r)) = some k := by
    rw [List.findIdx?_eq_some_iff_getElem]
    obtain ⟨hlt, he⟩ := List.getElem?_eq_some_iff.1 hx
    refine ⟨hlt, by rw [he]; simpa using hr, fun j hj => ?_⟩
    have := h j V[j] hj (by simp [show j < V.length by omega])
    simpa using this
  rw [this]
theorem findV_none {V : List (Int × Int × List Iv)} {r : Int} (h : ∀ (j : Nat) y, V[j]? = some y → y.1 ≠ r) : findV V r = -1 := by
  unfold findV
  have : V.findIdx? (fun x => decide (x.1 = r)) = none := by
    rw [List.findIdx?_eq_none_iff]
    intro x hx
    obtain ⟨i, hi⟩ := List.mem_iff_getElem?.1 hx
    simpa using h i x hi
  rw [this]
set_option maxRecDepth 100000 in
set_option maxHeartbeats 2000000 in
theorem refFind9_any (V : List (Int × Int × List Iv)) (v : Value) (r : Int) (w : World) (hv : VecI w v V) : Calls Tryd.prog 18 #[v, .int .u64 r] w (IsInt (findV V r) w) := by
  obtain ⟨p, cap, rfl⟩ := hv.shape
  have hlen := hv.len
  have HV := Lib.hid hv; clear hv
  go_enter Tryd.func18, Tryd.ntmps18
  go_wp2_with fail
  go_loopw [5] (fun i wr => ∃ k : Nat, i = .int .i64 k ∧ k ≤ V.length ∧ (∀ j y, j < k → V[j]? = some y → y.1 ≠ r) ∧ Below w.heap.size w wr) (fun i _ => V.length - (intOf i).toNat)
  case atStart => exact ⟨0, rfl, Nat.zero_le _, fun j e hj => absurd hj (Nat.not_lt_zero j), Below.refl _ _⟩
  case round =>
    obtain ⟨k, rfl, hk, hbef, hb⟩ := hrel
    have HBF := Lib.hid hbef; clear hbef
    have HB := Lib.hid hb; clear hb
    by_cases hlt : k < V.length
    · obtain ⟨⟨x, m, H⟩, hx⟩ : ∃ x, V[k]? = some x := ⟨V[k], by simp [hlt]⟩
      obtain ⟨b, o, cap', q, n, c, e, c0, c1, c2, _⟩ := (HV.out.call HB.out).elem hx
      cases e
      have HX := Lib.hid hx; clear hx c1 c2
      have i1 : (0 : Int) ≤ (k : Int) := by omega
      have i2 : (k : Int) < (V.length : Int) := by omega
      by_cases hr : x = r
      · have e1 : (x == r) = true := by simpa using hr
        have HZ := Lib.hid (findV_some HX.out hr HBF.out)
        subst hr
        go_wp2_with fail
        go_ret
        exact ⟨by rw [HZ.out]; rfl, HB.out⟩
      · have e1 : (x == r) = false := by simpa using hr
        have HR := Lib.hid hr; clear hr
        go_wp2_with fail
        go_roundw
        case rel => exact ⟨k + 1, by go_num, by omega, fun j y hj hy => by
          rcases Nat.lt_or_eq_of_le (Nat.le_of_lt_succ hj) with h | h
          · exact HBF.out j y h hy
          · subst h
            obtain rfl := Option.some.inj (HX.out.symm.trans hy)
            exact HR.out, HB.out⟩
        case measure => simp [intOf]; omega
    · obtain rfl : k = V.length := by omega
      have HZ := Lib.hid (findV_none (V := V) (r := r) fun j y hy => HBF.out j y (List.getElem?_eq_some_iff.1 hy).1 hy)
      go_wp2_with fail
      go_ret
      exact ⟨by rw [HZ.out]; rfl, HB.out⟩
end Go.Proofs.YtgeggdaokjimjaaDoor
