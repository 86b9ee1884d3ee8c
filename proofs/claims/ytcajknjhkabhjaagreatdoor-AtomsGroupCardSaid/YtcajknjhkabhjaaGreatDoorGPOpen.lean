/- A slice of intervals by its cells; a vector that came in: its entries in memory, however many, each with its holes. No conditions. -/
import Derived.Test.YtcajknjhkabhjaaGreatDoorGNRef
import Derived.Deep.SlicePairs
import Derived.OpenShut
namespace Go.Proofs.YtcajknjhkabhjaaGreatDoor
open Go.RowKit Go.ChangeShapes Go.WideShapes Go.Deep
def VecAt (W : World) (v : Value) (es : List (Int × Int × Value)) : Prop :=
 ∃ p cap, v = .slice p es.length cap ∧ es.length ≤ maxLen ∧ (es ≠ [] → ∃ b o, p = some ⟨b, o, none⟩ ∧ ∀ i e, es[i]? = some e →
  W.cell? ⟨b, o + i * 3, none⟩ = some (.int .u64 e.1) ∧ W.cell? ⟨b, o + i * 3 + 1, none⟩ = some (.int .u64 e.2.1) ∧ W.cell? ⟨b, o + i * 3 + 2, none⟩ = some e.2.2)
theorem VecAt.call {w w' : World} {v : Value} {es : List (Int × Int × Value)} (h : VecAt w v es) (hb : Below w.heap.size w w') : VecAt w' v es := by
 obtain ⟨p, cap, h1, h2, h3⟩ := h
 refine ⟨p, cap, h1, h2, fun hne => ?_⟩
 obtain ⟨b, o, h5, h6⟩ := h3 hne
 exact ⟨b, o, h5, fun i e hi => ⟨keep_cell (h6 i e hi).1 hb, keep_cell (h6 i e hi).2.1 hb, keep_cell (h6 i e hi).2.2 hb⟩⟩
def HolesAt (lim : Nat) (W : World) (s : Value) : Prop := (∃ q n cap, s = .slice q n cap ∧ lim < n) ∨ ∃ l, l.length ≤ lim ∧ All64 l ∧ IvsAt W s l
def EntIn (lim : Nat) (W : World) (e : Int × Int × Value) : Prop := (0 ≤ e.1 ∧ e.1 ≤ 18446744073709551615) ∧ (0 ≤ e.2.1 ∧ e.2.1 ≤ 18446744073709551615) ∧ SaneE e.2.2 ∧ HolesAt lim W e.2.2
end Go.Proofs.YtcajknjhkabhjaaGreatDoor
namespace Go.Proofs.YtcajknjhkabhjaaGreatDoor
open Go.RowKit
structure VecM (W : World) (v : Value) (V : List (Int × Int × List Iv)) : Prop where
 sh : ∃ es, VecAt W v es ∧ es.length = V.length ∧ ∀ (i : Nat) (e : Int × Int × Value) (x : Int × Int × List Iv), es[i]? = some e → V[i]? = some x → e.1 = x.1 ∧ e.2.1 = x.2.1 ∧ AnyAt W e.2.2 x.2.1 x.2.2
 len : V.length ≤ 100000
theorem VecM.call {w w' : World} {v : Value} {V : List (Int × Int × List Iv)} (h : VecM w v V) (hb : Below w.heap.size w w') : VecM w' v V := by
 obtain ⟨⟨es, h1, h2, h3⟩, h4⟩ := h
 exact ⟨⟨es, h1.call hb, h2, fun i e x he hx => ⟨(h3 i e x he hx).1, (h3 i e x he hx).2.1, (h3 i e x he hx).2.2.call hb⟩⟩, h4⟩
theorem VecM.shape {w : World} {v : Value} {V : List (Int × Int × List Iv)} (h : VecM w v V) : ∃ p cap, v = .slice p V.length cap := by
 obtain ⟨⟨es, ⟨p, cap, h1, _⟩, h2, _⟩, _⟩ := h
 exact ⟨p, cap, by rw [h1, h2]⟩
theorem VecM.elem {w : World} {v : Value} {V : List (Int × Int × List Iv)} (h : VecM w v V) {i : Nat} {r m : Int} {H : List Iv} (hi : V[i]? = some (r, m, H)) :
 ∃ b o cap p n c, v = .slice (some ⟨b, o, none⟩) V.length cap ∧ w.cell? ⟨b, o + i * 3, none⟩ = some (.int .u64 r) ∧ w.cell? ⟨b, o + i * 3 + 1, none⟩ = some (.int .u64 m) ∧ w.cell? ⟨b, o + i * 3 + 2, none⟩ = some (.slice p n c) ∧ AnyAt w (.slice p n c) m H := by
 obtain ⟨⟨es, ⟨p, cap, h1, _, h5⟩, h2, h3⟩, h4⟩ := h
 have hlt : i < V.length := (List.getElem?_eq_some_iff.1 hi).1
 have he : es[i]? = some es[i] := by simp [show i < es.length by omega]
 obtain ⟨b, o, rfl, h6⟩ := h5 (by intro e; rw [e] at h2; simp at h2; omega)
 obtain ⟨c0, c1, c2⟩ := h6 i _ he
 obtain ⟨e0, e1, ha⟩ := h3 i _ _ he hi
 obtain ⟨q, cq, hs, _⟩ := ha.at'.shape
 rw [e0] at c0
 rw [e1] at c1
 rw [hs] at c2 ha
 exact ⟨b, o, cap, q, _, cq, by rw [h1, h2], c0, c1, c2, ha⟩
structure VecI (W : World) (v : Value) (V : List (Int × Int × List Iv)) : Prop where
 sh : ∃ es, VecAt W v es ∧ es.length = V.length ∧ ∀ (i : Nat) (e : Int × Int × Value) (x : Int × Int × List Iv), es[i]? = some e → V[i]? = some x → e.1 = x.1 ∧ e.2.1 = x.2.1 ∧ IvsAt W e.2.2 x.2.2
 len : V.length ≤ 100000
theorem VecM.i {w : World} {v : Value} {V : List (Int × Int × List Iv)} (h : VecM w v V) : VecI w v V := by
 obtain ⟨⟨es, h1, h2, h3⟩, h4⟩ := h
 exact ⟨⟨es, h1, h2, fun i e x he hx => ⟨(h3 i e x he hx).1, (h3 i e x he hx).2.1, (h3 i e x he hx).2.2.at'⟩⟩, h4⟩
theorem VecI.call {w w' : World} {v : Value} {V : List (Int × Int × List Iv)} (h : VecI w v V) (hb : Below w.heap.size w w') : VecI w' v V := by
 obtain ⟨⟨es, h1, h2, h3⟩, h4⟩ := h
 exact ⟨⟨es, h1.call hb, h2, fun i e x he hx => ⟨(h3 i e x he hx).1, (h3 i e x he hx).2.1, (h3 i e x he hx).2.2.call hb⟩⟩, h4⟩
theorem VecI.shape {w : World} {v : Value} {V : List (Int × Int × List Iv)} (h : VecI w v V) : ∃ p cap, v = .slice p V.length cap := by
 obtain ⟨⟨es, ⟨p, cap, h1, _⟩, h2, _⟩, _⟩ := h
 exact ⟨p, cap, by rw [h1, h2]⟩
theorem VecI.elem {w : World} {v : Value} {V : List (Int × Int × List Iv)} (h : VecI w v V) {i : Nat} {r m : Int} {H : List Iv} (hi : V[i]? = some (r, m, H)) :
 ∃ b o cap p n c, v = .slice (some ⟨b, o, none⟩) V.length cap ∧ w.cell? ⟨b, o + i * 3, none⟩ = some (.int .u64 r) ∧ w.cell? ⟨b, o + i * 3 + 1, none⟩ = some (.int .u64 m) ∧ w.cell? ⟨b, o + i * 3 + 2, none⟩ = some (.slice p n c) ∧ IvsAt w (.slice p n c) H := by
 obtain ⟨⟨es, ⟨p, cap, h1, _, h5⟩, h2, h3⟩, h4⟩ := h
 have hlt : i < V.length := (List.getElem?_eq_some_iff.1 hi).1
 have he : es[i]? = some es[i] := by simp [show i < es.length by omega]
 obtain ⟨b, o, rfl, h6⟩ := h5 (by intro e; rw [e] at h2; simp at h2; omega)
 obtain ⟨c0, c1, c2⟩ := h6 i _ he
 obtain ⟨e0, e1, ha⟩ := h3 i _ _ he hi
 obtain ⟨q, cq, hs, _⟩ := ha.shape
 rw [e0] at c0
 rw [e1] at c1
 rw [hs] at c2 ha
 exact ⟨b, o, cap, q, _, cq, by rw [h1, h2], c0, c1, c2, ha⟩
def lenS : Value → Nat | .slice _ n _ => n | _ => 0
def fewB (es : List (Int × Int × Value)) : Bool := es.all (fun e => decide (lenS e.2.2 ≤ 30)) && decide (es.length ≤ 20)
theorem EntIn.slice {lim : Nat} {W : World} {e : Int × Int × Value} (h : EntIn lim W e) : ∃ p n c, e.2.2 = .slice p n c := by
 obtain ⟨_, _, _, ⟨q, n, cap, h, _⟩ | ⟨l, _, _, h⟩⟩ := h
 ·exact ⟨q, n, cap, h⟩
 ·obtain ⟨p, c, h, _⟩ := h.shape; exact ⟨p, _, c, h⟩
theorem few_vec {W : World} {v : Value} {es : List (Int × Int × Value)} (hv : VecAt W v es) (hin : ∀ e ∈ es, EntIn 30 W e) (hf : fewB es = true) :
 ∃ V, VecM W v V ∧ V.length ≤ 20 ∧ ∀ x ∈ V, x.2.2.length ≤ 30 ∧ (0 ≤ x.1 ∧ x.1 ≤ 18446744073709551615) := by
 unfold fewB at hf
 rw [Bool.and_eq_true, List.all_eq_true] at hf
 have hl : es.length ≤ 20 := by simpa using hf.2
 have each : ∀ i, i < es.length → ∃ x : Int × Int × List Iv, ∀ e, es[i]? = some e → (e.1 = x.1 ∧ e.2.1 = x.2.1 ∧ AnyAt W e.2.2 x.2.1 x.2.2) ∧ x.2.2.length ≤ 30 ∧ (0 ≤ x.1 ∧ x.1 ≤ 18446744073709551615) := by
  intro i hi
  have he : es[i]? = some es[i] := by simp [hi]
  have hm := List.getElem_mem hi
  obtain ⟨h0, h1, hs, hh⟩ := hin _ hm
  rcases hh with ⟨q, n, cap, hq, hn⟩ | ⟨l, hl', h64, hat⟩
  ·have h30 : lenS es[i].2.2 ≤ 30 := by simpa using hf.1 _ hm
   rw [hq] at h30
   have h31 : n ≤ 30 := h30
   omega
  ·refine ⟨(es[i].1, es[i].2.1, l), fun e he' => ?_⟩
   obtain rfl := Option.some.inj (he.symm.trans he')
   exact ⟨⟨rfl, rfl, hat, h64, hs, h1.1, h1.2, Nat.le_trans hl' (by decide)⟩, hl', h0⟩
 obtain ⟨q, hq⟩ := Go.Deep.choose_lt each
 refine ⟨(List.range es.length).map q, ⟨⟨es, hv, by simp, fun i e x he hx => ?_⟩, by simp; omega⟩, by simpa using hl, fun x hx => ?_⟩
 ·have hi := (List.getElem?_eq_some_iff.1 he).1
  rw [List.getElem?_map, List.getElem?_range hi] at hx
  obtain rfl := Option.some.inj hx
  exact (hq i hi e he).1
 ·obtain ⟨i, hi, rfl⟩ := List.mem_map.1 hx
  have hi := List.mem_range.1 hi
  exact (hq i hi es[i] (by simp [hi])).2
set_option maxRecDepth 100000 in
set_option maxHeartbeats 2000000 in
theorem few_any (v : Value) (es : List (Int × Int × Value)) (w : World) (hv : VecAt w v es) (hin : ∀ e ∈ es, EntIn 30 w e) : Calls Tryz.prog 52 #[v] w (IsEnd (fewB es) w) := by
 obtain ⟨p, cap, rfl, hlen, hc⟩ := hv
 have HC := Lib.hid hc; clear hc
 have HIN := Lib.hid hin; clear hin
 have hml : es.length ≤ 9223372036854775807 := by unfold maxLen at hlen; omega
 go_enter Tryz.func52, Tryz.ntmps52
 go_wp2_with fail
 go_loopw [3] (fun i wr => ∃ k : Nat, i = .int .i64 k ∧ k ≤ es.length ∧ (∀ j e, j < k → es[j]? = some e → lenS e.2.2 ≤ 30) ∧ Below w.heap.size w wr) (fun i _ => es.length - (intOf i).toNat)
 case atStart => exact ⟨0, rfl, Nat.zero_le _, fun j e hj => absurd hj (Nat.not_lt_zero j), Below.refl _ _⟩
 case round =>
  obtain ⟨k, rfl, hk, hbef, hb⟩ := hrel
  have HBF := Lib.hid hbef; clear hbef
  have HB := Lib.hid hb; clear hb
  by_cases hlt : k < es.length
  ·have he : es[k]? = some es[k] := by simp [hlt]
   obtain ⟨b, o, rfl, h6⟩ := HC.out (by intro e; rw [e] at hlt; simp at hlt)
   obtain ⟨_, _, c2⟩ := h6 k _ he
   obtain ⟨q, n, c, hs⟩ := (HIN.out _ (List.getElem_mem hlt)).slice
   replace c2 := keep_cell c2 HB.out
   rw [hs] at c2
   have HE := Lib.hid (And.intro he hs); clear he h6 hs
   have i1 : (0 : Int) ≤ (k : Int) := by omega
   have i2 : (k : Int) < (es.length : Int) := by omega
   by_cases hn : 30 < n
   ·have e1 : decide ((30 : Int) < (n : Int)) = true := by simp; omega
    have HZ : Hid (fewB es = false) := Lib.hid (by
     unfold fewB
     rw [Bool.and_eq_false_iff]
     refine .inl ?_
     rw [List.all_eq_false]
     have h31 : ¬ lenS es[k].2.2 ≤ 30 := by rw [HE.out.2]; exact Nat.not_le.2 hn
     exact ⟨es[k], List.getElem_mem hlt, by simpa using h31⟩)
    go_wp2_with fail
    go_ret
    exact ⟨by rw [HZ.out]; rfl, HB.out⟩
   ·have e1 : decide ((30 : Int) < (n : Int)) = false := by simp; omega
    have HN := Lib.hid hn; clear hn
    go_wp2_with fail
    go_roundw
    case rel => exact ⟨k + 1, by go_num, by omega, fun j e hj hje => by
     rcases Nat.lt_or_eq_of_le (Nat.le_of_lt_succ hj) with h | h
     ·exact HBF.out j e h hje
     ·subst h
      obtain rfl := Option.some.inj (HE.out.1.symm.trans hje)
      rw [HE.out.2]
      exact Nat.le_of_not_lt HN.out, HB.out⟩
    case measure => simp [intOf]; omega
  ·obtain rfl : k = es.length := by omega
   have hz : fewB es = decide (es.length ≤ 20) := by
    unfold fewB
    rw [show es.all (fun e => decide (lenS e.2.2 ≤ 30)) = true from by
     rw [List.all_eq_true]
     intro e he
     obtain ⟨i, hi⟩ := List.mem_iff_getElem?.1 he
     simpa using HBF.out i e (List.getElem?_eq_some_iff.1 hi).1 hi]
    simp
   by_cases h20 : es.length ≤ 20
   ·rw [decide_eq_true h20] at hz
    have e1 : decide ((es.length : Int) ≤ 20) = true := by simp; omega
    have HZ := Lib.hid hz; clear hz
    go_wp2_with fail
    go_ret
    exact ⟨by rw [HZ.out]; rfl, HB.out⟩
   ·rw [decide_eq_false h20] at hz
    have e1 : decide ((es.length : Int) ≤ 20) = false := by simp; omega
    have HZ := Lib.hid hz; clear hz
    go_wp2_with fail
    go_ret
    exact ⟨by rw [HZ.out]; rfl, HB.out⟩
def findV (V : List (Int × Int × List Iv)) (r : Int) : Int := match V.findIdx? (fun x => decide (x.1 = r)) with | some k => (k : Int) | none => -1
theorem findV_some {V : List (Int × Int × List Iv)} {r : Int} {k : Nat} {x : Int × Int × List Iv} (hx : V[k]? = some x) (hr : x.1 = r) (h : ∀ j y, j < k → V[j]? = some y → y.1 ≠ r) : findV V r = (k : Int) := by
 unfold findV
 have : V.findIdx? (fun x => decide (x.1 = r)) = some k := by
  rw [List.findIdx?_eq_some_iff_getElem]
  obtain ⟨hlt, he⟩ := List.getElem?_eq_some_iff.1 hx
  refine ⟨hlt, by rw [he]; simpa using hr, fun j hj => ?_⟩
  have := h j V[j] hj (by simp [show j < V.length by omega])
  simpa using this
 rw [this]
theorem findV_none {V : List (Int × Int × List Iv)} {r : Int} (h : ∀ (j : Nat) y, V[j]? = some y → y.1 ≠ r) : findV V r = -1 := by
 unfold findV
 have : V.findIdx? (fun x => decide (x.1 = r)) = none := by
  rw [List.findIdx?_eq_none_iff]
  intro x hx
  obtain ⟨i, hi⟩ := List.mem_iff_getElem?.1 hx
  simpa using h i x hi
 rw [this]
set_option maxRecDepth 100000 in
set_option maxHeartbeats 2000000 in
theorem refFind9_any (V : List (Int × Int × List Iv)) (v : Value) (r : Int) (w : World) (hv : VecI w v V) : Calls Tryz.prog 116 #[v, .int .u64 r] w (IsInt (findV V r) w) := by
 obtain ⟨p, cap, rfl⟩ := hv.shape
 have hlen := hv.len
 have HV := Lib.hid hv; clear hv
 go_enter Tryz.func116, Tryz.ntmps116
 go_wp2_with fail
 go_loopw [5] (fun i wr => ∃ k : Nat, i = .int .i64 k ∧ k ≤ V.length ∧ (∀ j y, j < k → V[j]? = some y → y.1 ≠ r) ∧ Below w.heap.size w wr) (fun i _ => V.length - (intOf i).toNat)
 case atStart => exact ⟨0, rfl, Nat.zero_le _, fun j e hj => absurd hj (Nat.not_lt_zero j), Below.refl _ _⟩
 case round =>
  obtain ⟨k, rfl, hk, hbef, hb⟩ := hrel
  have HBF := Lib.hid hbef; clear hbef
  have HB := Lib.hid hb; clear hb
  by_cases hlt : k < V.length
  ·obtain ⟨⟨x, m, H⟩, hx⟩ : ∃ x, V[k]? = some x := ⟨V[k], by simp [hlt]⟩
   obtain ⟨b, o, cap', q, n, c, e, c0, c1, c2, _⟩ := (HV.out.call HB.out).elem hx
   cases e
   have HX := Lib.hid hx; clear hx c1 c2
   have i1 : (0 : Int) ≤ (k : Int) := by omega
   have i2 : (k : Int) < (V.length : Int) := by omega
   by_cases hr : x = r
   ·have e1 : (x == r) = true := by simpa using hr
    have HZ := Lib.hid (findV_some HX.out hr HBF.out)
    subst hr
    go_wp2_with fail
    go_ret
    exact ⟨by rw [HZ.out]; rfl, HB.out⟩
   ·have e1 : (x == r) = false := by simpa using hr
    have HR := Lib.hid hr; clear hr
    go_wp2_with fail
    go_roundw
    case rel => exact ⟨k + 1, by go_num, by omega, fun j y hj hy => by
     rcases Nat.lt_or_eq_of_le (Nat.le_of_lt_succ hj) with h | h
     ·exact HBF.out j y h hy
     ·subst h
      obtain rfl := Option.some.inj (HX.out.symm.trans hy)
      exact HR.out, HB.out⟩
    case measure => simp [intOf]; omega
  ·obtain rfl : k = V.length := by omega
   have HZ := Lib.hid (findV_none (V := V) (r := r) fun j y hy => HBF.out j y (List.getElem?_eq_some_iff.1 hy).1 hy)
   go_wp2_with fail
   go_ret
   exact ⟨by rw [HZ.out]; rfl, HB.out⟩
end Go.Proofs.YtcajknjhkabhjaaGreatDoor
namespace Go.Proofs.YtcajknjhkabhjaaGreatDoor
open Go.RowKit
def badV (V : List (Int × Int × List Iv)) (i : Nat) : Int := match V[i]? with
 | none => 0
 | some x => if codeE (chkN x.2.1 x.2.2) ≠ 0 then codeE (chkN x.2.1 x.2.2) else match i with
   | 0 => 0
   | j + 1 => match V[j]? with
     | none => 0
     | some y => if x.1 ≤ y.1 then 3 else 0
def chkVec (V : List (Int × Int × List Iv)) : Option (Int × Nat) := (List.range V.length).findSome? fun i => if badV V i = 0 then none else some (badV V i, i)
theorem chkVec_none {V : List (Int × Int × List Iv)} (h : ∀ j, j < V.length → badV V j = 0) : chkVec V = none := by
 unfold chkVec
 rw [List.findSome?_eq_none_iff]
 intro i hi
 rw [if_pos (h i (by simpa using hi))]
theorem chkVec_some {V : List (Int × Int × List Iv)} {k : Nat} (hk : k < V.length) (h : ∀ j, j < k → badV V j = 0) (hb : badV V k ≠ 0) : chkVec V = some (badV V k, k) := by
 unfold chkVec
 obtain ⟨d, hd⟩ : ∃ d, V.length = k + (d + 1) := ⟨V.length - k - 1, by omega⟩
 rw [hd, List.range_add, List.findSome?_append]
 have h1 : (List.range k).findSome? (fun i => if badV V i = 0 then none else some (badV V i, i)) = none := by
  rw [List.findSome?_eq_none_iff]
  intro i hi
  rw [if_pos (h i (by simpa using hi))]
 rw [h1, List.range_succ_eq_map, List.map_cons, List.findSome?_cons]
 simp [hb]
def vCode (V : List (Int × Int × List Iv)) : Int := match chkVec V with | some x => x.1 | none => 0
def vAt (V : List (Int × Int × List Iv)) : Int := match chkVec V with | some x => (x.2 : Int) | none => -1
theorem badV_code {V : List (Int × Int × List Iv)} {k : Nat} {r m : Int} {H : List Iv} (hx : V[k]? = some (r, m, H)) (hc : codeE (chkN m H) ≠ 0) : badV V k = codeE (chkN m H) := by unfold badV; rw [hx]; simp only; rw [if_pos hc]
theorem badV_first {V : List (Int × Int × List Iv)} {r m : Int} {H : List Iv} (hx : V[0]? = some (r, m, H)) (hc : codeE (chkN m H) = 0) : badV V 0 = 0 := by unfold badV; rw [hx]; simp only; rw [if_neg (by simp [hc])]
theorem badV_next {V : List (Int × Int × List Iv)} {j : Nat} {r m r' m' : Int} {H H' : List Iv} (hx : V[j + 1]? = some (r, m, H)) (hy : V[j]? = some (r', m', H')) (hc : codeE (chkN m H) = 0) : badV V (j + 1) = if r ≤ r' then 3 else 0 := by
 unfold badV; rw [hx]; simp only; rw [if_neg (by simp [hc]), hy]
set_option maxRecDepth 100000 in
set_option maxHeartbeats 4000000 in
theorem refCheck9_any (V : List (Int × Int × List Iv)) (v : Value) (w : World) (hv : VecM w v V) : Calls Tryz.prog 135 #[v] w (IsPair (vCode V) (vAt V) w) := by
 obtain ⟨p, cap, rfl⟩ := hv.shape
 have hlen := hv.len
 have HV := Lib.hid hv; clear hv
 have KC := Lib.hid refCheckE_any
 go_enter Tryz.func135, Tryz.ntmps135
 go_wp2_with fail
 go_loopw [4] (fun i wr => ∃ k : Nat, i = .int .i64 k ∧ k ≤ V.length ∧ (∀ j, j < k → badV V j = 0) ∧ Below w.heap.size w wr) (fun i _ => V.length - (intOf i).toNat)
 case atStart => exact ⟨0, rfl, Nat.zero_le _, fun j hj => absurd hj (Nat.not_lt_zero j), Below.refl _ _⟩
 case round =>
  obtain ⟨k, rfl, hk, hbef, hb⟩ := hrel
  have HBF := Lib.hid hbef; clear hbef
  have HB := Lib.hid hb; clear hb
  by_cases hlt : k < V.length
  ·obtain ⟨⟨x, m, H⟩, hx⟩ : ∃ x, V[k]? = some x := ⟨V[k], by simp [hlt]⟩
   obtain ⟨b, o, cap', q, n, c, e, c0, c1, c2, ha⟩ := (HV.out.call HB.out).elem hx
   cases e
   have K := Lib.hid (KC.out x m H (.slice q n c) wr ha.at' ha.all)
   have HX := Lib.hid hx; clear hx ha
   have i1 : (0 : Int) ≤ (k : Int) := by omega
   have i2 : (k : Int) < (V.length : Int) := by omega
   obtain ⟨cd, hcd⟩ : ∃ cd, codeE (chkN m H) = cd := ⟨_, rfl⟩
   obtain ⟨av, hav⟩ : ∃ av, (atE (chkN m H)).getD (-1) = av := ⟨_, rfl⟩
   rw [hcd, hav] at K
   have HCD := Lib.hid hcd; clear hcd hav
   go_wp2_with fail
   refine K.out.mono ?_
   rintro e w1 ⟨rfl, h⟩
   have H1 := Lib.hid (below_call HB.out h)
   replace c0 := keep_cell c0 h
   clear h c1 c2
   by_cases h0 : cd = 0
   ·subst h0
    cases k with
    | zero =>
      have HZ := Lib.hid (badV_first HX.out HCD.out)
      go_wp2_with fail
      go_quiet (fail)
      go_wp2_with fail
      go_roundw
      case rel => exact ⟨1, by go_num, by omega, fun j hj => by
       obtain rfl : j = 0 := by omega
       exact HZ.out, below_drewN H1.out _⟩
      case measure => simp [intOf]; omega
    | succ j =>
      obtain ⟨⟨y, m', H'⟩, hy⟩ : ∃ y, V[j]? = some y := ⟨V[j], by simp [show j < V.length by omega]⟩
      obtain ⟨b', o', cap2, q', n', c', e', d0, _, _, _⟩ := (HV.out.call H1.out).elem hy
      cases e'
      have HZ := Lib.hid (badV_next HX.out hy HCD.out)
      have hj0 : (0 : Int) ≤ (j : Int) := by omega
      have hj1 : (j : Int) < (V.length : Int) := by omega
      have hj2 : (0 : Int) ≤ (j : Int) + 1 := by omega
      have hj3 : (j : Int) + 1 < (V.length : Int) := by omega
      have hj4 : (0 : Int) < (j : Int) + 1 := by omega
      have hw1 : IntKind.i64.wrap ((j : Int) + 1 - 1) = (j : Int) := (IntWalk.i64_in _ (by omega)).trans (by omega)
      have hw2 : IntKind.i64.wrap (j : Int) = (j : Int) := IntWalk.i64_in _ (by omega)
      have hw3 : IntKind.i64.wrap (((j + 1 : Nat) : Int) - 1) = (j : Int) := (IntWalk.i64_in _ (by omega)).trans (by omega)
      clear hy
      by_cases hle : x ≤ y
      ·have e1 : decide (x ≤ y) = true := by simpa using hle
       rw [if_pos hle] at HZ
       have HE : Hid (vCode V = 3 ∧ vAt V = ((j : Int) + 1)) := Lib.hid (by
        have hs := chkVec_some hlt HBF.out (by rw [HZ.out]; decide)
        rw [HZ.out] at hs
        unfold vCode vAt
        rw [hs]
        exact ⟨rfl, by simp⟩)
       clear hle
       go_wp2_with fail
       go_quiet (fail)
       go_wp2_with fail
       go_ret2
       exact ⟨by rw [HE.out.1, HE.out.2]; rfl, below_drewN H1.out _⟩
      ·have e1 : decide (x ≤ y) = false := by simpa using hle
       rw [if_neg hle] at HZ
       clear hle
       go_wp2_with fail
       go_quiet (fail)
       go_wp2_with fail
       go_roundw
       case rel => exact ⟨j + 1 + 1, by go_num, by omega, fun i hi => by
        rcases Nat.lt_or_eq_of_le (Nat.le_of_lt_succ hi) with h | h
        ·exact HBF.out i h
        ·rw [h]; exact HZ.out, below_drewN H1.out _⟩
       case measure => simp [intOf]; omega
   ·have e1 : (cd != 0) = true := by simpa using h0
    have HE : Hid (vCode V = cd ∧ vAt V = (k : Int)) := Lib.hid (by
     have hz := badV_code HX.out (by rw [HCD.out]; exact h0)
     have hs := chkVec_some hlt HBF.out (by rw [hz, HCD.out]; exact h0)
     rw [hz, HCD.out] at hs
     unfold vCode vAt
     rw [hs]
     exact ⟨rfl, rfl⟩)
    clear h0
    go_wp2_with fail
    go_ret2
    exact ⟨by rw [HE.out.1, HE.out.2]; rfl, H1.out⟩
  ·obtain rfl : k = V.length := by omega
   have HE : Hid (vCode V = 0 ∧ vAt V = -1) := Lib.hid (by unfold vCode vAt; rw [chkVec_none HBF.out]; exact ⟨rfl, rfl⟩)
   go_wp2_with fail
   go_ret2
   exact ⟨by rw [HE.out.1, HE.out.2]; rfl, HB.out⟩
end Go.Proofs.YtcajknjhkabhjaaGreatDoor
namespace Go.Proofs.YtcajknjhkabhjaaGreatDoor
open Go.RowKit
def rightV (V : List (Int × Int × List Iv)) : Bool := (chkVec V).isNone
theorem badV_small {V : List (Int × Int × List Iv)} {x : Int × Nat} (h : chkVec V = some x) : x.1 ≠ 0 := by
 unfold chkVec at h
 obtain ⟨i, _, hi⟩ := List.exists_of_findSome?_eq_some h
 split at hi
 ·cases hi
 ·rename_i hn
  obtain rfl := Option.some.inj hi
  exact hn
def hasV (V : List (Int × Int × List Iv)) (r c : Int) : Bool := match V.findIdx? (fun x => decide (x.1 = r)) with
 | none => false
 | some k => match V[k]? with
   | none => false
   | some x => hasE x.2.1 x.2.2 c
set_option maxRecDepth 100000 in
theorem refHas9_any (V : List (Int × Int × List Iv)) (v : Value) (r c : Int) (w : World) (hv : VecM w v V) : Calls Tryz.prog 71 #[v, .int .u64 r, .int .u64 c] w (IsEnd (hasV V r c) w) := by
 obtain ⟨p, cap, rfl⟩ := hv.shape
 have hlen := hv.len
 have K := Lib.hid (refFind9_any V _ r w hv.i)
 have HV := Lib.hid hv; clear hv
 have KH := Lib.hid refHasE_any
 cases hf : V.findIdx? (fun x => decide (x.1 = r)) with
 | none =>
   have HZ : Hid (hasV V r c = false) := Lib.hid (by unfold hasV; rw [hf])
   rw [show findV V r = -1 from by unfold findV; rw [hf]] at K
   clear hf
   go_enter Tryz.func71, Tryz.ntmps71
   go_wp2_with fail
   refine K.out.mono ?_
   rintro e w1 ⟨rfl, h⟩
   have H1 := Lib.hid h; clear h
   go_wp2_with fail
   go_ret
   exact ⟨by rw [HZ.out]; rfl, H1.out⟩
 | some k =>
   have hk : k < V.length := (List.findIdx?_eq_some_iff_getElem.1 hf).1
   obtain ⟨⟨x, m, H⟩, hx⟩ : ∃ x, V[k]? = some x := ⟨V[k], by simp [hk]⟩
   have HZ : Hid (hasV V r c = hasE m H c) := Lib.hid (by unfold hasV; rw [hf]; simp only; rw [hx])
   rw [show findV V r = (k : Int) from by unfold findV; rw [hf]] at K
   clear hf
   have i0 : (0 : Int) ≤ (k : Int) := by omega
   have i2 : (k : Int) < (V.length : Int) := by omega
   obtain ⟨bb, hbb⟩ : ∃ bb, hasE m H c = bb := ⟨_, rfl⟩
   have HBB := Lib.hid hbb
   obtain ⟨b, o, cap', q, n, cc, e, _⟩ := HV.out.elem hx
   cases e
   have HX := Lib.hid hx; clear hx
   clear hbb
   go_enter Tryz.func71, Tryz.ntmps71
   go_wp2_with fail
   refine K.out.mono ?_
   rintro e w1 ⟨rfl, h⟩
   obtain ⟨b', o', cap2, q', n', c', e', c0, c1, c2, ha⟩ := (HV.out.call h).elem HX.out
   cases e'
   have HK := Lib.hid (HBB.out ▸ KH.out x m H (.slice q' n' c') c w1 ha.at')
   have H1 := Lib.hid h; clear h ha
   go_wp2_with fail
   refine HK.out.mono ?_
   rintro e w2 ⟨rfl, h⟩
   have H2 := Lib.hid (below_call H1.out h); clear h
   go_wp2_with fail
   go_ret
   exact ⟨by rw [HZ.out, HBB.out]; rfl, H2.out⟩
set_option maxRecDepth 100000 in
set_option maxHeartbeats 4000000 in
theorem refSame9_any (V V' : List (Int × Int × List Iv)) (v v' : Value) (w : World) (hv : VecI w v V) (hv' : VecI w v' V') : Calls Tryz.prog 68 #[v, v'] w (IsEnd (decide (V = V')) w) := by
 obtain ⟨p, cap, rfl⟩ := hv.shape
 obtain ⟨p', cap', rfl⟩ := hv'.shape
 have hlen := hv.len
 have hlen' := hv'.len
 by_cases hl : V.length = V'.length
 ·have HV := Lib.hid hv; clear hv
  have HV' := Lib.hid hv'; clear hv'
  have KS := Lib.hid refSameE_any
  obtain ⟨n9, hn9⟩ : ∃ n9, V.length = n9 := ⟨_, rfl⟩
  rw [← hl, hn9]
  have HL := Lib.hid hl; have HN := Lib.hid hn9
  rw [hn9] at hlen
  clear hl hn9 hlen'
  go_enter Tryz.func68, Tryz.ntmps68
  go_wp2_with fail
  go_loopw [5] (fun i wr => ∃ k : Nat, i = .int .i64 k ∧ k ≤ n9 ∧ (∀ j, j < k → V[j]? = V'[j]?) ∧ Below w.heap.size w wr) (fun i _ => n9 - (intOf i).toNat)
  case atStart => exact ⟨0, rfl, Nat.zero_le _, fun j hj => absurd hj (Nat.not_lt_zero j), Below.refl _ _⟩
  case round =>
   obtain ⟨k, rfl, hk, hbef, hb⟩ := hrel
   have HBF := Lib.hid hbef; clear hbef
   have HB := Lib.hid hb; clear hb
   by_cases hlt : k < n9
   ·obtain ⟨⟨x, m, H⟩, hx⟩ : ∃ x, V[k]? = some x := ⟨V[k]'(by rw [HN.out]; exact hlt), by simp⟩
    obtain ⟨⟨x', m', H'⟩, hx'⟩ : ∃ x, V'[k]? = some x := ⟨V'[k]'(by rw [← HL.out, HN.out]; exact hlt), by simp⟩
    obtain ⟨b, o, cp, q, n, c, e, c0, c1, c2, ha⟩ := (HV.out.call HB.out).elem hx
    obtain ⟨b', o', cp', q', n', c', e', d0, d1, d2, ha'⟩ := (HV'.out.call HB.out).elem hx'
    rw [HN.out] at e
    rw [← HL.out, HN.out] at e'
    cases e; cases e'
    have HX := Lib.hid (And.intro hx hx'); clear hx hx'
    have HA := Lib.hid (And.intro ha ha'); clear ha ha'
    have K := Lib.hid (fun W h h' => KS.out x m x' m' H H' (.slice q n c) (.slice q' n' c') W h h')
    have i1 : (0 : Int) ≤ (k : Int) := by omega
    have i2 : (k : Int) < (n9 : Int) := by omega
    obtain ⟨bb, hbb⟩ : ∃ bb, decide (x = x' ∧ m = m' ∧ H = H') = bb := ⟨_, rfl⟩
    rw [hbb] at K
    have HBB := Lib.hid hbb; clear hbb
    have HS := Lib.hid (r6_drew ⟨Below.refl wr.heap.size wr, c0, c1, c2, d0, d1, d2⟩)
    go_wp2_with fail
    clear c0 c1 c2 d0 d1 d2
    go_region_held3 (fun w' => Below wr.heap.size wr w' ∧ w'.cell? ⟨b, o + k * 3, none⟩ = some (.int .u64 x) ∧ w'.cell? ⟨b, o + k * 3 + 1, none⟩ = some (.int .u64 m) ∧ w'.cell? ⟨b, o + k * 3 + 2, none⟩ = some (.slice q n c) ∧ w'.cell? ⟨b', o' + k * 3, none⟩ = some (.int .u64 x') ∧ w'.cell? ⟨b', o' + k * 3 + 1, none⟩ = some (.int .u64 m') ∧ w'.cell? ⟨b', o' + k * 3 + 2, none⟩ = some (.slice q' n' c'))
     (first
       | exact r6_call (by assumption) (by assumption)
       | exact HS.out
       | exact r6_drew (by assumption)
       | assumption)
     (first
       | (go_at_call 112; refine (K.out _ (HA.out.1.call (r6_below (by assumption))) (HA.out.2.call (r6_below (by assumption)))).mono ?_; rintro en w' ⟨rfl, h'⟩; have h' := Lib.hid h'))
    all_goals
     rename_i hE
     have HE := Lib.hid (below_call HB.out hE.1)
     clear hE
     cases bb with
     | false =>
       have HZ : Hid (decide (V = V') = false) := Lib.hid (by
        rw [decide_eq_false_iff_not]
        intro e
        have h1 := HX.out.1
        rw [e, HX.out.2] at h1
        have h2 := HBB.out
        cases h1
        simp at h2)
       go_wp2_with fail
       go_ret
       exact ⟨by rw [HZ.out]; rfl, HE.out⟩
     | true =>
       go_wp2_with fail
       go_roundw
       case rel => exact ⟨k + 1, by go_num, by omega, fun j hj => by
        rcases Nat.lt_or_eq_of_le (Nat.le_of_lt_succ hj) with h | h
        ·exact HBF.out j h
        ·subst h
         have h2 := HBB.out
         simp at h2
         rw [HX.out.1, HX.out.2, h2.1, h2.2.1, h2.2.2], HE.out⟩
       case measure => simp [intOf]; omega
   ·obtain rfl : k = n9 := by omega
    have HZ : Hid (decide (V = V') = true) := Lib.hid (by
     rw [decide_eq_true_eq]
     refine List.ext_getElem? fun i => ?_
     by_cases hi : i < k
     ·exact HBF.out i hi
     ·rw [List.getElem?_eq_none_iff.2 (by rw [HN.out]; omega), List.getElem?_eq_none_iff.2 (by rw [← HL.out, HN.out]; omega)])
    go_wp2_with fail
    go_ret
    exact ⟨by rw [HZ.out]; rfl, HB.out⟩
 ·have HZ : Hid (decide (V = V') = false) := Lib.hid (by rw [decide_eq_false_iff_not]; intro e; exact hl (by rw [e]))
  have e1 : ((V.length : Int) != (V'.length : Int)) = true := by simp; omega
  clear hv hv' hl
  go_enter Tryz.func68, Tryz.ntmps68
  go_wp2_with fail
  go_ret
  exact ⟨by rw [HZ.out]; rfl, Below.refl _ _⟩
end Go.Proofs.YtcajknjhkabhjaaGreatDoor
namespace Go.Proofs.YtcajknjhkabhjaaGreatDoor
open Go.RowKit
def ivN (H : List Iv) : List Int := H.flatMap fun y => [y.1, y.2]
def entN (x : Int × Int × List Iv) : List Int := [x.1, x.2.1, (x.2.2.length : Int)] ++ ivN x.2.2
def numsV (V : List (Int × Int × List Iv)) : List Int := (V.length : Int) :: V.flatMap entN
theorem take_snoc9 {α : Type} {l : List α} {k : Nat} {x : α} (h : l[k]? = some x) : l.take (k + 1) = l.take k ++ [x] := by rw [List.take_add_one, h]; rfl
theorem ivN_len (H : List Iv) : (ivN H).length = 2 * H.length := by
 unfold ivN
 induction H with
 | nil => rfl
 | cons y H ih => rw [List.flatMap_cons, List.length_append, ih]; simp; omega
theorem entN_len (x : Int × Int × List Iv) : (entN x).length = 3 + 2 * x.2.2.length := by unfold entN; rw [List.length_append, ivN_len]; rfl
theorem flat_len : ∀ (l : List (Int × Int × List Iv)), (∀ x ∈ l, x.2.2.length ≤ 5000) → (l.flatMap entN).length ≤ l.length * 10003
 | [], _ => by simp
 | x :: l, h => by
   have h1 := flat_len l fun y hy => h y (by simp [hy])
   have h2 := h x (by simp)
   rw [List.flatMap_cons, List.length_append, entN_len, List.length_cons]
   omega
theorem nmC_app (a b : List Int) : nmC (a ++ b) = nmC a ++ nmC b := by simp [nmC]
theorem cell_three_new (w : World) (x y z : Value) (t : TypeId) : ∀ j u, [x, y, z][j]? = some u → (w.alloc (.cells #[x, y, z] t)).drew.cell? ((⟨w.heap.size, 0, none⟩ : Addr).add j) = some u := by
 intro j u h
 refine keep_cell (w := w.alloc (.cells #[x, y, z] t)) ?_ (Below.refl _ _).drew
 match j, h with
 | 0, h => simp at h; subst h; simp [Addr.add]
 | 1, h => simp at h; subst h; simp [Addr.add]
 | 2, h => simp at h; subst h; simp [Addr.add]
 | j + 3, h => simp at h
theorem cell_two_new9 (w : World) (x y : Value) (t : TypeId) : ∀ j u, [x, y][j]? = some u → (w.alloc (.cells #[x, y] t)).drew.cell? ((⟨w.heap.size, 0, none⟩ : Addr).add j) = some u := by
 intro j u h
 refine keep_cell (w := w.alloc (.cells #[x, y] t)) ?_ (Below.refl _ _).drew
 match j, h with
 | 0, h => simp at h; subst h; simp [Addr.add]
 | 1, h => simp at h; subst h; simp [Addr.add]
 | j + 2, h => simp at h
theorem keepA3 {W w1 : World} {p q t : Addr} {a b c : Value} (h : ∀ w', Below W.heap.size W w' → w'.cell? p = some a ∧ w'.cell? q = some b ∧ w'.cell? t = some c) (hb : Below W.heap.size W w1) :
 Below W.heap.size W w1 ∧ w1.cell? p = some a ∧ w1.cell? q = some b ∧ w1.cell? t = some c := ⟨hb, h _ hb⟩
set_option maxRecDepth 100000 in
set_option maxHeartbeats 4000000 in
theorem refNumbers9_i (V : List (Int × Int × List Iv)) (v : Value) (w : World) (hv : VecI w v V) (h5 : ∀ x ∈ V, x.2.2.length ≤ 5000) : Calls Tryz.prog 127 #[v] w (IsNums (numsV V) w) := by
 obtain ⟨i0, hi', hz0, hz1, hz2⟩ := info_parts infoU
 obtain ⟨p, cap, rfl⟩ := hv.shape
 have hlen := hv.len
 have HV := Lib.hid hv; clear hv
 have HL5 := Lib.hid h5; clear h5
 have hwl : IntKind.u64.wrap (V.length : Int) = (V.length : Int) := IntWalk.u64_in _ (by omega)
 go_enter Tryz.func127, Tryz.ntmps127
 go_wp2_with fail
 obtain ⟨W0, hW0⟩ : ∃ W0, w.alloc (.cells #[.int .u64 (V.length : Int)] 28) = W0 := ⟨_, rfl⟩
 have ho0 : OwnN W0 w.heap.size (.slice (some ⟨w.heap.size, 0, none⟩) 1 1) [(V.length : Int)] := by
  rw [← hW0]
  exact World.ownsRow_lit w #[.int .u64 (V.length : Int)] 1 (Nat.le_refl _) (by decide) rfl
 have HO0 := Lib.hid ho0; clear ho0
 have HB0 : Hid (Below w.heap.size w W0) := Lib.hid (by rw [← hW0]; exact below_new _ _)
 rw [hW0]
 clear hW0
 go_loopw [3, 4] (fun vo i wr => ∃ k : Nat, i = .int .i64 k ∧ k ≤ V.length ∧ OwnN wr w.heap.size vo ((V.length : Int) :: (V.take k).flatMap entN) ∧ Below w.heap.size w wr) (fun _ i _ => V.length - (intOf i).toNat)
 case atStart => exact ⟨0, rfl, Nat.zero_le _, HO0.out, HB0.out⟩
 case round =>
  obtain ⟨k, rfl, hk, hown, hb⟩ := hrel
  have HB := Lib.hid hb; clear hb
  have hszw := HB.out.size
  have hfl := flat_len (V.take k) fun x hx => HL5.out x (List.mem_of_mem_take hx)
  rw [List.length_take] at hfl
  obtain ⟨L, hL⟩ : ∃ L, (V.length : Int) :: (V.take k).flatMap entN = L := ⟨_, rfl⟩
  have hLn : L.length ≤ 1 + 100000 * 10003 := by rw [← hL, List.length_cons]; have : min k V.length ≤ 100000 := by omega
                                                 omega
  have hLp : 0 < L.length := by rw [← hL]; simp
  rw [hL] at hown
  have HLE := Lib.hid hL; clear hL hfl
  obtain ⟨q9, hq9⟩ : ∃ q9, L.length = q9 + 1 := ⟨L.length - 1, by omega⟩
  have hrow : wr.ownsRow w.heap.size 28 1 _ L.length (nmC L) := hown
  rw [hq9] at hrow
  obtain ⟨g, cpo, rfl⟩ := ownsRow_succ hrow
  have HO := Lib.hid hrow; clear hrow hown
  have HQ := Lib.hid hq9
  rw [hq9] at hLn
  clear hq9 hLp
  by_cases hlt : k < V.length
  ·obtain ⟨⟨x, m, H⟩, hx⟩ : ∃ x, V[k]? = some x := ⟨V[k], by simp [hlt]⟩
   obtain ⟨b, o, cp, q, n, c, e, c0, c1, c2, ha⟩ := HV.out.elem hx
   cases e
   obtain ⟨_, _, es, _⟩ := ha.shape
   cases es
   have hHl := HL5.out _ (List.mem_of_getElem? hx)
   dsimp only at hHl
   have KA := Lib.hid (fun w' (h : Below w.heap.size w w') => (⟨keep_cell c0 h, keep_cell c1 h, keep_cell c2 h⟩ : w'.cell? ⟨b, o + k * 3, none⟩ = some (.int .u64 x) ∧ w'.cell? ⟨b, o + k * 3 + 1, none⟩ = some (.int .u64 m) ∧ w'.cell? ⟨b, o + k * 3 + 2, none⟩ = some (.slice q H.length c)))
   have HH := Lib.hid ha
   have HX := Lib.hid hx
   clear c0 c1 c2 ha hx
   have i1 : (0 : Int) ≤ (k : Int) := by omega
   have i2 : (k : Int) < (V.length : Int) := by omega
   have hwn : IntKind.u64.wrap (H.length : Int) = (H.length : Int) := IntWalk.u64_in _ (by omega)
   obtain ⟨nh, hnh⟩ : ∃ nh, H.length = nh := ⟨_, rfl⟩
   rw [hnh] at KA HH hwn hHl
   have HNH := Lib.hid hnh; clear hnh
   go_wp2_with fail
   go_region_held3 (fun w' => Below w.heap.size w w' ∧ w'.cell? ⟨b, o + k * 3, none⟩ = some (.int .u64 x) ∧ w'.cell? ⟨b, o + k * 3 + 1, none⟩ = some (.int .u64 m) ∧ w'.cell? ⟨b, o + k * 3 + 2, none⟩ = some (.slice q nh c))
    (first
      | exact keepA3 KA.out HB.out.drew
      | exact keepA3 KA.out (HB.out.trans ((below_new _ _).drew.mono hszw))
      | exact keepA3 KA.out HG2.out
      | assumption)
    (first
      | ((refine step_own (by rfl) (.tmp 16) (.tmp 34) _ (by rfl) w.heap.size 28 i0 (.int .u64 0) 1 8 Tryz.underlying27 hi' hz0 hz1 hz2 rfl (by decide) (.slice (some ⟨g, 0, none⟩) (q9 + 1) cpo) (q9 + 1) (nmC L) (by rfl) (own_below HO.out ((below_new _ _).drew)) ⟨wr.heap.size, 0, none⟩ 3 3 [.int .u64 x, .int .u64 m, .int .u64 (nh : Int)] (by rfl) rfl (cell_three_new _ _ _ _ _) (by simp [Value.oneCell']) (by unfold maxLen; omega) (by omega) (Nat.le_trans hszw (below_new _ _).drew.size) ?_; intro v2 w2 hown2 hgrow2; have HG2 := Lib.hid (own_grown (HB.out.trans ((below_new _ _).drew.mono hszw)) (own_below HO.out ((below_new _ _).drew)) hgrow2 (Nat.le_trans hszw (below_new _ _).drew.size)); obtain ⟨g2, cp2, rfl⟩ := ownsRow_succ hown2; have HO2 := Lib.hid hown2; clear hown2 hgrow2)))
   rename_i hE
   clear hE
   have hst : OwnN w2 w.heap.size (.slice (some ⟨g2, 0, none⟩) (q9 + 3 + 1) cp2) (L ++ [x, m, (nh : Int)] ++ ivN (H.take 0)) := by
    have e1 : (L ++ [x, m, (nh : Int)] ++ ivN (H.take 0)).length = q9 + 1 + 3 := by
     rw [List.take_zero, show ivN [] = [] from rfl, List.append_nil, List.length_append, HQ.out]; rfl
    have e2 : nmC (L ++ [x, m, (nh : Int)] ++ ivN (H.take 0)) = nmC L ++ [.int .u64 x, .int .u64 m, .int .u64 (nh : Int)] := by
     rw [List.take_zero, show ivN [] = [] from rfl, List.append_nil, nmC_app]; rfl
    unfold OwnN
    rw [e1, e2]
    exact HO2.out
   have HST := Lib.hid hst; clear hst HO HB hszw
   go_wp2_with fail
   go_loopw [3, 5] (fun vi j wz => ∃ jn : Nat, j = .int .i64 jn ∧ jn ≤ nh ∧ OwnN wz w.heap.size vi (L ++ [x, m, (nh : Int)] ++ ivN (H.take jn)) ∧ Below w.heap.size w wz) (fun _ j _ => nh - (intOf j).toNat)
   case atStart => exact ⟨0, rfl, Nat.zero_le _, HST.out, HG2.out⟩
   case round =>
    obtain ⟨jn, rfl, hjn, hownz, hbz⟩ := hrel
    have HBZ := Lib.hid hbz; clear hbz
    have hszz := HBZ.out.size
    obtain ⟨M, hM⟩ : ∃ M, L ++ [x, m, (nh : Int)] ++ ivN (H.take jn) = M := ⟨_, rfl⟩
    have hMl : M.length = (q9 + 3 + 2 * jn) + 1 := by
     rw [← hM, List.length_append, List.length_append, HQ.out, ivN_len, List.length_take, HNH.out, Nat.min_eq_left hjn]
     simp; omega
    rw [hM] at hownz
    have hrow : World.ownsRow _ w.heap.size 28 1 _ M.length (nmC M) := hownz
    rw [hMl] at hrow
    obtain ⟨p9, hp9⟩ : ∃ p9, q9 + 3 + 2 * jn = p9 := ⟨_, rfl⟩
    rw [hp9] at hrow
    obtain ⟨g3, cp3, rfl⟩ := ownsRow_succ hrow
    have HO3 := Lib.hid hrow
    have HM := Lib.hid (And.intro hM (hMl.trans (by rw [hp9])))
    have hp9b : p9 ≤ 1000400000 := by omega
    clear hrow hownz hM hMl hp9
    have c2z := (KA.out _ HBZ.out).2.2
    by_cases hjlt : jn < nh
    ·obtain ⟨⟨y1, y2⟩, hy⟩ : ∃ y, H[jn]? = some y := ⟨H[jn]'(by rw [HNH.out]; exact hjlt), by simp⟩
     obtain ⟨bh, oh, ch, e, z0, z1⟩ := HH.out.elem hy
     rw [HNH.out] at e
     cases e
     dsimp only at z0 z1
     have KB := Lib.hid (fun w' (h : Below w.heap.size w w') => (⟨(KA.out w' h).2.2, keep_cell z0 h, keep_cell z1 h⟩ : w'.cell? ⟨b, o + k * 3 + 2, none⟩ = some (.slice (some ⟨bh, oh, none⟩) nh c) ∧ w'.cell? ⟨bh, oh + jn * 2, none⟩ = some (.int .u64 y1) ∧ w'.cell? ⟨bh, oh + jn * 2 + 1, none⟩ = some (.int .u64 y2)))
     have HY := Lib.hid hy
     clear z0 z1 hy
     have j1 : (0 : Int) ≤ (jn : Int) := by omega
     have j2 : (jn : Int) < (nh : Int) := by omega
     obtain ⟨wz, hwz⟩ : ∃ wz : World, wz = wr := ⟨_, rfl⟩
     go_wp2_with fail
     clear c2z
     go_region_held3 (fun w' => Below w.heap.size w w' ∧ w'.cell? ⟨b, o + k * 3 + 2, none⟩ = some (.slice (some ⟨bh, oh, none⟩) nh c) ∧ w'.cell? ⟨bh, oh + jn * 2, none⟩ = some (.int .u64 y1) ∧ w'.cell? ⟨bh, oh + jn * 2 + 1, none⟩ = some (.int .u64 y2))
      (first
        | exact keepA3 KB.out HBZ.out.drew
        | exact keepA3 KB.out (HBZ.out.trans ((below_new _ _).drew.mono hszz))
        | exact keepA3 KB.out HG4.out
        | assumption)
      (first
        | ((refine step_own (by rfl) (.tmp 46) (.tmp 65) _ (by rfl) w.heap.size 28 i0 (.int .u64 0) 1 8 Tryz.underlying27 hi' hz0 hz1 hz2 rfl (by decide) (.slice (some ⟨g3, 0, none⟩) (p9 + 1) cp3) (p9 + 1) (nmC M) (by rfl) (own_below HO3.out ((below_new _ _).drew)) ⟨wr.heap.size, 0, none⟩ 2 2 [.int .u64 y1, .int .u64 y2] (by rfl) rfl (cell_two_new9 _ _ _ _) (by simp [Value.oneCell']) (by unfold maxLen; omega) (by omega) (Nat.le_trans hszz (below_new _ _).drew.size) ?_; intro v4 w4 hown4 hgrow4; have HG4 := Lib.hid (own_grown (HBZ.out.trans ((below_new _ _).drew.mono hszz)) (own_below HO3.out ((below_new _ _).drew)) hgrow4 (Nat.le_trans hszz (below_new _ _).drew.size)); obtain ⟨g4, cp4, rfl⟩ := ownsRow_succ hown4; have HO4 := Lib.hid hown4; clear hown4 hgrow4)))
     rename_i hE
     clear hE hwz wz
     have hst4 : OwnN w4 w.heap.size (.slice (some ⟨g4, 0, none⟩) (p9 + 2 + 1) cp4) (L ++ [x, m, (nh : Int)] ++ ivN (H.take (jn + 1))) := by
      have e0 : L ++ [x, m, (nh : Int)] ++ ivN (H.take (jn + 1)) = M ++ [y1, y2] := by
       rw [take_snoc9 HY.out, ← HM.out.1]
       unfold ivN
       rw [List.flatMap_append, ← List.append_assoc]
       rfl
      unfold OwnN
      rw [e0, List.length_append, HM.out.2, nmC_app]
      exact HO4.out
     have HST4 := Lib.hid hst4; clear hst4
     go_wp2_with fail
     go_roundw
     case rel => exact ⟨jn + 1, by go_num, by omega, HST4.out, HG4.out⟩
     case measure => simp [intOf]; omega
    ·obtain rfl : jn = nh := by omega
     have hfin : L ++ entN (x, m, H) = M := by
      rw [← HM.out.1, List.take_of_length_le (by rw [HNH.out]; exact Nat.le_refl _), List.append_assoc]
      unfold entN
      rw [HNH.out]
     have HFIN := Lib.hid hfin; clear hfin
     go_wp2_with fail
     go_roundw
     case rel =>
      refine ⟨k + 1, by go_num, by omega, ?_, HBZ.out⟩
      have e0 : (V.length : Int) :: (V.take (k + 1)).flatMap entN = M := by
       rw [take_snoc9 HX.out, List.flatMap_append, ← List.cons_append, HLE.out, ← HFIN.out]
       simp
      unfold OwnN
      rw [e0, HM.out.2]
      exact HO3.out
     case measure => simp [intOf]; omega
  ·obtain rfl : k = V.length := by omega
   go_wp2_with fail
   go_ret
   refine ⟨_, rfl, ?_, HB.out⟩
   have h1 := HLE.out
   rw [List.take_of_length_le (Nat.le_refl _)] at h1
   show wr.ownsRow w.heap.size 28 1 _ (numsV V).length (nmC (numsV V))
   unfold numsV
   rw [h1, HQ.out]
   exact HO.out
end Go.Proofs.YtcajknjhkabhjaaGreatDoor
namespace Go.Proofs.YtcajknjhkabhjaaGreatDoor
open Go.RowKit
def cmpL : List Int → List Int → Int
 | [], [] => 0
 | [], _ :: _ => -1
 | _ :: _, [] => 1
 | x :: a, y :: b => if x < y then -1 else if y < x then 1 else cmpL a b
theorem cmpL_drop : ∀ (k : Nat) (A B : List Int), k ≤ A.length → k ≤ B.length → (∀ j, j < k → A[j]? = B[j]?) → cmpL A B = cmpL (A.drop k) (B.drop k)
 | 0, _, _, _, _, _ => rfl
 | k + 1, x :: a, y :: b, ha, hb, h => by
   have h0 : x = y := by simpa using h 0 (by omega)
   subst h0
   rw [List.drop_succ_cons, List.drop_succ_cons, ← cmpL_drop k a b (by simpa using ha) (by simpa using hb) fun j hj => by simpa using h (j + 1) (by omega)]
   show (if x < x then -1 else if x < x then 1 else cmpL a b) = _
   rw [if_neg (by omega), if_neg (by omega)]
 | k + 1, [], _, ha, _, _ => by simp at ha
 | k + 1, _ :: _, [], _, hb, _ => by simp at hb
theorem cmpL_at {A B : List Int} {k : Nat} {x y : Int} (hx : A[k]? = some x) (hy : B[k]? = some y) (h : ∀ j, j < k → A[j]? = B[j]?) : cmpL A B = if x < y then -1 else if y < x then 1 else cmpL (A.drop (k + 1)) (B.drop (k + 1)) := by
 obtain ⟨hka, ea⟩ := List.getElem?_eq_some_iff.1 hx
 obtain ⟨hkb, eb⟩ := List.getElem?_eq_some_iff.1 hy
 rw [cmpL_drop k A B (by omega) (by omega) h, List.drop_eq_getElem_cons hka, List.drop_eq_getElem_cons hkb, ea, eb]
 rfl
theorem cmpL_end {A B : List Int} {k : Nat} (hk : k = A.length ∨ k = B.length) (ha : k ≤ A.length) (hb : k ≤ B.length) (h : ∀ j, j < k → A[j]? = B[j]?) : cmpL A B = if A.length < B.length then -1 else if B.length < A.length then 1 else 0 := by
 rw [cmpL_drop k A B ha hb h]
 have la : (A.drop k).length = A.length - k := List.length_drop
 have lb : (B.drop k).length = B.length - k := List.length_drop
 match hA : A.drop k, hB : B.drop k with
 | [], [] =>
   rw [hA] at la; rw [hB] at lb
   simp at la lb
   rw [if_neg (by omega), if_neg (by omega)]; rfl
 | [], y :: b =>
   rw [hA] at la; rw [hB] at lb
   simp at la lb
   rw [if_pos (by omega)]; rfl
 | x :: a, [] =>
   rw [hA] at la; rw [hB] at lb
   simp at la lb
   rw [if_neg (by omega), if_pos (by omega)]; rfl
 | x :: a, y :: b =>
   rw [hA] at la; rw [hB] at lb
   simp at la lb
   omega
theorem nums_len {V : List (Int × Int × List Iv)} {w : World} {v : Value} (hv : VecI w v V) (h5 : ∀ x ∈ V, x.2.2.length ≤ 5000) : 0 < (numsV V).length ∧ (numsV V).length ≤ 1000300001 := by
 have h := flat_len V h5
 have := hv.len
 unfold numsV
 rw [List.length_cons]
 omega
theorem nm_at {L : List Int} {i : Nat} {x : Int} (h : L[i]? = some x) : (nmC L)[i]? = some (.int .u64 x) := by unfold nmC; rw [List.getElem?_map, h]; rfl
set_option maxRecDepth 100000 in
set_option maxHeartbeats 4000000 in
theorem refCompare9_i (V V' : List (Int × Int × List Iv)) (v v' : Value) (w : World) (hv : VecI w v V) (hv' : VecI w v' V') (h5 : ∀ x ∈ V, x.2.2.length ≤ 5000) (h5' : ∀ x ∈ V', x.2.2.length ≤ 5000) : Calls Tryz.prog 79 #[v, v'] w (IsInt (cmpL (numsV V) (numsV V')) w) := by
 obtain ⟨p, cap, rfl⟩ := hv.shape
 obtain ⟨p', cap', rfl⟩ := hv'.shape
 have hl := nums_len hv h5
 have hl' := nums_len hv' h5'
 have K := Lib.hid (refNumbers9_i V _ w hv h5)
 have K' := Lib.hid (fun W hb => refNumbers9_i V' _ W (hv'.call (w' := W) hb) h5')
 clear hv hv' h5 h5'
 obtain ⟨A, hA⟩ : ∃ A, numsV V = A := ⟨_, rfl⟩
 obtain ⟨B, hB⟩ : ∃ B, numsV V' = B := ⟨_, rfl⟩
 rw [hA] at hl K ⊢
 rw [hB] at hl' K' ⊢
 clear hA hB
 obtain ⟨na, hna⟩ : ∃ na, A.length = na + 1 := ⟨A.length - 1, by omega⟩
 obtain ⟨nb, hnb⟩ : ∃ nb, B.length = nb + 1 := ⟨B.length - 1, by omega⟩
 have ha9 : na ≤ 1000300001 := by omega
 have hb9 : nb ≤ 1000300001 := by omega
 have HNA := Lib.hid hna; have HNB := Lib.hid hnb
 clear hl hl' hna hnb
 go_enter Tryz.func79, Tryz.ntmps79
 go_wp2_with fail
 refine K.out.mono ?_
 rintro e w1 ⟨va, rfl, hoa, h⟩
 have hra : w1.ownsRow w.heap.size 28 1 va A.length (nmC A) := hoa
 rw [HNA.out] at hra
 obtain ⟨ga, ca, rfl⟩ := ownsRow_succ hra
 have HK' := Lib.hid (K'.out w1 h)
 have HRA := Lib.hid hra
 have H1 := Lib.hid h; clear h hoa hra K'
 go_wp2_with fail
 refine HK'.out.mono ?_
 rintro e w2 ⟨vb, rfl, hob, h⟩
 have hrb : w2.ownsRow w1.heap.size 28 1 vb B.length (nmC B) := hob
 rw [HNB.out] at hrb
 obtain ⟨gb, cb, rfl⟩ := ownsRow_succ hrb
 have HRB := Lib.hid hrb
 have HRA2 := Lib.hid (own_below HRA.out h)
 have H2 := Lib.hid (below_call H1.out h); clear h hob hrb HRA H1
 go_wp2_with fail
 go_loopw [7] (fun i wr => ∃ k : Nat, i = .int .i64 k ∧ k ≤ na + 1 ∧ k ≤ nb + 1 ∧ (∀ j, j < k → A[j]? = B[j]?) ∧ Below w2.heap.size w2 wr) (fun i _ => na + 1 - (intOf i).toNat)
 case atStart => exact ⟨0, rfl, Nat.zero_le _, Nat.zero_le _, fun j hj => absurd hj (Nat.not_lt_zero j), Below.refl _ _⟩
 case round =>
  obtain ⟨k, rfl, hka, hkb, hbef, hb⟩ := hrel
  have HBF := Lib.hid hbef; clear hbef
  have HB := Lib.hid (below_call H2.out hb)
  have hRA := own_below HRA2.out hb
  have hRB := own_below HRB.out hb
  have HBW := Lib.hid hb; clear hb
  have i1 : (0 : Int) ≤ (k : Int) := by omega
  by_cases hlt : k < na + 1 ∧ k < nb + 1
  ·have i2 : (k : Int) < (na : Int) + 1 := by omega
   have i3 : (k : Int) < (nb : Int) + 1 := by omega
   have i4 : k < na + 1 := hlt.1
   have i5 : k < nb + 1 := hlt.2
   obtain ⟨x, hx⟩ : ∃ x, A[k]? = some x := ⟨A[k]'(by rw [HNA.out]; exact hlt.1), by simp⟩
   obtain ⟨y, hy⟩ : ∃ y, B[k]? = some y := ⟨B[k]'(by rw [HNB.out]; exact hlt.2), by simp⟩
   have cx : World.cell? wr ⟨ga, k, none⟩ = some (.int .u64 x) := by rw [hRA.cellAt k (by omega)]; exact nm_at hx
   have cy : World.cell? wr ⟨gb, k, none⟩ = some (.int .u64 y) := by rw [hRB.cellAt k (by omega)]; exact nm_at hy
   have HC := Lib.hid (cmpL_at hx hy HBF.out)
   have HXY := Lib.hid (And.intro hx hy)
   clear hx hy hRA hRB hlt
   by_cases h1 : x < y
   ·have e1 : decide (x < y) = true := by simpa using h1
    rw [if_pos h1] at HC
    clear h1
    go_wp2_with fail
    go_quiet (fail)
    go_wp2_with fail
    go_ret
    exact ⟨by rw [HC.out]; rfl, below_drewN HB.out _⟩
   ·have e1 : decide (x < y) = false := by simpa using h1
    rw [if_neg h1] at HC
    by_cases h2 : y < x
    ·have e2 : decide (y < x) = true := by simpa using h2
     rw [if_pos h2] at HC
     clear h1 h2
     go_wp2_with fail
     go_quiet (fail)
     go_wp2_with fail
     go_quiet (fail)
     go_wp2_with fail
     go_ret
     exact ⟨by rw [HC.out]; rfl, by first | exact below_drewN HB.out _ | exact below_drewN (below_drewN HB.out _) _⟩
    ·have e2 : decide (y < x) = false := by simpa using h2
     have hxy : x = y := by omega
     have HE := Lib.hid hxy
     clear h1 h2 hxy HC
     go_wp2_with fail
     go_quiet (fail)
     go_wp2_with fail
     go_quiet (fail)
     go_wp2_with fail
     go_roundw
     case rel => exact ⟨k + 1, by go_num, by omega, by omega, fun j hj => by
      rcases Nat.lt_or_eq_of_le (Nat.le_of_lt_succ hj) with h | h
      ·exact HBF.out j h
      ·subst h
       rw [HXY.out.1, HXY.out.2, HE.out], below_drewN HBW.out _⟩
     case measure => simp [intOf]; omega
  ·have HC := Lib.hid (cmpL_end (A := A) (B := B) (k := k) (by rw [HNA.out, HNB.out]; omega) (by rw [HNA.out]; exact hka) (by rw [HNB.out]; exact hkb) HBF.out)
   rw [HNA.out, HNB.out] at HC
   clear hRA hRB
   have d1 : (k : Int) < (na : Int) + 1 ∨ ¬ (k : Int) < (na : Int) + 1 := by omega
   rcases d1 with d1 | d1
   ·have d2 : ¬ (k : Int) < (nb : Int) + 1 := by omega
    have f1 : ¬ (na : Int) + 1 < (nb : Int) + 1 := by omega
    have f2 : (nb : Int) + 1 < (na : Int) + 1 := by omega
    rw [if_neg (by omega), if_pos (by omega)] at HC
    go_wp2_with fail
    go_ret
    exact ⟨by rw [HC.out]; rfl, HB.out⟩
   ·by_cases f1 : (na : Int) + 1 < (nb : Int) + 1
    ·rw [if_pos (by omega)] at HC
     go_wp2_with fail
     go_ret
     exact ⟨by rw [HC.out]; rfl, HB.out⟩
    ·have f2 : ¬ (nb : Int) + 1 < (na : Int) + 1 := by omega
     rw [if_neg (by omega), if_neg (by omega)] at HC
     go_wp2_with fail
     go_ret
     exact ⟨by rw [HC.out]; rfl, HB.out⟩
end Go.Proofs.YtcajknjhkabhjaaGreatDoor
namespace Go.Proofs.YtcajknjhkabhjaaGreatDoor
open Go.RowKit Go.ChangeShapes Go.WideShapes Go.Deep
def KnoAt (W : World) (v : Value) (fs : List (Value × Value)) : Prop :=
 ∃ p cap, v = .slice p fs.length cap ∧ fs.length ≤ maxLen ∧ (fs ≠ [] → ∃ b o, p = some ⟨b, o, none⟩ ∧ ∀ i f, fs[i]? = some f →
  W.cell? ⟨b, o + i * 2, none⟩ = some f.1 ∧ W.cell? ⟨b, o + i * 2 + 1, none⟩ = some f.2)
theorem KnoAt.call {w w' : World} {v : Value} {fs : List (Value × Value)} (h : KnoAt w v fs) (hb : Below w.heap.size w w') : KnoAt w' v fs := by
 obtain ⟨p, cap, h1, h2, h3⟩ := h
 refine ⟨p, cap, h1, h2, fun hne => ?_⟩
 obtain ⟨b, o, h5, h6⟩ := h3 hne
 exact ⟨b, o, h5, fun i e hi => ⟨keep_cell (h6 i e hi).1 hb, keep_cell (h6 i e hi).2 hb⟩⟩
structure FragIn (lim : Nat) (W : World) (f : Value × Value) : Prop where
 sane1 : SaneE f.1
 items : HolesAt lim W f.1
 sane2 : SaneE f.2
 vec : ∃ es, VecAt W f.2 es ∧ ∀ e ∈ es, EntIn lim W e
section
variable {H : Type} {enc : TypeId × Value → H}
def knoArg (W : World) (v : Value) : Prop := SaneE v ∧ ∃ fs, KnoAt W v fs ∧ ∀ f ∈ fs, FragIn 30 W f
end
end Go.Proofs.YtcajknjhkabhjaaGreatDoor
