/- Vectors: correct ones, their canonical form, the order of lists of numbers. Plain mathematics; no conditions of its own. -/
import Derived.Test.YtgeggdaokjimjaaDoorPRef
import Derived.Test.YtgeggdaokjimjaaDoorPNums
import Derived.Test.YtgeggdaokjimjaaDoorJRef2
import Derived.Maps.AppendAt
namespace Go.Proofs.YtgeggdaokjimjaaDoor
open Go.RowKit
/-- A correct vector. -/
structure GoodV (V : List (Int × Int × List Iv)) : Prop where
  ent : ∀ x ∈ V, GoodE x.2.1 x.2.2
  asc : V.Pairwise fun x y => x.1 < y.1
theorem asc_of {V : List (Int × Int × List Iv)} (h : ∀ (j : Nat) x y, V[j]? = some x → V[j + 1]? = some y → x.1 < y.1) : V.Pairwise fun x y => x.1 < y.1 := by
  have key : ∀ (d i : Nat) x y, V[i]? = some x → V[i + (d + 1)]? = some y → x.1 < y.1 := by
    intro d
    induction d with
    | zero => intro i x y hx hy; exact h i x y hx hy
    | succ d ih =>
      intro i x y hx hy
      have hlt : i + (d + 1 + 1) < V.length := (List.getElem?_eq_some_iff.1 hy).1
      have hz : V[i + (d + 1)]? = some V[i + (d + 1)] := by simp [show i + (d + 1) < V.length by omega]
      have h1 := ih i x _ hx hz
      have h2 := h (i + (d + 1)) _ y hz (by rw [show i + (d + 1) + 1 = i + (d + 1 + 1) from by omega]; exact hy)
      omega
  rw [List.pairwise_iff_getElem]
  intro i j hi hj hij
  obtain ⟨d, rfl⟩ : ∃ d, j = i + (d + 1) := ⟨j - i - 1, by omega⟩
  exact key d i _ _ (by simp [hi]) (by simp [hj])
theorem badV_all {V : List (Int × Int × List Iv)} (h : rightV V = true) : ∀ j, j < V.length → badV V j = 0 := by
  unfold rightV chkVec at h
  rw [Option.isNone_iff_eq_none, List.findSome?_eq_none_iff] at h
  intro j hj
  have := h j (List.mem_range.2 hj)
  by_cases hb : badV V j = 0
  · exact hb
  · rw [if_neg hb] at this; cases this
theorem good_of_right {V : List (Int × Int × List Iv)} (h64 : ∀ x ∈ V, All64 x.2.2 ∧ 0 ≤ x.2.1 ∧ x.2.1 ≤ UM) (h : rightV V = true) : GoodV V := by
  have hb := badV_all h
  have hc : ∀ (j : Nat) x, V[j]? = some x → codeE (chkN x.2.1 x.2.2) = 0 := by
    intro j x hx
    have hj : j < V.length := (List.getElem?_eq_some_iff.1 hx).1
    by_cases h0 : codeE (chkN x.2.1 x.2.2) = 0
    · exact h0
    · have := hb j hj
      rw [badV_code (r := x.1) (m := x.2.1) (H := x.2.2) hx h0] at this
      exact absurd this h0
  refine ⟨fun x hx => ?_, asc_of fun j x y hx hy => ?_⟩
  · obtain ⟨j, hj⟩ := List.mem_iff_getElem?.1 hx
    have h0 := hc j x hj
    have ho : okN x.2.1 x.2.2 = true := by rw [← okN_code, h0]; rfl
    exact (okN_iff (h64 x hx).1 (h64 x hx).2).1 ho
  · have h0 := hb (j + 1) (List.getElem?_eq_some_iff.1 hy).1
    rw [badV_next (r := y.1) (m := y.2.1) (H := y.2.2) (r' := x.1) (m' := x.2.1) (H' := x.2.2) hy hx (hc (j + 1) y hy)] at h0
    by_cases hle : y.1 ≤ x.1
    · rw [if_pos hle] at h0; cases h0
    · omega
theorem code_good {m : Int} {H : List Iv} (h : GoodE m H) : codeE (chkN m H) = 0 := by
  have := okN_good h
  rw [← okN_code] at this
  simpa using this
theorem right_of_good {V : List (Int × Int × List Iv)} (h : GoodV V) : rightV V = true := by
  unfold rightV
  rw [chkVec_none]
  · rfl
  intro j hj
  have hx : V[j]? = some V[j] := by simp [hj]
  have hc := code_good (h.ent V[j] (List.getElem_mem hj))
  cases j with
  | zero => exact badV_first (r := (V[0]).1) (m := (V[0]).2.1) (H := (V[0]).2.2) hx hc
  | succ j =>
    have hy : V[j]? = some V[j] := by simp [show j < V.length by omega]
    rw [badV_next (r := (V[j + 1]).1) (m := (V[j + 1]).2.1) (H := (V[j + 1]).2.2) (r' := (V[j]).1) (m' := (V[j]).2.1) (H' := (V[j]).2.2) hx hy hc]
    have := List.pairwise_iff_getElem.1 h.asc j (j + 1) (by omega) hj (by omega)
    rw [if_neg (by omega)]
def canE (x : Int × Int × List Iv) : Option (Int × Int × List Iv) := if knownL x.2.1 x.2.2 = [] then none else some (x.1, topL (knownL x.2.1 x.2.2), holesL (knownL x.2.1 x.2.2))
def canonV (V : List (Int × Int × List Iv)) : List (Int × Int × List Iv) := V.filterMap canE
theorem canE_some {x y : Int × Int × List Iv} (h : GoodE x.2.1 x.2.2) (hy : canE x = some y) : y.1 = x.1 ∧ GoodE y.2.1 y.2.2 ∧ canonB y.2.1 y.2.2 = true ∧ knownL y.2.1 y.2.2 = knownL x.2.1 x.2.2 := by
  unfold canE at hy
  by_cases hk : knownL x.2.1 x.2.2 = []
  · rw [if_pos hk] at hy; cases hy
  · rw [if_neg hk] at hy
    obtain rfl := Option.some.inj hy
    have hg := known_good h
    exact ⟨rfl, of_good hg hk, of_canon hg hk, of_known hg hk⟩
theorem canV_of {V : List (Int × Int × List Iv)} (h : GoodV V) (hc : ∀ y ∈ V, canonB y.2.1 y.2.2 = true) : canV V = true := by
  unfold canV
  rw [List.all_eq_true]
  intro x hx
  rw [okN_good (h.ent x hx), hc x hx]; rfl
theorem canonV_len (V : List (Int × Int × List Iv)) : (canonV V).length ≤ V.length := List.length_filterMap_le _ _
end Go.Proofs.YtgeggdaokjimjaaDoor

/- A vector that a call makes entry by entry: an own row of entries, each with its holes in another block. No conditions. -/
namespace Go.Proofs.YtgeggdaokjimjaaDoor
open Go.RowKit
def entC (es : List (Int × Int × Value)) : List Value := es.flatMap fun e => [.int .u64 e.1, .int .u64 e.2.1, e.2.2]
theorem entC_len : ∀ es : List (Int × Int × Value), (entC es).length = es.length * 3
  | [] => rfl
  | e :: es => by
    have := entC_len es
    unfold entC at *
    rw [List.flatMap_cons, List.length_append, this]; simp; omega
theorem entC_app (a b : List (Int × Int × Value)) : entC (a ++ b) = entC a ++ entC b := by unfold entC; rw [List.flatMap_append]
theorem entC_at : ∀ (es : List (Int × Int × Value)) (i : Nat) (e : Int × Int × Value), es[i]? = some e → (entC es)[i * 3]? = some (.int .u64 e.1) ∧ (entC es)[i * 3 + 1]? = some (.int .u64 e.2.1) ∧ (entC es)[i * 3 + 2]? = some e.2.2
  | [], i, e, h => by simp at h
  | x :: es, 0, e, h => by
    obtain rfl : x = e := by simpa using h
    exact ⟨rfl, rfl, rfl⟩
  | x :: es, i + 1, e, h => by
    have := entC_at es i e (by simpa using h)
    have hc : ∀ j, (entC (x :: es))[j + 3]? = (entC es)[j]? := fun j => by
      unfold entC
      rw [List.flatMap_cons, List.getElem?_append_right (by simp)]
      simp
    refine ⟨?_, ?_, ?_⟩
    · rw [show (i + 1) * 3 = i * 3 + 3 from by omega, hc]; exact this.1
    · rw [show (i + 1) * 3 + 1 = (i * 3 + 1) + 3 from by omega, hc]; exact this.2.1
    · rw [show (i + 1) * 3 + 2 = (i * 3 + 2) + 3 from by omega, hc]; exact this.2.2
/-- Holes in memory of a call's own, apart from a block. -/
structure HolE (w : World) (B : Nat) (g : Option Nat) (s : Value) (H : List Iv) : Prop where
  ivs : IvsAt w s H
  soft : SoftE w B s H.length
  apart : 0 < H.length → s.ownBlock ≠ g
theorem HolE.call {w w' : World} {B : Nat} {g : Option Nat} {s : Value} {H : List Iv} (h : HolE w B g s H) (hb : Below w.heap.size w w') : HolE w' B g s H := ⟨h.ivs.call hb, h.soft.call hb, h.apart⟩
theorem HolE.grown {w w' : World} {B : Nat} {g g' : Option Nat} {s : Value} {H : List Iv} (h : HolE w B g s H) (hg : w.grownBy w' g) (hat : g' = g ∨ g' = some w.heap.size) : HolE w' B g' s H := by
  obtain ⟨⟨p, cap, h1, h2, h3⟩, ⟨p', cap', k1, k2, k3⟩, h5⟩ := h
  rw [h1] at k1
  cases k1
  by_cases hH : H = []
  · subst hH
    exact ⟨⟨p, cap, h1, h2, fun e => absurd rfl e⟩, ⟨p, cap, h1, k2, fun e => absurd e (Nat.lt_irrefl 0)⟩, fun e => absurd e (Nat.lt_irrefl 0)⟩
  · have hpos := List.length_pos_iff.2 hH
    obtain ⟨b, o, rfl, h6⟩ := h3 hH
    obtain ⟨b', o', e, hB, h7⟩ := k3 hpos
    cases e
    have hs : s.ownBlock = some b := by rw [h1]; rfl
    have hne : some b ≠ g := by rw [← hs]; exact h5 hpos
    have hlt : b < w.heap.size := by
      obtain ⟨⟨⟨z, hz⟩, _⟩, _⟩ := h7 0 hpos
      exact World.block_lt_of_cell? w _ hz
    have hblk := hg.block b hlt hne
    have hc : ∀ i, w'.cell? ⟨b, i, none⟩ = w.cell? ⟨b, i, none⟩ := fun i => World.cell?_of_block hblk
    have hf : ∀ i, w'.frozen? ⟨b, i, none⟩ = w.frozen? ⟨b, i, none⟩ := fun i => World.frozen?_of_block hblk
    refine ⟨⟨_, cap, h1, h2, fun _ => ⟨b, o, rfl, fun i x hx => ?_⟩⟩, ⟨_, cap, h1, k2, fun _ => ⟨b, o, rfl, hB, fun i hi => ?_⟩⟩, fun _ => ?_⟩
    · rw [hc, hc]; exact h6 i x hx
    · rw [hc, hc, hf, hf]; exact h7 i hi
    · rw [hs]
      rcases hat with rfl | rfl
      · exact hne
      · intro e; have := Option.some.inj e; omega
/-- What a call has made so far of a vector: an own row of entries. -/
def OutV (w : World) (B : Nat) (v : Value) (V : List (Int × Int × List Iv)) : Prop :=
  ∃ es : List (Int × Int × Value), es.length = V.length ∧ w.ownsRow B 47 3 v es.length (entC es) ∧ ∀ (i : Nat) (e : Int × Int × Value) (x : Int × Int × List Iv), es[i]? = some e → V[i]? = some x → e.1 = x.1 ∧ e.2.1 = x.2.1 ∧ HolE w B v.ownBlock e.2.2 x.2.2
theorem OutV.nil (w : World) (B : Nat) : OutV w B (.slice none 0 0) [] := ⟨[], rfl, World.ownsRow_nil w B _ 3, fun i e x h => by simp at h⟩
theorem OutV.shape {w : World} {B : Nat} {v : Value} {V : List (Int × Int × List Iv)} (h : OutV w B v V) : ∃ p cap, v = .slice p V.length cap := by
  obtain ⟨es, h1, h2, _⟩ := h
  obtain ⟨p, cap, e, _⟩ := own_shape h2
  exact ⟨p, cap, by rw [e, h1]⟩
theorem OutV.call {w w' : World} {B : Nat} {v : Value} {V : List (Int × Int × List Iv)} (h : OutV w B v V) (hb : Below w.heap.size w w') : OutV w' B v V := by
  obtain ⟨es, h1, h2, h3⟩ := h
  exact ⟨es, h1, own_below h2 hb, fun i e x he hx => ⟨(h3 i e x he hx).1, (h3 i e x he hx).2.1, (h3 i e x he hx).2.2.call hb⟩⟩
/-- What lies in blocks that were made later is apart from the row. -/
theorem own_apart {w w' : World} {B sz n k : Nat} {t : TypeId} {v s : Value} {xs : List Value} (h : w.ownsRow B t sz v n xs) (hs : SoftE w' w.heap.size s k) (hk : 0 < k) : s.ownBlock ≠ v.ownBlock := by
  obtain ⟨p, cap, rfl, _, h3⟩ := hs
  obtain ⟨g, o, rfl, hg, _⟩ := h3 hk
  intro e
  have e' : some g = v.ownBlock := e
  have := (h.lt g e'.symm).2
  omega
theorem OutV.push {w w2 : World} {B : Nat} {v v2 : Value} {es : List (Int × Int × Value)} {V : List (Int × Int × List Iv)} {r m : Int} {s : Value} {H : List Iv} (hel : es.length = V.length)
    (hall : ∀ (i : Nat) (e : Int × Int × Value) (x : Int × Int × List Iv), es[i]? = some e → V[i]? = some x → e.1 = x.1 ∧ e.2.1 = x.2.1 ∧ HolE w B v.ownBlock e.2.2 x.2.2)
    (hrow : w2.ownsRow B 47 3 v2 (es.length + 1) (entC es ++ [.int .u64 r, .int .u64 m, s])) (hg : w.grownBy w2 v.ownBlock) (hat : v2.ownBlock = v.ownBlock ∨ v2.ownBlock = some w.heap.size) (hx : HolE w B v.ownBlock s H) : OutV w2 B v2 (V ++ [(r, m, H)]) := by
  refine ⟨es ++ [(r, m, s)], by rw [List.length_append, List.length_append, hel]; rfl, ?_, fun i e x he hx' => ?_⟩
  · rw [List.length_append, entC_app]; exact hrow
  · by_cases hi : i < es.length
    · rw [List.getElem?_append_left hi] at he
      rw [List.getElem?_append_left (by omega)] at hx'
      obtain ⟨h1, h2, h3⟩ := hall i e x he hx'
      exact ⟨h1, h2, h3.grown hg hat⟩
    · rw [List.getElem?_append_right (by omega)] at he
      rw [List.getElem?_append_right (by omega)] at hx'
      have h0 : i - es.length = 0 := by
        have := (List.getElem?_eq_some_iff.1 he).1
        simpa using this
      have h0' : i - V.length = 0 := by omega
      rw [h0] at he; rw [h0'] at hx'
      obtain rfl : (r, m, s) = e := by simpa using he
      obtain rfl : (r, m, H) = x := by simpa using hx'
      exact ⟨rfl, rfl, hx.grown hg hat⟩
theorem own_cells3 {w : World} {B n g cap : Nat} {t : TypeId} {es : List (Int × Int × Value)} (h : w.ownsRow B t 3 (.slice (some ⟨g, 0, none⟩) n cap) n (entC es)) (hn : n = es.length) (i : Nat) (e : Int × Int × Value) (he : es[i]? = some e) :
    w.cell? ⟨g, 0 + i * 3, none⟩ = some (.int .u64 e.1) ∧ w.cell? ⟨g, 0 + i * 3 + 1, none⟩ = some (.int .u64 e.2.1) ∧ w.cell? ⟨g, 0 + i * 3 + 2, none⟩ = some e.2.2 := by
  have hi := (List.getElem?_eq_some_iff.1 he).1
  obtain ⟨c0, c1, c2⟩ := entC_at es i e he
  subst hn
  rw [Nat.zero_add]
  exact ⟨by rw [h.cellAt (i * 3) (by omega)]; exact c0, by rw [h.cellAt (i * 3 + 1) (by omega)]; exact c1, by rw [h.cellAt (i * 3 + 2) (by omega)]; exact c2⟩
theorem OutV.vecAt {w : World} {B : Nat} {t : TypeId} {v : Value} {es : List (Int × Int × Value)} (h2 : w.ownsRow B t 3 v es.length (entC es)) : VecAt w v es := by
  have h3 := h2
  rcases h2.2 with ⟨rfl, h0⟩ | ⟨g, cap, cur, rfl, hbg, hg, hnc, hcm, _⟩
  · exact ⟨none, 0, by rw [h0], by omega, fun e => absurd (List.eq_nil_of_length_eq_zero h0) e⟩
  · exact ⟨_, cap, rfl, Nat.le_trans hnc hcm, fun _ => ⟨g, 0, rfl, fun i e he => own_cells3 h3 rfl i e he⟩⟩
end Go.Proofs.YtgeggdaokjimjaaDoor

/- The reference's canonical form of a vector: entries appended to a row of the call's own. Conditions: the vector is correct, its lists have at most 1000 intervals. -/
namespace Go.Proofs.YtgeggdaokjimjaaDoor
open Go.RowKit
theorem infoE : (Tryd.prog.info? 47).map (fun i => (i.zero, i.size, i.bytes)) = some (some (.agg #[.int .u64 0, .int .u64 0, .slice none 0 0]), 3, 40) := by kernel_rfl
theorem cell_three9 (w : World) (x y z : Value) (t : TypeId) (k : Nat) (hk : k = w.heap.size) : ∀ j u, [x, y, z][j]? = some u → (w.alloc (.cells #[x, y, z] t)).cell? ((⟨k, 0, none⟩ : Addr).add j) = some u := by
  subst hk
  intro j u h
  match j, h with
  | 0, h => simp at h; subst h; simp [Addr.add]
  | 1, h => simp at h; subst h; simp [Addr.add]
  | 2, h => simp at h; subst h; simp [Addr.add]
theorem some9_of {L : List Iv} (h : L ≠ []) : someE L = true := by unfold someE; cases L <;> simp at *
theorem canonV_snoc {V : List (Int × Int × List Iv)} {k : Nat} {r m : Int} {H : List Iv} (h : V[k]? = some (r, m, H)) :
    canonV (V.take (k + 1)) = if knownL m H = [] then canonV (V.take k) else canonV (V.take k) ++ [(repE r (knownL m H), topL (knownL m H), holesL (knownL m H))] := by
  unfold canonV
  rw [take_snoc9 h, List.filterMap_append]
  by_cases hk : knownL m H = []
  · rw [if_pos hk]
    have : canE (r, m, H) = none := by unfold canE; rw [if_pos hk]
    rw [List.filterMap_cons_none this]; simp
  · rw [if_neg hk]
    have : canE (r, m, H) = some (r, topL (knownL m H), holesL (knownL m H)) := by unfold canE; rw [if_neg hk]
    rw [List.filterMap_cons_some this]
    unfold repE
    rw [if_neg hk]; rfl
end Go.Proofs.YtgeggdaokjimjaaDoor
