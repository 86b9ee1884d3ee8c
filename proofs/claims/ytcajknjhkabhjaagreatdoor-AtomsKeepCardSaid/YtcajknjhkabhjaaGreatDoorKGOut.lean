/- Knowledge that a call builds: a row of its own whose fragments lie in blocks apart from it. Conditions: as each theorem says. -/
import Derived.Test.YtcajknjhkabhjaaGreatDoorKKFold
import Derived.Test.YtcajknjhkabhjaaGreatDoorKGMath
namespace Go.Proofs.YtcajknjhkabhjaaGreatDoor
open Go.RowKit
structure IvG (w : World) (g : Option Nat) (s : Value) (L : List Iv) : Prop where
 ivs : IvsAt w s L
 apart : 0 < L.length → ∃ b, s.ownBlock = some b ∧ b < w.heap.size ∧ g ≠ some b
theorem IvG.of {w : World} {g : Option Nat} {s : Value} {L : List Iv} (h : IvsAt w s L) (hn : 0 < L.length → ∀ b, s.ownBlock = some b → g ≠ some b) : IvG w g s L := by
 refine ⟨h, fun h0 => ?_⟩
 obtain ⟨p, cap, rfl, h2, h3⟩ := h
 obtain ⟨b, o, rfl, h6⟩ := h3 (List.length_pos_iff.1 h0)
 have h7 := (h6 0 L[0] (by simp [h0])).1
 exact ⟨b, rfl, World.block_lt_of_cell? w _ h7, hn h0 b rfl⟩
theorem IvG.call {w w' : World} {g : Option Nat} {s : Value} {L : List Iv} (h : IvG w g s L) (hb : Below w.heap.size w w') : IvG w' g s L := by
 refine ⟨h.ivs.call hb, fun h0 => ?_⟩
 obtain ⟨b, h1, h2, h3⟩ := h.apart h0
 exact ⟨b, h1, Nat.lt_of_lt_of_le h2 hb.size, h3⟩
theorem apart_grown {w : World} {g g' : Option Nat} {b : Nat} (hlt : b < w.heap.size) (hn : g ≠ some b) (hat : g' = g ∨ g' = some w.heap.size) : g' ≠ some b := by
 rcases hat with rfl | rfl
 ·exact hn
 ·intro e; have := Option.some.inj e; omega
theorem IvG.grown {w w' : World} {g g' : Option Nat} {s : Value} {L : List Iv} (h : IvG w g s L) (hg : w.grownBy w' g) (hat : g' = g ∨ g' = some w.heap.size) : IvG w' g' s L := by
 obtain ⟨⟨p, cap, h1, h2, h3⟩, ha⟩ := h
 refine ⟨⟨p, cap, h1, h2, fun hne => ?_⟩, fun h0 => ?_⟩
 ·obtain ⟨b, o, rfl, h6⟩ := h3 hne
  obtain ⟨b', e, hlt, hn⟩ := ha (List.length_pos_iff.2 hne)
  rw [h1] at e
  obtain rfl : b = b' := Option.some.inj e
  have hblk := hg.block b hlt (fun e => hn e.symm)
  have hc : ∀ i, w'.cell? ⟨b, i, none⟩ = w.cell? ⟨b, i, none⟩ := fun i => World.cell?_of_block hblk
  refine ⟨b, o, rfl, fun i x hx => ?_⟩
  rw [hc, hc]
  exact h6 i x hx
 ·obtain ⟨b, e, hlt, hn⟩ := ha h0
  exact ⟨b, e, Nat.lt_of_lt_of_le hlt hg.size, apart_grown hlt hn hat⟩
structure VecG (w : World) (g : Option Nat) (v : Value) (V : List (Int × Int × List Iv)) : Prop where
 sh : ∃ es, VecAt w v es ∧ es.length = V.length ∧ ∀ (i : Nat) (e : Int × Int × Value) (x : Int × Int × List Iv), es[i]? = some e → V[i]? = some x → e.1 = x.1 ∧ e.2.1 = x.2.1 ∧ IvG w g e.2.2 x.2.2
 len : V.length ≤ 100000
 apart : 0 < V.length → ∃ b, v.ownBlock = some b ∧ b < w.heap.size ∧ g ≠ some b
theorem VecG.i {w : World} {g : Option Nat} {v : Value} {V : List (Int × Int × List Iv)} (h : VecG w g v V) : VecI w v V := by
 obtain ⟨⟨es, h1, h2, h3⟩, h4, _⟩ := h
 exact ⟨⟨es, h1, h2, fun i e x he hx => ⟨(h3 i e x he hx).1, (h3 i e x he hx).2.1, (h3 i e x he hx).2.2.ivs⟩⟩, h4⟩
theorem VecG.call {w w' : World} {g : Option Nat} {v : Value} {V : List (Int × Int × List Iv)} (h : VecG w g v V) (hb : Below w.heap.size w w') : VecG w' g v V := by
 obtain ⟨⟨es, h1, h2, h3⟩, h4, h5⟩ := h
 refine ⟨⟨es, h1.call hb, h2, fun i e x he hx => ⟨(h3 i e x he hx).1, (h3 i e x he hx).2.1, (h3 i e x he hx).2.2.call hb⟩⟩, h4, fun h0 => ?_⟩
 obtain ⟨b, k1, k2, k3⟩ := h5 h0
 exact ⟨b, k1, Nat.lt_of_lt_of_le k2 hb.size, k3⟩
theorem VecG.grown {w w' : World} {g g' : Option Nat} {v : Value} {V : List (Int × Int × List Iv)} (h : VecG w g v V) (hg : w.grownBy w' g) (hat : g' = g ∨ g' = some w.heap.size) : VecG w' g' v V := by
 obtain ⟨⟨es, ⟨p, cap, h1, h2, h3⟩, hel, hal⟩, h4, h5⟩ := h
 refine ⟨⟨es, ⟨p, cap, h1, h2, fun hne => ?_⟩, hel, fun i e x he hx => ⟨(hal i e x he hx).1, (hal i e x he hx).2.1, (hal i e x he hx).2.2.grown hg hat⟩⟩, h4, fun h0 => ?_⟩
 ·obtain ⟨b, o, rfl, h6⟩ := h3 hne
  obtain ⟨b', e, hlt, hn⟩ := h5 (by rw [← hel]; exact List.length_pos_iff.2 hne)
  rw [h1] at e
  obtain rfl : b = b' := Option.some.inj e
  have hblk := hg.block b hlt (fun e => hn e.symm)
  have hc : ∀ i, w'.cell? ⟨b, i, none⟩ = w.cell? ⟨b, i, none⟩ := fun i => World.cell?_of_block hblk
  refine ⟨b, o, rfl, fun i x hx => ?_⟩
  rw [hc, hc, hc]
  exact h6 i x hx
 ·obtain ⟨b, e, hlt, hn⟩ := h5 h0
  exact ⟨b, e, Nat.lt_of_lt_of_le hlt hg.size, apart_grown hlt hn hat⟩
def KnoG (w : World) (B : Nat) (v : Value) (F : List (List Iv × List (Int × Int × List Iv))) : Prop :=
 ∃ fs : List (Value × Value), fs.length = F.length ∧ w.ownsRow B 49 2 v fs.length (frC fs) ∧ ∀ (i : Nat) (f : Value × Value) (x : List Iv × List (Int × Int × List Iv)), fs[i]? = some f → F[i]? = some x → IvG w v.ownBlock f.1 x.1 ∧ VecG w v.ownBlock f.2 x.2
theorem KnoG.nil (w : World) (B : Nat) : KnoG w B (.slice none 0 0) [] := ⟨[], rfl, World.ownsRow_nil w B _ 2, fun i f x h => by simp at h⟩
theorem KnoG.shape {w : World} {B : Nat} {v : Value} {F : List (List Iv × List (Int × Int × List Iv))} (h : KnoG w B v F) : ∃ p cap, v = .slice p F.length cap := by
 obtain ⟨fs, h1, h2, _⟩ := h
 obtain ⟨p, cap, e, _⟩ := own_shape h2
 exact ⟨p, cap, by rw [e, h1]⟩
theorem KnoG.call {w w' : World} {B : Nat} {v : Value} {F : List (List Iv × List (Int × Int × List Iv))} (h : KnoG w B v F) (hb : Below w.heap.size w w') : KnoG w' B v F := by
 obtain ⟨fs, h1, h2, h3⟩ := h
 exact ⟨fs, h1, own_below h2 hb, fun i f x hf hx => ⟨(h3 i f x hf hx).1.call hb, (h3 i f x hf hx).2.call hb⟩⟩
theorem KnoG.base {w : World} {B B' : Nat} {v : Value} {F : List (List Iv × List (Int × Int × List Iv))} (h : KnoG w B v F) (hB : B' ≤ B) : KnoG w B' v F := by
 obtain ⟨fs, h1, h2, h3⟩ := h
 exact ⟨fs, h1, own_base h2 hB, h3⟩
theorem frC_snoc (fs : List (Value × Value)) (a b : Value) : frC (fs ++ [(a, b)]) = frC fs ++ [a, b] := by unfold frC; rw [List.flatMap_append]; rfl
theorem KnoG.push {w w2 : World} {B : Nat} {v v2 : Value} {fs : List (Value × Value)} {F : List (List Iv × List (Int × Int × List Iv))} {L : List Iv} {V : List (Int × Int × List Iv)} {s u : Value} (hel : fs.length = F.length)
 (hall : ∀ (i : Nat) (f : Value × Value) (x : List Iv × List (Int × Int × List Iv)), fs[i]? = some f → F[i]? = some x → IvG w v.ownBlock f.1 x.1 ∧ VecG w v.ownBlock f.2 x.2)
 (hrow : w2.ownsRow B 49 2 v2 (fs.length + 1) (frC fs ++ [s, u])) (hg : w.grownBy w2 v.ownBlock) (hat : v2.ownBlock = v.ownBlock ∨ v2.ownBlock = some w.heap.size) (hs : IvG w v.ownBlock s L) (hu : VecG w v.ownBlock u V) : KnoG w2 B v2 (F ++ [(L, V)]) := by
 refine ⟨fs ++ [(s, u)], by rw [List.length_append, List.length_append, hel]; rfl, ?_, fun i f x hf hx => ?_⟩
 ·rw [List.length_append, frC_snoc]; exact hrow
 ·by_cases hi : i < fs.length
  ·rw [List.getElem?_append_left hi] at hf
   rw [List.getElem?_append_left (by omega)] at hx
   obtain ⟨h1, h2⟩ := hall i f x hf hx
   exact ⟨h1.grown hg hat, h2.grown hg hat⟩
  ·rw [List.getElem?_append_right (by omega)] at hf
   rw [List.getElem?_append_right (by omega)] at hx
   have h0 : i - fs.length = 0 := by
    have := (List.getElem?_eq_some_iff.1 hf).1
    simpa using this
   have h0' : i - F.length = 0 := by omega
   rw [h0] at hf; rw [h0'] at hx
   obtain rfl : (s, u) = f := by simpa using hf
   obtain rfl : (L, V) = x := by simpa using hx
   exact ⟨hs.grown hg hat, hu.grown hg hat⟩
theorem KnoG.knoAt {w : World} {B : Nat} {t : TypeId} {v : Value} {fs : List (Value × Value)} (h : w.ownsRow B t 2 v fs.length (frC fs)) : KnoAt w v fs := by
 have h3 := h
 rcases h.2 with ⟨rfl, h0⟩ | ⟨g, cap, cur, rfl, hbg, hg, hnc, hcm, _⟩
 ·exact ⟨none, 0, by rw [h0], by omega, fun e => absurd (List.eq_nil_of_length_eq_zero h0) e⟩
 ·refine ⟨_, cap, rfl, Nat.le_trans hnc hcm, fun _ => ⟨g, 0, rfl, fun i f he => ?_⟩⟩
  have hi := (List.getElem?_eq_some_iff.1 he).1
  obtain ⟨c0, c1⟩ := frC_at fs i f he
  rw [Nat.zero_add]
  exact ⟨by rw [h3.cellAt (i * 2) (by omega)]; exact c0, by rw [h3.cellAt (i * 2 + 1) (by omega)]; exact c1⟩
theorem KnoG.i {w : World} {B : Nat} {v : Value} {F : List (List Iv × List (Int × Int × List Iv))} (h : KnoG w B v F) (hl : F.length ≤ 100000) : KnoI w v F := by
 obtain ⟨fs, h1, h2, h3⟩ := h
 exact ⟨⟨fs, KnoG.knoAt h2, h1, fun i f x hf hx => ⟨(h3 i f x hf hx).1.ivs, (h3 i f x hf hx).2.i⟩⟩, hl⟩
end Go.Proofs.YtcajknjhkabhjaaGreatDoor
namespace Go.Proofs.YtcajknjhkabhjaaGreatDoor
open Go.RowKit
theorem cell_two12 (w : World) (x y : Value) (t : TypeId) : ∀ j u, [x, y][j]? = some u → (w.alloc (.cells #[x, y] t)).cell? ((⟨w.heap.size, 0, none⟩ : Addr).add j) = some u := by
 intro j u h
 match j, h with
 | 0, h => simp at h; subst h; simp [Addr.add]
 | 1, h => simp at h; subst h; simp [Addr.add]
def apB (F : List (List Iv × List (Int × Int × List Iv))) : Bool := decide (F.Pairwise fun x y => andL y.1 x.1 = [])
theorem ap_of {F : List (List Iv × List (Int × Int × List Iv))} (h : ∀ (i j : Nat) x y, j < i → F[i]? = some x → F[j]? = some y → andL x.1 y.1 = []) : apB F = true := by
 refine decide_eq_true (List.pairwise_iff_getElem.2 fun i j hi hj hij => ?_)
 exact h j i _ _ hij (by simp [hj]) (by simp [hi])
theorem ap_not {F : List (List Iv × List (Int × Int × List Iv))} {i j : Nat} {x y : List Iv × List (Int × Int × List Iv)} (hij : j < i) (hx : F[i]? = some x) (hy : F[j]? = some y) (h : andL x.1 y.1 ≠ []) : apB F = false := by
 refine decide_eq_false fun hp => h ?_
 obtain ⟨h1, e1⟩ := List.getElem?_eq_some_iff.1 hx
 obtain ⟨h2, e2⟩ := List.getElem?_eq_some_iff.1 hy
 have := List.pairwise_iff_getElem.1 hp j i h2 h1 hij
 rw [e1, e2] at this
 exact this
theorem g2_call {W w1 w2 : World} {p0 p1 : Addr} {a0 a1 : Value} (h : Below W.heap.size W w1 ∧ w1.cell? p0 = some a0 ∧ w1.cell? p1 = some a1) (hb : Below w1.heap.size w1 w2) : Below W.heap.size W w2 ∧ w2.cell? p0 = some a0 ∧ w2.cell? p1 = some a1 := ⟨below_call h.1 hb, keep_cell h.2.1 hb, keep_cell h.2.2 hb⟩
set_option maxRecDepth 100000 in
set_option maxHeartbeats 8000000 in
theorem refApart12_any (F : List (List Iv × List (Int × Int × List Iv))) (v : Value) (w : World) (hv : KnoM w v F) (hF : GoodK F) (hs : smallK F) : Calls Tryz.prog 31 #[v] w (IsEnd (apB F) w) := by
 obtain ⟨p, cap, rfl⟩ := hv.shape
 have hlen := hs.1
 have HG : Hid (∀ (i : Nat) x, F[i]? = some x → GoodL x.1 ∧ x.1.length ≤ 20) := Lib.hid fun i x hx => ⟨(hF x (List.mem_of_getElem? hx)).1, (hs.2 x (List.mem_of_getElem? hx)).1⟩
 have HV := Lib.hid hv; clear hv hF hs
 have KM := Lib.hid refMeet_any
 go_enter Tryz.func31, Tryz.ntmps31
 go_wp2_with fail
 go_loopw [3] (fun i wr => ∃ n : Nat, i = .int .i64 n ∧ n ≤ F.length ∧ (∀ (i j : Nat) x y, i < n → j < i → F[i]? = some x → F[j]? = some y → andL x.1 y.1 = []) ∧ Below w.heap.size w wr) (fun i _ => F.length - (intOf i).toNat)
 case atStart => exact ⟨0, rfl, Nat.zero_le _, fun i j x y hi => absurd hi (Nat.not_lt_zero i), Below.refl _ _⟩
 case round =>
  obtain ⟨n, rfl, hn, hbef, hb⟩ := hrel
  have HBF := Lib.hid hbef; clear hbef
  have HB0 := Lib.hid hb; clear hb
  by_cases hlt : n < F.length
  ·have HLT := Lib.hid hlt
   have i1 : (0 : Int) ≤ (n : Int) := by omega
   have i2 : (n : Int) < (F.length : Int) := by omega
   go_wp2_with fail
   go_loopw [4] (fun j wr => ∃ k : Nat, j = .int .i64 k ∧ k ≤ n ∧ (∀ (j : Nat) x y, j < k → F[n]? = some x → F[j]? = some y → andL x.1 y.1 = []) ∧ Below w.heap.size w wr) (fun j _ => n - (intOf j).toNat)
   case atStart => exact ⟨0, rfl, Nat.zero_le _, fun j x y hj => absurd hj (Nat.not_lt_zero j), HB0.out⟩
   case round =>
    obtain ⟨k, rfl, hk, hbef, hb⟩ := hrel
    have HBK := Lib.hid hbef; clear hbef
    clear HB0
    have HB := Lib.hid hb; clear hb
    by_cases hlk : k < n
    ·have HLK := Lib.hid hlk
     obtain ⟨⟨L, V⟩, hx⟩ : ∃ x, F[n]? = some x := ⟨F[n]'HLT.out, by simp [HLT.out]⟩
     obtain ⟨⟨L', V'⟩, hy⟩ : ∃ x, F[k]? = some x := ⟨F[k]'(by have := HLT.out; omega), by simp [show k < F.length by have := HLT.out; omega]⟩
     obtain ⟨b, o, cap', q, c, q2, c2, e, c0, _, ha⟩ := (HV.out.call HB.out).elem hx
     cases e
     obtain ⟨b', o', cap'', q', c', q2', c2', e, d0, _, ha'⟩ := (HV.out.call HB.out).elem hy
     cases e
     obtain ⟨g1, g1l⟩ := HG.out _ _ hx
     obtain ⟨g2, g2l⟩ := HG.out _ _ hy
     dsimp only at g1 g1l g2 g2l
     have K := Lib.hid (fun W (hb : Below wr.heap.size wr W) => KM.out L L' (.slice q L.length c) (.slice q' L'.length c') W ⟨ha.at1.call hb, g1, by omega⟩ ⟨ha'.at1.call hb, g2, by omega⟩)
     have HX := Lib.hid (And.intro hx hy)
     have HS := Lib.hid (g2_call ⟨Below.refl wr.heap.size wr, c0, d0⟩ (Below.refl _ _).drew)
     have i3 : (0 : Int) ≤ (k : Int) := by omega
     have i4 : (k : Int) < (n : Int) := by omega
     have i5 : (k : Int) < (F.length : Int) := by omega
     clear ha ha' hx hy g1 g1l g2 g2l
     go_wp2_with fail
     go_region_held3 (fun w' => Below wr.heap.size wr w' ∧ w'.cell? ⟨b, o + n * 2, none⟩ = some (.slice q L.length c) ∧ w'.cell? ⟨b, o + k * 2, none⟩ = some (.slice q' L'.length c'))
      (first
        | exact g2_call (by assumption) (Hid.out (by assumption))
        | exact HS.out
        | assumption)
      ((go_at_call 72; refine (K.out _ (And.left (by assumption))).mono ?_; rintro en w' ⟨um, rfl, hum, h'⟩; obtain ⟨pm, cm, rfl, _⟩ := own_shape hum; clear hum; have h' := Lib.hid h'))
     all_goals
      rename_i hE
      have HE := Lib.hid (below_call HB.out hE.1)
      clear hE
      by_cases hq : andL L L' = []
      ·have e1 : ¬ (0 : Int) < ((andL L L').length : Int) := by rw [hq]; simp
       have HN : Hid (∀ (j : Nat) x y, j < k + 1 → F[n]? = some x → F[j]? = some y → andL x.1 y.1 = []) := Lib.hid fun j x y hj hx hy => by
        rcases Nat.lt_or_eq_of_le (Nat.le_of_lt_succ hj) with h1 | rfl
        ·exact HBK.out j x y h1 hx hy
        ·obtain rfl := Option.some.inj (HX.out.1.symm.trans hx)
         obtain rfl := Option.some.inj (HX.out.2.symm.trans hy)
         exact hq
       clear hq
       go_wp2_with fail
       go_roundw
       case rel => exact ⟨k + 1, by go_num, HLK.out, HN.out, HE.out⟩
       case measure => have := HLK.out; simp [intOf]; omega
      ·have e1 : (0 : Int) < ((andL L L').length : Int) := by have := List.length_pos_iff.2 hq; omega
       have HZ := Lib.hid (ap_not HLK.out HX.out.1 HX.out.2 hq)
       clear hq
       go_wp2_with fail
       go_ret
       exact ⟨by rw [HZ.out]; rfl, HE.out⟩
    ·obtain rfl : k = n := by omega
     have HN : Hid (∀ (i j : Nat) x y, i < k + 1 → j < i → F[i]? = some x → F[j]? = some y → andL x.1 y.1 = []) := Lib.hid fun i j x y hi hj hx hy => by
      rcases Nat.lt_or_eq_of_le (Nat.le_of_lt_succ hi) with h1 | rfl
      ·exact HBF.out i j x y h1 hj hx hy
      ·exact HBK.out j x y hj hx hy
     go_wp2_with fail
     go_roundw
     case rel => exact ⟨k + 1, by go_num, HLT.out, HN.out, HB.out⟩
     case measure => have := HLT.out; simp [intOf]; omega
  ·obtain rfl : n = F.length := by omega
   have HZ : Hid (apB F = true) := Lib.hid (ap_of fun i j x y hj hx hy => HBF.out i j x y (List.getElem?_eq_some_iff.1 hx).1 hj hx hy)
   go_wp2_with fail
   go_ret
   exact ⟨by rw [HZ.out]; rfl, HB0.out⟩
end Go.Proofs.YtcajknjhkabhjaaGreatDoor
