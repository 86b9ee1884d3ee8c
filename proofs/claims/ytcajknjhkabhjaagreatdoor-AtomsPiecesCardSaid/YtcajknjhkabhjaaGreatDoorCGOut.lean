/- Knowledge that a call builds: a row of its own whose fragments lie in blocks apart from it. Conditions: as each theorem says. -/
import Derived.Test.YtcajknjhkabhjaaGreatDoorCKFold
import Derived.Test.YtcajknjhkabhjaaGreatDoorCQMath
import Derived.Test.YtcajknjhkabhjaaGreatDoorCLaw
import Derived.Test.YtcajknjhkabhjaaGreatDoorCRIv
import Derived.Test.YtcajknjhkabhjaaGreatDoorCLRef
import Derived.Test.YtcajknjhkabhjaaGreatDoorCRSearch
import Derived.Maps.AppendAt
import Derived.Test.YtcajknjhkabhjaaGreatDoorCGRef
namespace Go.Proofs.YtcajknjhkabhjaaGreatDoor
open Go.RowKit
/-- A list to be read, in a block apart from g. -/
structure IvG (w : World) (g : Option Nat) (s : Value) (L : List Iv) : Prop where
  ivs : IvsAt w s L
  apart : 0 < L.length → ∃ b, s.ownBlock = some b ∧ b < w.heap.size ∧ g ≠ some b
theorem IvG.of {w : World} {g : Option Nat} {s : Value} {L : List Iv} (h : IvsAt w s L) (hn : 0 < L.length → ∀ b, s.ownBlock = some b → g ≠ some b) : IvG w g s L := by
  refine ⟨h, fun h0 => ?_⟩
  obtain ⟨p, cap, rfl, h2, h3⟩ := h
  obtain ⟨b, o, rfl, h6⟩ := h3 (List.length_pos_iff.1 h0)
  have h7 := (h6 0 L[0] (by simp [h0])).1
  exact ⟨b, rfl, World.block_lt_of_cell? w _ h7, hn h0 b rfl⟩
theorem IvG.call {w w' : World} {g : Option Nat} {s : Value} {L : List Iv} (h : IvG w g s L) (hb : Below w.heap.size w w') : IvG w' g s L := by
  refine ⟨h.ivs.call hb, fun h0 => ?_⟩
  obtain ⟨b, h1, h2, h3⟩ := h.apart h0
  exact ⟨b, h1, Nat.lt_of_lt_of_le h2 hb.size, h3⟩
theorem apart_grown {w : World} {g g' : Option Nat} {b : Nat} (hlt : b < w.heap.size) (hn : g ≠ some b) (hat : g' = g ∨ g' = some w.heap.size) : g' ≠ some b := by
  rcases hat with rfl | rfl
  · exact hn
  · intro e; have := Option.some.inj e; omega
theorem IvG.grown {w w' : World} {g g' : Option Nat} {s : Value} {L : List Iv} (h : IvG w g s L) (hg : w.grownBy w' g) (hat : g' = g ∨ g' = some w.heap.size) : IvG w' g' s L := by
  obtain ⟨⟨p, cap, h1, h2, h3⟩, ha⟩ := h
  refine ⟨⟨p, cap, h1, h2, fun hne => ?_⟩, fun h0 => ?_⟩
  · obtain ⟨b, o, rfl, h6⟩ := h3 hne
    obtain ⟨b', e, hlt, hn⟩ := ha (List.length_pos_iff.2 hne)
    rw [h1] at e
    obtain rfl : b = b' := Option.some.inj e
    have hblk := hg.block b hlt (fun e => hn e.symm)
    have hc : ∀ i, w'.cell? ⟨b, i, none⟩ = w.cell? ⟨b, i, none⟩ := fun i => World.cell?_of_block hblk
    refine ⟨b, o, rfl, fun i x hx => ?_⟩
    rw [hc, hc]
    exact h6 i x hx
  · obtain ⟨b, e, hlt, hn⟩ := ha h0
    exact ⟨b, e, Nat.lt_of_lt_of_le hlt hg.size, apart_grown hlt hn hat⟩
/-- A vector to be read, its blocks apart from g. -/
structure VecG (w : World) (g : Option Nat) (v : Value) (V : List (Int × Int × List Iv)) : Prop where
  sh : ∃ es, VecAt w v es ∧ es.length = V.length ∧ ∀ (i : Nat) (e : Int × Int × Value) (x : Int × Int × List Iv), es[i]? = some e → V[i]? = some x → e.1 = x.1 ∧ e.2.1 = x.2.1 ∧ IvG w g e.2.2 x.2.2
  len : V.length ≤ 100000
  apart : 0 < V.length → ∃ b, v.ownBlock = some b ∧ b < w.heap.size ∧ g ≠ some b
theorem VecG.call {w w' : World} {g : Option Nat} {v : Value} {V : List (Int × Int × List Iv)} (h : VecG w g v V) (hb : Below w.heap.size w w') : VecG w' g v V := by
  obtain ⟨⟨es, h1, h2, h3⟩, h4, h5⟩ := h
  refine ⟨⟨es, h1.call hb, h2, fun i e x he hx => ⟨(h3 i e x he hx).1, (h3 i e x he hx).2.1, (h3 i e x he hx).2.2.call hb⟩⟩, h4, fun h0 => ?_⟩
  obtain ⟨b, k1, k2, k3⟩ := h5 h0
  exact ⟨b, k1, Nat.lt_of_lt_of_le k2 hb.size, k3⟩
theorem VecG.grown {w w' : World} {g g' : Option Nat} {v : Value} {V : List (Int × Int × List Iv)} (h : VecG w g v V) (hg : w.grownBy w' g) (hat : g' = g ∨ g' = some w.heap.size) : VecG w' g' v V := by
  obtain ⟨⟨es, ⟨p, cap, h1, h2, h3⟩, hel, hal⟩, h4, h5⟩ := h
  refine ⟨⟨es, ⟨p, cap, h1, h2, fun hne => ?_⟩, hel, fun i e x he hx => ⟨(hal i e x he hx).1, (hal i e x he hx).2.1, (hal i e x he hx).2.2.grown hg hat⟩⟩, h4, fun h0 => ?_⟩
  · obtain ⟨b, o, rfl, h6⟩ := h3 hne
    obtain ⟨b', e, hlt, hn⟩ := h5 (by rw [← hel]; exact List.length_pos_iff.2 hne)
    rw [h1] at e
    obtain rfl : b = b' := Option.some.inj e
    have hblk := hg.block b hlt (fun e => hn e.symm)
    have hc : ∀ i, w'.cell? ⟨b, i, none⟩ = w.cell? ⟨b, i, none⟩ := fun i => World.cell?_of_block hblk
    refine ⟨b, o, rfl, fun i x hx => ?_⟩
    rw [hc, hc, hc]
    exact h6 i x hx
  · obtain ⟨b, e, hlt, hn⟩ := h5 h0
    exact ⟨b, e, Nat.lt_of_lt_of_le hlt hg.size, apart_grown hlt hn hat⟩
/-- What a call has made so far of knowledge: an own row of fragments. -/
def KnoG (w : World) (B : Nat) (v : Value) (F : List (List Iv × List (Int × Int × List Iv))) : Prop :=
  ∃ fs : List (Value × Value), fs.length = F.length ∧ w.ownsRow B 49 2 v fs.length (frC fs) ∧ ∀ (i : Nat) (f : Value × Value) (x : List Iv × List (Int × Int × List Iv)), fs[i]? = some f → F[i]? = some x → IvG w v.ownBlock f.1 x.1 ∧ VecG w v.ownBlock f.2 x.2
theorem KnoG.nil (w : World) (B : Nat) : KnoG w B (.slice none 0 0) [] := ⟨[], rfl, World.ownsRow_nil w B _ 2, fun i f x h => by simp at h⟩
theorem KnoG.shape {w : World} {B : Nat} {v : Value} {F : List (List Iv × List (Int × Int × List Iv))} (h : KnoG w B v F) : ∃ p cap, v = .slice p F.length cap := by
  obtain ⟨fs, h1, h2, _⟩ := h
  obtain ⟨p, cap, e, _⟩ := own_shape h2
  exact ⟨p, cap, by rw [e, h1]⟩
theorem KnoG.call {w w' : World} {B : Nat} {v : Value} {F : List (List Iv × List (Int × Int × List Iv))} (h : KnoG w B v F) (hb : Below w.heap.size w w') : KnoG w' B v F := by
  obtain ⟨fs, h1, h2, h3⟩ := h
  exact ⟨fs, h1, own_below h2 hb, fun i f x hf hx => ⟨(h3 i f x hf hx).1.call hb, (h3 i f x hf hx).2.call hb⟩⟩
theorem KnoG.base {w : World} {B B' : Nat} {v : Value} {F : List (List Iv × List (Int × Int × List Iv))} (h : KnoG w B v F) (hB : B' ≤ B) : KnoG w B' v F := by
  obtain ⟨fs, h1, h2, h3⟩ := h
  exact ⟨fs, h1, own_base h2 hB, h3⟩
theorem frC_snoc (fs : List (Value × Value)) (a b : Value) : frC (fs ++ [(a, b)]) = frC fs ++ [a, b] := by unfold frC; rw [List.flatMap_append]; rfl
theorem KnoG.push {w w2 : World} {B : Nat} {v v2 : Value} {fs : List (Value × Value)} {F : List (List Iv × List (Int × Int × List Iv))} {L : List Iv} {V : List (Int × Int × List Iv)} {s u : Value} (hel : fs.length = F.length)
    (hall : ∀ (i : Nat) (f : Value × Value) (x : List Iv × List (Int × Int × List Iv)), fs[i]? = some f → F[i]? = some x → IvG w v.ownBlock f.1 x.1 ∧ VecG w v.ownBlock f.2 x.2)
    (hrow : w2.ownsRow B 49 2 v2 (fs.length + 1) (frC fs ++ [s, u])) (hg : w.grownBy w2 v.ownBlock) (hat : v2.ownBlock = v.ownBlock ∨ v2.ownBlock = some w.heap.size) (hs : IvG w v.ownBlock s L) (hu : VecG w v.ownBlock u V) : KnoG w2 B v2 (F ++ [(L, V)]) := by
  refine ⟨fs ++ [(s, u)], by rw [List.length_append, List.length_append, hel]; rfl, ?_, fun i f x hf hx => ?_⟩
  · rw [List.length_append, frC_snoc]; exact hrow
  · by_cases hi : i < fs.length
    · rw [List.getElem?_append_left hi] at hf
      rw [List.getElem?_append_left (by omega)] at hx
      obtain ⟨h1, h2⟩ := hall i f x hf hx
      exact ⟨h1.grown hg hat, h2.grown hg hat⟩
    · rw [List.getElem?_append_right (by omega)] at hf
      rw [List.getElem?_append_right (by omega)] at hx
      have h0 : i - fs.length = 0 := by
        have := (List.getElem?_eq_some_iff.1 hf).1
        simpa using this
      have h0' : i - F.length = 0 := by omega
      rw [h0] at hf; rw [h0'] at hx
      obtain rfl : (s, u) = f := by simpa using hf
      obtain rfl : (L, V) = x := by simpa using hx
      exact ⟨hs.grown hg hat, hu.grown hg hat⟩
theorem KnoG.knoAt {w : World} {B : Nat} {t : TypeId} {v : Value} {fs : List (Value × Value)} (h : w.ownsRow B t 2 v fs.length (frC fs)) : KnoAt w v fs := by
  have h3 := h
  rcases h.2 with ⟨rfl, h0⟩ | ⟨g, cap, cur, rfl, hbg, hg, hnc, hcm, _⟩
  · exact ⟨none, 0, by rw [h0], by omega, fun e => absurd (List.eq_nil_of_length_eq_zero h0) e⟩
  · refine ⟨_, cap, rfl, Nat.le_trans hnc hcm, fun _ => ⟨g, 0, rfl, fun i f he => ?_⟩⟩
    have hi := (List.getElem?_eq_some_iff.1 he).1
    obtain ⟨c0, c1⟩ := frC_at fs i f he
    rw [Nat.zero_add]
    exact ⟨by rw [h3.cellAt (i * 2) (by omega)]; exact c0, by rw [h3.cellAt (i * 2 + 1) (by omega)]; exact c1⟩
end Go.Proofs.YtcajknjhkabhjaaGreatDoor

/- The reference of layer 12: Pieces, Apart. Conditions: correct knowledge, small. -/
namespace Go.Proofs.YtcajknjhkabhjaaGreatDoor
open Go.RowKit
theorem cell_two12 (w : World) (x y : Value) (t : TypeId) : ∀ j u, [x, y][j]? = some u → (w.alloc (.cells #[x, y] t)).cell? ((⟨w.heap.size, 0, none⟩ : Addr).add j) = some u := by
  intro j u h
  match j, h with
  | 0, h => simp at h; subst h; simp [Addr.add]
  | 1, h => simp at h; subst h; simp [Addr.add]
theorem pcs_snoc {F : List (List Iv × List (Int × Int × List Iv))} {k : Nat} (h : k < (startsK F).length) : ((pcs (startsK F)).take (k + 1)).filter (fun p => anyF F p.1) = ((pcs (startsK F)).take k).filter (fun p => anyF F p.1) ++ if anyF F ((startsK F).getD k 0) = true then [pieceS UM (startsK F) k] else [] := by
  rw [List.take_add_one, pcs_at _ _ h, List.filter_append]
  simp [List.filter_cons, pieceS]
set_option maxRecDepth 100000 in
set_option maxHeartbeats 8000000 in
theorem refPieces12_any (F : List (List Iv × List (Int × Int × List Iv))) (v : Value) (w : World) (hv : KnoM w v F) (hF : GoodK F) (hs : smallK F) : Calls Tryz.prog 22 #[v] w (IsOwnR (piecesK F) w) := by
  obtain ⟨i0, hi', hz0, hz1, hz2⟩ := info_parts infoIv
  have K := Lib.hid (refStarts12_any F v w hv hF hs)
  obtain ⟨p, cap, rfl⟩ := hv.shape
  have hfle : (flatK F).length ≤ 240 := by
    have h1 := flatK_len (n := 20) F fun x hx => (hs.2 x hx).1
    have := hs.1
    omega
  have hSl := startsK_len F
  have hb64 : ∀ (i : Nat) (x : Int), (startsK F)[i]? = some x → 0 ≤ x ∧ x ≤ 18446744073709551615 := fun i x hx => startsK_top hF x (List.mem_of_getElem? hx)
  have hlo : ∀ (k : Nat) (x : Int), (startsK F)[k + 1]? = some x → 1 ≤ x := fun k x hx => by
    have ha := startsK_asc F
    obtain ⟨h1, e1⟩ := List.getElem?_eq_some_iff.1 hx
    have h2 := List.pairwise_iff_getElem.1 ha k (k + 1) (by omega) h1 (by omega)
    have h3 := hb64 k (startsK F)[k] (by simp [show k < (startsK F).length by omega])
    rw [e1] at h2
    omega
  have HV := Lib.hid hv
  have HB := Lib.hid (And.intro hb64 hlo)
  have HSN := Lib.hid (fun k h => pcs_snoc (F := F) (k := k) h)
  have HPK : Hid ((pcs (startsK F)).filter (fun p => anyF F p.1) = piecesK F) := Lib.hid rfl
  have HPL : Hid (∀ k, (((pcs (startsK F)).take k).filter (fun p => anyF F p.1)).length ≤ 481) := Lib.hid fun k => Nat.le_trans (List.length_filter_le _ _) (by rw [List.length_take, pcs_len]; omega)
  have HLL : Hid ((pcs (startsK F)).length = (startsK F).length) := Lib.hid (pcs_len _)
  have KM := Lib.hid refMembers11_any
  have KP := Lib.hid piece_any
  have hSl2 : (startsK F).length ≤ 481 := by omega
  clear hv hF hs hb64 hlo hSl hfle
  generalize hPC : pcs (startsK F) = PC at *
  clear hPC
  generalize startsK F = SS at *
  go_enter Tryz.func22, Tryz.ntmps22
  go_wp2_with fail
  refine K.out.mono ?_
  rintro e w1 ⟨s, rfl, hos, h⟩
  obtain ⟨ps, cps, rfl, _⟩ := own_shape hos
  have HNM := Lib.hid (hos.nums (by omega))
  have H1 := Lib.hid h; clear hos h
  go_wp2_with fail
  go_loopw [4, 5] (fun u i wr => ∃ k : Nat, i = .int .i64 k ∧ k ≤ SS.length ∧ OwnL wr w1.heap.size u ((PC.take k).filter (fun p => anyF F p.1)) ∧ Below w1.heap.size w1 wr) (fun _ i _ => SS.length - (intOf i).toNat)
  case atStart => exact ⟨0, rfl, Nat.zero_le _, OwnL.nil _ _, Below.refl _ _⟩
  case round =>
    obtain ⟨k, rfl, hk, hown, hb⟩ := hrel
    have HB1 := Lib.hid hb; clear hb
    have HO := Lib.hid hown
    obtain ⟨pu, cu, rfl, _⟩ := own_shape hown
    clear hown
    by_cases hlt : k < SS.length
    · obtain ⟨x, hx⟩ : ∃ x, SS[k]? = some x := ⟨SS[k], by simp [hlt]⟩
      have hxg : SS.getD k 0 = x := by rw [List.getD_eq_getElem?_getD, hx]; rfl
      obtain ⟨b, o, cap', e, c0⟩ := (HNM.out.call HB1.out).elem hx
      cases e
      have hbw := below_call H1.out HB1.out
      have KM1 := Lib.hid (KM.out F (.slice p F.length cap) x wr (HV.out.call hbw))
      have hsn := HSN.out k hlt
      rw [hxg] at hsn
      have hpos := members_pos F x
      have hany : anyF F x = decide (0 < (membersK F x).length) := hpos.symm
      rw [hany] at hsn
      have HS := Lib.hid hsn
      have i1 : (0 : Int) ≤ (k : Int) := by omega
      have i2 : (k : Int) < (SS.length : Int) := by omega
      have HLN := Lib.hid (HPL.out k)
      clear hsn hpos hany hx hxg hbw
      generalize membersK F x = M at *
      generalize (PC.take k).filter (fun p => anyF F p.1) = PP at *
      by_cases hM : 0 < M.length
      · have hd : decide (0 < M.length) = true := decide_eq_true hM
        have HS2 := Lib.hid (HS.out.trans (by rw [if_pos hd]))
        have i3 : (0 : Int) < (M.length : Int) := by omega
        have KP1 := Lib.hid (fun W (hb : Below wr.heap.size wr W) => KP.out SS (.slice (some ⟨b, o, none⟩) SS.length cps) k W ((HNM.out.call HB1.out).call hb) hlt HB.out.1 (HB.out.2 k))
        clear hd HS hM
        go_wp2_with fail
        refine KM1.out.mono ?_
        rintro e w2 ⟨u, rfl, ⟨pm, cm, rfl, _⟩, h⟩
        have HW := Lib.hid h
        have KP2 := Lib.hid (KP1.out w2 h)
        have HO2 := Lib.hid (HO.out.below h)
        clear h c0
        go_wp2_with fail
        refine KP2.out.mono ?_
        rintro e w3 ⟨rfl, h⟩
        have HW3 := Lib.hid (below_call HB1.out (below_call HW.out h))
        have HO3 := Lib.hid (HO2.out.below h)
        clear h
        have HPE : Hid (pieceS 18446744073709551615 SS k = pieceS UM SS k) := Lib.hid rfl
        rw [← HPE.out] at HS2
        generalize pieceS 18446744073709551615 SS k = pc at *
        go_wp2_with (at_builtin; refine wpList_append_own _ rfl _ _ 32 rfl w1.heap.size 35 i0 (.agg #[.int .u64 0, .int .u64 0]) 2 16 Tryz.underlying32 hi' hz0 hz1 hz2 rfl (by decide) _ PP.length (ivC PP) rfl (own_below HO3.out (below_new _ _)) ⟨w3.heap.size, 0, none⟩ 1 1 [.int .u64 pc.1, .int .u64 pc.2] rfl rfl (cell_two12 _ _ _ _) (by simp [Value.oneCell']) (by have := HLN.out; unfold maxLen; omega) (by have := HLN.out; omega) (Nat.le_trans HW3.out.size (below_new _ _).size) ?_; intro v' w4 hown' hgrow _; have HN := Lib.hid (below_new w3 (.cells #[.int .u64 pc.1, .int .u64 pc.2] 35)); have HW4 := Lib.hid (own_grown (below_call HW3.out HN.out) (own_below HO3.out HN.out) hgrow (Nat.le_trans HW3.out.size HN.out.size)); obtain ⟨g', cap4, rfl, _⟩ := own_shape hown'; have HP := Lib.hid hown'; clear hown' hgrow)
        go_roundw
        case rel => exact ⟨k + 1, by go_num, by omega, by
          rw [HS2.out]
          unfold OwnL
          rw [List.length_append, ivC_snoc]
          exact HP.out, HW4.out⟩
        case measure => simp [intOf]; omega
      · have hd : decide (0 < M.length) = false := decide_eq_false hM
        have HS2 := Lib.hid (HS.out.trans (by rw [if_neg (by rw [hd]; simp), List.append_nil]))
        have i3 : ¬ (0 : Int) < (M.length : Int) := by omega
        clear hd HS hM
        go_wp2_with fail
        refine KM1.out.mono ?_
        rintro e w2 ⟨u, rfl, ⟨pm, cm, rfl, _⟩, h⟩
        have HW := Lib.hid (below_call HB1.out h)
        have HO2 := Lib.hid (HO.out.below h)
        clear h c0
        go_wp2_with fail
        go_roundw
        case rel => exact ⟨k + 1, by go_num, by omega, by rw [HS2.out]; exact HO2.out, HW.out⟩
        case measure => simp [intOf]; omega
    · obtain rfl : k = SS.length := by omega
      have h1 := HO.out
      rw [List.take_of_length_le (by rw [HLL.out]; exact Nat.le_refl _), HPK.out] at h1
      have HOO := Lib.hid h1
      rw [List.take_of_length_le (by rw [HLL.out]; exact Nat.le_refl _), HPK.out]
      clear h1 HO
      go_wp2_with fail
      go_ret
      exact ⟨_, rfl, own_base HOO.out H1.out.size, below_call H1.out HB1.out⟩
end Go.Proofs.YtcajknjhkabhjaaGreatDoor
