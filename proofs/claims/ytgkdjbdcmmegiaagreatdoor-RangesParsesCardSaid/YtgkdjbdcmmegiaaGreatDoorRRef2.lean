/- Put and Normal of the reference. Conditions: the intervals are right, their ends numbers of 64 bits, at most 1048576 of them. -/
import Derived.Test.YtgkdjbdcmmegiaaGreatDoorRStarts
import Derived.Test.YtgkdjbdcmmegiaaGreatDoorRIv
namespace Go.Proofs.YtgkdjbdcmmegiaaGreatDoor
open Go.RowKit

theorem put_any (L : List Iv) (x : Iv) (v : Value) (B : Nat) (w : World) (hown : OwnL w B v L) (hB : B ≤ w.heap.size) (hlen : L.length ≤ 4194304) (h64 : All64 L) (hx : In64 x) :
    Calls Tryz.prog 39 #[v, .agg #[.int .u64 x.1, .int .u64 x.2]] w (PutEnd B (putL L x) w) := by
  obtain ⟨x1, x2⟩ := x
  by_cases hL : L = []
  · subst hL
    exact put_nil v B x1 x2 w hown hB
  · obtain ⟨m, y, rfl⟩ := snoc_of hL
    have hm : m.length ≤ 4194304 := by simp at hlen; omega
    by_cases hn : y.2 + 1 = x1
    · rw [putL_near m y (x1, x2) hn]
      exact put_near m y v B x1 x2 w hown hB hm (h64 y (by simp)) hx hn
    · rw [putL_far m y (x1, x2) hn]
      exact put_far m y v B x1 x2 w hown hB hm (h64 y (by simp)) hx hn

theorem UU_eq : (18446744073709551615 : Int) = UU := rfl
theorem starts_in {l : List Iv} (h64 : All64 l) {x : Int} (hx : x ∈ startsL UU l) : 0 ≤ x ∧ x ≤ UU := by
  rcases (starts_mem UU l x).1 hx with rfl | ⟨z, hz, rfl | ⟨h, rfl⟩⟩
  · exact ⟨by omega, by decide⟩
  · exact (h64 z hz).1
  · exact ⟨by have := (h64 z hz).2.1; omega, by omega⟩
theorem piece_in {l : List Iv} (h64 : All64 l) (k : Nat) (hk : k < (startsL UU l).length) : In64 (pieceS UU (startsL UU l) k) := by
  have ha := starts_asc UU l
  have hU : ∀ y ∈ startsL UU l, y ≤ UU := fun y hy => (starts_in h64 hy).2
  have h1 := starts_lt ha hU k hk
  have e : (startsL UU l).getD k 0 = (startsL UU l)[k] := by simp [hk]
  have h2 := starts_in h64 (List.getElem_mem hk)
  have h3 : boundS UU (startsL UU l) (k + 1) ≤ UU + 1 := by
    unfold boundS
    split
    · rename_i y hy
      have := hU y (List.mem_of_getElem? hy); omega
    · omega
  unfold pieceS
  rw [e] at h1 ⊢
  refine ⟨h2, ?_⟩
  show 0 ≤ boundS UU (startsL UU l) (k + 1) - 1 ∧ boundS UU (startsL UU l) (k + 1) - 1 ≤ UU
  omega
theorem put64 {L : List Iv} {s : Iv} (h : All64 L) (hs : In64 s) : All64 (putL L s) := by
  by_cases e : L = []
  · subst e; intro x hx; rw [putL_nil] at hx; rw [List.mem_singleton.1 hx]; exact hs
  · obtain ⟨m, y, rfl⟩ := snoc_of e
    have hy := h y (by simp)
    by_cases hf : y.2 + 1 = s.1
    · rw [putL_near _ _ _ hf]
      intro x hx
      rcases List.mem_append.1 hx with hx | hx
      · exact h x (by simp [hx])
      · rw [List.mem_singleton.1 hx]; exact ⟨hy.1, hs.2⟩
    · rw [putL_far _ _ _ hf]
      intro x hx
      rcases List.mem_append.1 hx with hx | hx
      · exact h x hx
      · rw [List.mem_singleton.1 hx]; exact hs
theorem put_len (L : List Iv) (s : Iv) : (putL L s).length ≤ L.length + 1 := by
  by_cases h : L = []
  · subst h; simp [putL]
  · obtain ⟨m, y, rfl⟩ := snoc_of h
    by_cases hf : y.2 + 1 = s.1
    · rw [putL_near _ _ _ hf]; simp
    · rw [putL_far _ _ _ hf]; simp
theorem go_facts {l : List Iv} (h64 : All64 l) : ∀ k, k ≤ (startsL UU l).length → All64 (refGo UU l (startsL UU l) k) ∧ (refGo UU l (startsL UU l) k).length ≤ k := by
  intro k
  induction k with
  | zero => intro _; exact ⟨fun x hx => by simp [refGo] at hx, by simp [refGo]⟩
  | succ k ih =>
    intro hk
    have ih := ih (by omega)
    unfold refGo
    split
    · have := put_len (refGo UU l (startsL UU l) k) (pieceS UU (startsL UU l) k)
      exact ⟨put64 ih.1 (piece_in h64 k (by omega)), by omega⟩
    · exact ⟨ih.1, by omega⟩

def IsOwnR (L : List Iv) (w : World) (e : Ending) (w' : World) : Prop := ∃ v, e = .returned v ∧ OwnL w' w.heap.size v L ∧ Below w.heap.size w w'
theorem hasLR (l : List Iv) (s : Value) (x : Int) (r : Bool) (w : World) (hl : IvsAt w s l) (h : hasL l x = r) :
    Calls Tryz.prog 21 #[s, .int .u64 x] w (IsEnd r w) := by
  subst h; exact refHasL_any l s x w hl

set_option maxRecDepth 100000 in
set_option maxHeartbeats 4000000 in
theorem refNormal_any (l : List Iv) (s : Value) (w : World) (hl : IvsAt w s l) (h64 : All64 l) (ho : ∀ y ∈ l, y.1 ≤ y.2) :
    Calls Tryz.prog 17 #[s] w (IsOwnR (normL l) w) := by
  obtain ⟨p, cap, rfl, hlen⟩ := hl.shape
  have hnorm := ref_norm (U := UU) (l := l) (fun y hy => ⟨(h64 y hy).1.1, ho y hy, (h64 y hy).2.2⟩) (by decide)
  have hsl := starts_len UU l
  have hfacts := fun k hk => go_facts h64 k hk
  have hpin := fun k hk => piece_in h64 k hk
  have hsin := fun (i : Nat) (x : Int) (h : (startsL UU l)[i]? = some x) => starts_in h64 (List.mem_of_getElem? h)
  have hlo : ∀ (k : Nat) (x : Int), (startsL UU l)[k + 1]? = some x → 1 ≤ x := by
    intro k x hx
    have ha := starts_asc UU l
    have hlt := (List.getElem?_eq_some_iff.1 hx).1
    have h1 : (startsL UU l)[0] < (startsL UU l)[k + 1] := (List.pairwise_iff_getElem.1 ha) 0 (k + 1) (by omega) hlt (by omega)
    have h2 := (hsin 0 _ (show (startsL UU l)[0]? = some (startsL UU l)[0] by simp [show 0 < (startsL UU l).length by omega])).1
    have h3 := (List.getElem?_eq_some_iff.1 hx).2
    omega
  have I := Lib.hid hl
  have KS := Lib.hid (fun bl w h hb => starts_any l (.slice p l.length cap) bl w h h64 hb)
  have KH := Lib.hid hasLR
  have KP := Lib.hid piece_any
  have KU := Lib.hid put_any
  have hstep : ∀ k, refGo UU l (startsL UU l) (k + 1) = if hasL l ((startsL UU l).getD k 0) then putL (refGo UU l (startsL UU l) k) (pieceS UU (startsL UU l) k) else refGo UU l (startsL UU l) k := fun k => rfl
  generalize startsL UU l = S at *
  have HNorm := Lib.hid hnorm
  have HF := Lib.hid hfacts
  have HPin := Lib.hid hpin
  have HSin := Lib.hid hsin
  have HLo := Lib.hid hlo
  have HStep := Lib.hid hstep
  clear hl h64 ho hnorm hfacts hpin hsin hlo hstep
  go_enter Tryz.func17, Tryz.ntmps17
  go_wp2_with fail
  refine (KS.out w.heap.size _ (I.out.call (below_new _ _)) (by simp)).mono ?_
  rintro e w1 ⟨v, rfl, hv, hb1⟩
  have HB1 := Lib.hid (below_call (below_new w _) hb1); clear hb1
  have HN := Lib.hid (hv.nums (by omega))
  obtain ⟨ps, cs, rfl, _⟩ := own_shape hv
  clear hv
  go_wp2_with fail
  go_loopw [4, 5] (fun v i wr => ∃ k : Nat, k ≤ S.length ∧ i = .int .i64 k ∧ OwnL wr w1.heap.size v (refGo UU l S k) ∧ Below w1.heap.size w1 wr) (fun _ i _ => S.length - (intOf i).toNat)
  case atStart => exact ⟨0, Nat.zero_le _, rfl, OwnL.nil _ _, Below.refl _ _⟩
  case round =>
    obtain ⟨k, hk, rfl, hown, hb⟩ := hrel
    have HB := Lib.hid hb; clear hb
    by_cases hlt : k < S.length
    · obtain ⟨x, hx⟩ : ∃ x, S[k]? = some x := ⟨S[k], by simp [hlt]⟩
      obtain ⟨bs, os, cs', e0, c0⟩ := (HN.out.call HB.out).elem hx
      cases e0
      have hgd : S.getD k 0 = x := by rw [List.getD_eq_getElem?_getD, hx]; rfl
      have hst := HStep.out k
      rw [hgd] at hst
      have hf := HF.out k hk
      have hp := HPin.out k hlt
      have KPx := Lib.hid (fun w h => KP.out S (.slice (some ⟨bs, os, none⟩) S.length cs) k w h hlt (fun i x h => HSin.out i x h) (fun x h => HLo.out k x h))
      clear hx hgd
      rw [UU_eq] at KPx
      generalize hL : refGo UU l S k = L at *
      generalize hP : pieceS UU S k = P at *
      obtain ⟨pv, cv, rfl, _⟩ := own_shape hown
      have HOW := Lib.hid hown
      obtain ⟨r, hr⟩ : ∃ r, hasL l x = r := ⟨_, rfl⟩
      have KX := Lib.hid (KH.out l (.slice p l.length cap) x r _ (I.out.call (HB1.out.trans (HB.out.mono HB1.out.size))) hr)
      rw [hr] at hst
      have HST := Lib.hid hst
      have hj0 : (0 : Int) ≤ (k : Int) := by omega
      have hj1 : (k : Int) < (S.length : Int) := by omega
      clear hst hr hown hL hP
      cases r with
      | false =>
        go_wp2_with fail
        refine KX.out.mono ?_
        rintro e w2 ⟨rfl, h2⟩
        have HO2 := Lib.hid (HOW.out.below h2)
        have HB2 := Lib.hid (HB.out.trans (h2.mono HB.out.size))
        clear h2
        go_wp2_with fail
        go_roundw
        case rel => exact ⟨k + 1, by omega, by go_num, by rw [HST.out]; exact HO2.out, HB2.out⟩
        case measure => simp [intOf]; omega
      | true =>
        go_wp2_with fail
        refine KX.out.mono ?_
        rintro e w2 ⟨rfl, h2⟩
        have HO2 := Lib.hid (HOW.out.below h2)
        have HB2 := Lib.hid (HB.out.trans (h2.mono HB.out.size))
        clear h2 c0
        have KPy := Lib.hid (KPx.out w2 (HN.out.call HB2.out))
        clear KPx
        go_wp2_with fail
        refine KPy.out.mono ?_
        rintro e w3 ⟨rfl, h3⟩
        have HB3 := Lib.hid (HB2.out.trans (h3.mono HB2.out.size))
        have KUx := Lib.hid (KU.out L P _ w1.heap.size w3 (HO2.out.below h3) HB3.out.size (by omega) hf.1 hp)
        clear h3
        go_wp2_with fail
        refine KUx.out.mono ?_
        rintro e w4 ⟨v4, rfl, hv4, h4⟩
        have HB4 := Lib.hid (HB3.out.trans h4); clear h4
        obtain ⟨pv4, cv4, rfl, _⟩ := own_shape hv4
        have HV4 := Lib.hid hv4; clear hv4
        go_wp2_with fail
        go_roundw
        case rel => exact ⟨k + 1, by omega, by go_num, by rw [HST.out]; exact HV4.out, HB4.out⟩
        case measure => simp [intOf]; omega
    · obtain rfl : k = S.length := by omega
      obtain ⟨pv, cv, rfl, _⟩ := own_shape hown
      have HOW := Lib.hid hown; clear hown
      go_wp2_with fail
      go_ret
      exact ⟨_, rfl, by rw [← HNorm.out]; exact own_base HOW.out HB1.out.size, HB1.out.trans (HB.out.mono HB1.out.size)⟩
end Go.Proofs.YtgkdjbdcmmegiaaGreatDoor
