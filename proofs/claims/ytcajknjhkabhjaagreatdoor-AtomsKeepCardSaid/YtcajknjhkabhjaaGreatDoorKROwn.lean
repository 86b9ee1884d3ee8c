/- Slices that a call has made itself: of intervals. No conditions. -/
import Derived.Test.YtcajknjhkabhjaaGreatDoorKRIv
import Derived.Laws.OwnMore
import Derived.OwnWalk
import Derived.RangeFuncBox
import Derived.Maps.AppendAt
import Derived.Deep.DrawnRows
namespace Go.Proofs.YtcajknjhkabhjaaGreatDoor
open Go.RowKit
def ivC (l : List Iv) : List Value := l.flatMap fun x => [.int .u64 x.1, .int .u64 x.2]
theorem ivC_snoc (l : List Iv) (x : Iv) : ivC (l ++ [x]) = ivC l ++ [.int .u64 x.1, .int .u64 x.2] := by simp [ivC]
theorem ivC_len (l : List Iv) : (ivC l).length = l.length * 2 := by
 induction l with
 | nil => rfl
 | cons x l ih => rw [show ivC (x :: l) = [.int .u64 x.1, .int .u64 x.2] ++ ivC l from rfl, List.length_append, ih]; simp; omega
theorem infoIv : (Tryz.prog.info? 35).map (fun i => (i.zero, i.size, i.bytes)) = some (some (.agg #[.int .u64 0, .int .u64 0]), 2, 16) := by kernel_rfl
theorem grown_of_below {W W' : World} (h : Below W.heap.size W W') (row : Option Nat) : W.grownBy W' row := by
 obtain ⟨h1, h2, h3, h4, h5⟩ := h
 exact ⟨h1, h2, h3, h4, fun k hk _ => h5 k hk⟩
section
variable {e : TypeId} {size : Nat}
theorem own_below {W W' : World} {B : Nat} {v : Value} {n : Nat} {xs : List Value} (h : W.ownsRow B e size v n xs) (hb : Below W.heap.size W W') : W'.ownsRow B e size v n xs := by
 cases hv : v.ownBlock with
 | none => exact h.kept (grown_of_below hb none) (.inl hv)
 | some g => exact h.kept (grown_of_below hb none) (.inr (by rw [hv]; simp))
theorem own_base {W : World} {B B' : Nat} {v : Value} {k : Nat} {xs : List Value} (h : W.ownsRow B e size v k xs) (hb : B' ≤ B) : W.ownsRow B' e size v k xs := by
 obtain ⟨h1, h2⟩ := h
 refine ⟨h1, ?_⟩
 rcases h2 with h2 | ⟨g, cap, cur, a, b, c⟩
 ·exact .inl h2
 ·exact .inr ⟨g, cap, cur, a, Nat.le_trans hb b, c⟩
theorem own_shape {W : World} {B : Nat} {v : Value} {n : Nat} {xs : List Value} (h : W.ownsRow B e size v n xs) : ∃ p cap, v = .slice p n cap ∧ n ≤ maxLen := by
 rcases h.2 with ⟨rfl, rfl⟩ | ⟨g, cap, cur, rfl, _, _, h3, h4, _⟩
 ·exact ⟨none, 0, rfl, Nat.zero_le _⟩
 ·exact ⟨_, cap, rfl, Nat.le_trans h3 h4⟩
theorem own_grown {w W w1 : World} {B k : Nat} {v : Value} {xs : List Value} (hB : Below B w W) (hrow : W.ownsRow B e size v k xs) (hgrow : W.grownBy w1 v.ownBlock) (hs : B ≤ W.heap.size) : Below B w w1 := by
 refine hB.grown hgrow hs (fun j e' => ?_)
 exact (hrow.lt j e').1
end
theorem cell_one_at (w : World) (x : Value) (t : TypeId) (k : Nat) (hk : k = w.heap.size) : ∀ j u, [x][j]? = some u → (w.alloc (.cells #[x] t)).cell? ((⟨k, 0, none⟩ : Addr).add j) = some u := by
 subst hk; exact cell_one_new w x t
theorem cell_two_at (w : World) (x y : Value) (t : TypeId) (k : Nat) (hk : k = w.heap.size) : ∀ j u, [x, y][j]? = some u → (w.alloc (.cells #[x, y] t)).cell? ((⟨k, 0, none⟩ : Addr).add j) = some u := by
 subst hk
 intro j u h
 match j, h with
 | 0, h => simp at h; subst h; simp [Addr.add]
 | 1, h => simp at h; subst h; simp [Addr.add]
 | j + 2, h => simp at h
def OwnL (W : World) (B : Nat) (v : Value) (L : List Iv) : Prop := W.ownsRow B 35 2 v L.length (ivC L)
theorem OwnL.below {W W' : World} {B : Nat} {v : Value} {L : List Iv} (h : OwnL W B v L) (hb : Below W.heap.size W W') : OwnL W' B v L := own_below h hb
theorem OwnL.ivs {W : World} {B : Nat} {v : Value} {L : List Iv} (h : OwnL W B v L) (hl : L.length ≤ 1048576) : IvsAt W v L := ivs_of_own h hl
theorem OwnL.row {W : World} {B : Nat} {v : Value} {m : List Iv} {y : Iv} (h : OwnL W B v (m ++ [y])) : W.ownsRow B 35 2 v (m.length + 1) (ivC (m ++ [y])) := by
 unfold OwnL at h
 rwa [List.length_append, List.length_singleton] at h
theorem OwnL.nil (W : World) (B : Nat) : OwnL W B (.slice none 0 0) [] := World.ownsRow_nil _ _ _ _
theorem OwnL.last {W : World} {B : Nat} {v : Value} {m : List Iv} {y : Iv} (h : OwnL W B v (m ++ [y])) :
 ∃ g cap, v = .slice (some ⟨g, 0, none⟩) (m.length + 1) cap ∧ W.cell? ⟨g, m.length * 2, none⟩ = some (.int .u64 y.1) ∧ W.cell? ⟨g, m.length * 2 + 1, none⟩ = some (.int .u64 y.2) ∧
  W.frozen? ⟨g, m.length * 2, none⟩ = false ∧ W.frozen? ⟨g, m.length * 2 + 1, none⟩ = false ∧ B ≤ g ∧ g < W.heap.size := by
 unfold OwnL at h
 rw [List.length_append, List.length_singleton] at h
 obtain ⟨g, cap, rfl⟩ := ownsRow_succ h
 have hlen := ivC_len m
 obtain ⟨l1, l2⟩ := h.lt g rfl
 refine ⟨g, cap, rfl, ?_, ?_, h.frozenAt _, h.frozenAt _, l1, l2⟩
 ·rw [h.cellAt _ (by omega), ivC_snoc, List.getElem?_append_right (by omega), hlen]; simp
 ·rw [h.cellAt _ (by omega), ivC_snoc, List.getElem?_append_right (by omega), hlen]; simp
theorem set_mid {α : Type} (a : List α) (x u : α) (k : Nat) (r : List α) (hk : k = a.length) : (a ++ x :: r).set k u = a ++ u :: r := by
 subst hk; rw [List.set_append_right _ _ (Nat.le_refl _)]; simp
theorem OwnL.setLast {W : World} {B g cap : Nat} {m : List Iv} {y : Iv} (u : Iv) (h : OwnL W B (.slice (some ⟨g, 0, none⟩) (m.length + 1) cap) (m ++ [y])) :
 OwnL ((W.setCell ⟨g, m.length * 2, none⟩ (.int .u64 u.1)).setCell ⟨g, m.length * 2 + 1, none⟩ (.int .u64 u.2)) B (.slice (some ⟨g, 0, none⟩) (m.length + 1) cap) (m ++ [u]) := by
 unfold OwnL at *
 rw [List.length_append, List.length_singleton] at *
 have h1 := (h.stored (m.length * 2) (.int .u64 u.1)).1
 have h2 := (h1.stored (m.length * 2 + 1) (.int .u64 u.2)).1
 rw [ivC_snoc] at h2 ⊢
 rw [set_mid _ _ _ _ _ (ivC_len m).symm] at h2
 rw [show ivC m ++ [Value.int .u64 u.1, .int .u64 y.2] = (ivC m ++ [.int .u64 u.1]) ++ [.int .u64 y.2] by simp, set_mid _ _ _ _ _ (by simp [ivC_len])] at h2
 simpa using h2
theorem len_mstep (L : List Iv) (s : Iv) : (mstep L s).length ≤ L.length + 1 := by
 by_cases h : L = []
 ·subst h; simp [mstep]
 ·obtain ⟨m, y, rfl⟩ := snoc_of h
  by_cases hf : y.2 + 1 < s.1
  ·rw [mstep_far _ _ _ hf]; simp
  ·rw [mstep_near _ _ _ hf]; simp
theorem len_merge : ∀ (n : Nat) (l : List Iv), l.length = n → (mergeL l).length ≤ n := by
 intro n
 induction n with
 | zero => intro l h; rw [List.eq_nil_of_length_eq_zero h]; simp [mergeL]
 | succ n ih =>
   intro l h
   obtain ⟨m, s, rfl⟩ := snoc_of (l := l) (by intro e; subst e; cases h)
   rw [mergeL_snoc]
   have := len_mstep (mergeL m) s
   have := ih m (by simpa using h)
   omega
theorem in64_step {L : List Iv} {s : Iv} (h : All64 L) (hs : In64 s) : All64 (mstep L s) := by
 by_cases e : L = []
 ·subst e; intro x hx; rw [mstep_nil] at hx; rw [List.mem_singleton.1 hx]; exact hs
 ·obtain ⟨m, y, rfl⟩ := snoc_of e
  have hy := h y (by simp)
  by_cases hf : y.2 + 1 < s.1
  ·rw [mstep_far _ _ _ hf]
   intro x hx
   rcases List.mem_append.1 hx with hx | hx
   ·exact h x hx
   ·rw [List.mem_singleton.1 hx]; exact hs
  ·rw [mstep_near _ _ _ hf]
   intro x hx
   rcases List.mem_append.1 hx with hx | hx
   ·exact h x (by simp [hx])
   ·rw [List.mem_singleton.1 hx]
    refine ⟨hy.1, ?_⟩
    show 0 ≤ (if y.2 < s.2 then s.2 else y.2) ∧ (if y.2 < s.2 then s.2 else y.2) ≤ _
    split
    ·exact hs.2
    ·exact hy.2
theorem in64_merge : ∀ (n : Nat) (l : List Iv), l.length = n → All64 l → All64 (mergeL l) := by
 intro n
 induction n with
 | zero => intro l h _; rw [List.eq_nil_of_length_eq_zero h]; intro x hx; simp [mergeL] at hx
 | succ n ih =>
   intro l h ha
   obtain ⟨m, s, rfl⟩ := snoc_of (l := l) (by intro e; subst e; cases h)
   rw [mergeL_snoc]
   exact in64_step (ih m (by simpa using h) fun x hx => ha x (by simp [hx])) (ha s (by simp))
theorem take_snoc {l : List Iv} {k : Nat} {x : Iv} (h : l[k]? = some x) : l.take (k + 1) = l.take k ++ [x] := by rw [List.take_add_one, h]; rfl
theorem merge_next {l : List Iv} {k : Nat} {x : Iv} (h : l[k]? = some x) (hs : sortedL l) (ho : ∀ y ∈ l, y.1 ≤ y.2) {m : List Iv} {y : Iv} (hm : mergeL (l.take k) = m ++ [y]) : y.1 ≤ x.1 ∧ y.1 ≤ y.2 := by
 have hk : k < l.length := (List.getElem?_eq_some_iff.1 h).1
 have hs' : sortedL (l.take (k + 1)) := hs.sublist (List.take_sublist _ _)
 rw [take_snoc h] at hs'
 have hp := List.pairwise_append.1 hs'
 have hi := merge_inv _ (l.take k) rfl hp.1 (fun y hy => ho y (List.mem_of_mem_take hy))
 rw [hm] at hi
 obtain ⟨z, hz, e⟩ := hi.lo y (by simp)
 have := hp.2.2 z hz x (by simp)
 exact ⟨by omega, canon_ok _ hi.can y (by simp)⟩
theorem ivC_at (l : List Iv) (i : Nat) (x : Iv) (h : l[i]? = some x) : (ivC l)[i * 2]? = some (.int .u64 x.1) ∧ (ivC l)[i * 2 + 1]? = some (.int .u64 x.2) := flat_two l i x h
theorem ivC_one (l : List Iv) : ∀ v ∈ ivC l, v.oneCell' = true := by
 intro v hv
 unfold ivC at hv
 rw [List.mem_flatMap] at hv
 obtain ⟨x, _, hx⟩ := hv
 simp at hx
 rcases hx with rfl | rfl <;> rfl
theorem ivs_cells {w : World} {b o n cap : Nat} {l : List Iv} (h : IvsAt w (.slice (some ⟨b, o, none⟩) n cap) l) : ∀ j v, (ivC l)[j]? = some v → w.cell? ((⟨b, o, none⟩ : Addr).add j) = some v := by
 intro j v hv
 have hj : j < l.length * 2 := by rw [← ivC_len]; exact (List.getElem?_eq_some_iff.1 hv).1
 have hx : l[j / 2]? = some l[j / 2] := by simp [show j / 2 < l.length by omega]
 have hc := h.cells hx
 have hf := ivC_at l _ _ hx
 rw [Addr.add_lit]
 rcases Nat.mod_two_eq_zero_or_one j with h0 | h0
 ·have ej : j / 2 * 2 = j := by omega
  rw [ej] at hc hf
  rw [hf.1] at hv; cases hv; exact hc.1
 ·have ej : j / 2 * 2 + 1 = j := by omega
  rw [ej] at hf
  rw [hf.2] at hv; cases hv
  rw [show o + j = o + j / 2 * 2 + 1 by omega]; exact hc.2
end Go.Proofs.YtcajknjhkabhjaaGreatDoor
namespace Go.Proofs.YtcajknjhkabhjaaGreatDoor
open Go.RowKit
attribute [local go_sem ↓] Go.wp_at_zero Go.wp_at_succ
theorem keep_own {W w1 w2 : World} {p q r t : Addr} {a b c d v : Value} {L : List Iv}
 (h : Below W.heap.size W w1 ∧ w1.cell? p = some a ∧ w1.cell? q = some b ∧ w1.cell? r = some c ∧ w1.cell? t = some d ∧ OwnL w1 W.heap.size v L) (hb : Hid (Below w1.heap.size w1 w2)) :
 Below W.heap.size W w2 ∧ w2.cell? p = some a ∧ w2.cell? q = some b ∧ w2.cell? r = some c ∧ w2.cell? t = some d ∧ OwnL w2 W.heap.size v L :=
 ⟨below_call h.1 hb.out, keep_cell h.2.1 hb.out, keep_cell h.2.2.1 hb.out, keep_cell h.2.2.2.1 hb.out, keep_cell h.2.2.2.2.1 hb.out, h.2.2.2.2.2.below hb.out⟩
theorem keep_own_drew {W w1 : World} {p q r t : Addr} {a b c d v : Value} {L : List Iv}
 (h : Below W.heap.size W w1 ∧ w1.cell? p = some a ∧ w1.cell? q = some b ∧ w1.cell? r = some c ∧ w1.cell? t = some d ∧ OwnL w1 W.heap.size v L) :
 Below W.heap.size W w1.drew ∧ w1.drew.cell? p = some a ∧ w1.drew.cell? q = some b ∧ w1.drew.cell? r = some c ∧ w1.drew.cell? t = some d ∧ OwnL w1.drew W.heap.size v L := keep_own h (Below.refl _ _).drew
def IsOwn (L : List Iv) (w : World) (e : Ending) (w' : World) : Prop := ∃ v, e = .returned v ∧ OwnL w' w.heap.size v L ∧ Below w.heap.size w w'
theorem rel_not_zero {a b c d : Int} (h : ¬ b + 1 < c) (h1 : a ≤ c) (h2 : c ≤ d) : relN a b c d ≠ 0 ∧ relN a b c d ≠ 4 := by
 refine ⟨fun e => h ((relN_zero a b c d).1 e), fun e => ?_⟩
 unfold relN at e
 split at e
 ·omega
 ·split at e
  ·omega
  ·split at e
   ·omega
   ·split at e <;> omega
set_option maxRecDepth 100000 in
set_option maxHeartbeats 4000000 in
theorem merge_any (l : List Iv) (s : Value) (w : World) (hl : IvsAt w s l) (h64 : All64 l) (hs : sortedL l) (ho : ∀ y ∈ l, y.1 ≤ y.2) :
 Calls Tryz.prog 156 #[s] w (IsOwn (mergeL l) w) := by
 obtain ⟨i0, hi', hz0, hz1, hz2⟩ := info_parts infoIv
 obtain ⟨p, cap, rfl, hlen⟩ := hl.shape
 have I := Lib.hid hl; clear hl
 have KR := Lib.hid relate_any
 have KJ := Lib.hid join_yes
 have HS := Lib.hid hs; clear hs
 have HO := Lib.hid ho; clear ho
 have H64 := Lib.hid h64; clear h64
 go_enter Tryz.func156, Tryz.ntmps156
 go_wp2_with fail
 go_loopw [3, 9] (fun v i wr => ∃ k : Nat, k ≤ l.length ∧ i = .int .i64 k ∧ OwnL wr w.heap.size v (mergeL (l.take k)) ∧ Below w.heap.size w wr) (fun _ i _ => l.length - (intOf i).toNat)
 case atStart => exact ⟨0, Nat.zero_le _, rfl, OwnL.nil _ _, Below.refl _ _⟩
 case round =>
  obtain ⟨k, hk, rfl, hown, hb⟩ := hrel
  have HB := Lib.hid hb; clear hb
  by_cases hlt : k < l.length
  ·obtain ⟨x, hx⟩ : ∃ x, l[k]? = some x := ⟨l[k], by simp [hlt]⟩
   obtain ⟨b0, o0, cap0, e0, z0, z1⟩ := (I.out.call HB.out).elem hx
   cases e0
   have hL1 : (mergeL (l.take k)).length ≤ 1048576 := by have := len_merge _ (l.take k) rfl; simp at this; omega
   have HN := Lib.hid (show mergeL (l.take (k + 1)) = mstep (mergeL (l.take k)) x by rw [take_snoc hx, mergeL_snoc])
   have hx64 := H64.out.at hx
   have hm64 := in64_merge _ (l.take k) rfl (fun z hz => H64.out z (List.mem_of_mem_take hz))
   have HM := Lib.hid (fun m y => merge_next (m := m) (y := y) hx HS.out HO.out)
   have hxo := HO.out x (List.mem_of_getElem? hx)
   clear hx
   generalize mergeL (l.take k) = L at *
   obtain ⟨x1, x2⟩ := x
   have hBn := (below_alloc HB.out (.cells #[.int .u64 x1, .int .u64 x2] 35))
   have HBn := Lib.hid hBn
   have hsz0 : w.heap.size ≤ wr.heap.size := HB.out.size
   by_cases hL : L = []
   ·subst hL
    obtain ⟨pv, cv, rfl, _⟩ := own_shape hown
    have hown2 := Lib.hid (hown.below (below_new wr (.cells #[.int .u64 x1, .int .u64 x2] 35)))
    clear hown hm64 hx64 HM hL1
    go_wp2_with fail
    go_quiet (fail)
    obtain ⟨wq, hwq⟩ : ∃ wq, (wr.alloc (.cells #[.int .u64 x1, .int .u64 x2] 35)).drewN nq = wq := ⟨_, rfl⟩
    have hq : Below w.heap.size w wq := hwq ▸ below_drewN HBn.out _
    have hown3 : OwnL wq w.heap.size (.slice pv 0 cv) [] := hwq ▸ hown2.out.below (below_drewN (Below.refl _ _) _)
    have q0 : wq.cell? ⟨wr.heap.size, 0, none⟩ = some (.int .u64 x1) := by rw [← hwq]; simp
    have q1 : wq.cell? ⟨wr.heap.size, 1, none⟩ = some (.int .u64 x2) := by rw [← hwq]; simp
    rw [hwq]
    clear hwq
    have HQ := Lib.hid hq; clear hq
    have HO3 := Lib.hid hown3; clear hown3
    go_wp2_with (at_builtin; refine wpList_append_own _ rfl _ _ 32 rfl w.heap.size 35 i0 (.agg #[.int .u64 0, .int .u64 0]) 2 16 Tryz.underlying32 hi' hz0 hz1 hz2 rfl (by decide) _ _ _ rfl (HO3.out.below (below_new _ _)) ⟨wq.heap.size, 0, none⟩ 1 1 [.int .u64 x1, .int .u64 x2] rfl rfl (cell_two_at _ _ _ _ _ rfl) (by simp [Value.oneCell']) (by unfold maxLen; simp) (by simp) (by have := HQ.out.size; simp; omega) ?_; intro v' w1 hown' hgrow _; obtain ⟨g', cap', rfl⟩ := ownsRow_succ hown'; have HO4 := Lib.hid hown'; clear hown'; have HW := Lib.hid (own_grown (below_alloc HQ.out _) (HO3.out.below (below_new _ _)) hgrow (by have := HQ.out.size; simp; omega)); clear hgrow)
    go_roundw
    case rel => exact ⟨k + 1, by omega, by go_num, by rw [HN.out, mstep_nil]; exact HO4.out, HW.out⟩
    case measure => simp [intOf]; omega
   ·obtain ⟨m, y, rfl⟩ := snoc_of hL
    obtain ⟨hyx, hyo⟩ := HM.out m y rfl
    have hy64 := hm64 y (by simp)
    rw [List.length_append, List.length_singleton] at hL1
    have hr0 : ¬ y.2 + 1 < x1 → relN y.1 y.2 x1 x2 ≠ 0 ∧ relN y.1 y.2 x1 x2 ≠ 4 := fun h => rel_not_zero h hyx hxo
    have hrz := relN_zero y.1 y.2 x1 x2
    have KX := Lib.hid (fun w => KR.out y.1 y.2 x1 x2 w hy64.2.1 hx64.1.2 hx64.2.1 hy64.1.2)
    obtain ⟨r, hr⟩ : ∃ r, relN y.1 y.2 x1 x2 = r := ⟨_, rfl⟩
    have hlo : (if x1 < y.1 then x1 else y.1) = y.1 := if_neg (by omega)
    obtain ⟨hi, hhi⟩ : ∃ hi, (if y.2 < x2 then x2 else y.2) = hi := ⟨_, rfl⟩
    have KJ2 := Lib.hid (fun w h => KJ.out y.1 y.2 x1 x2 y.1 hi w hlo hhi hy64.2.1 hx64.1.2 hx64.2.1 hy64.1.2 (hr0 h).1 (hr0 h).2)
    have HN2 : ¬ y.2 + 1 < x1 → mstep (m ++ [y]) (x1, x2) = m ++ [(y.1, hi)] := fun h => by rw [mstep_near _ _ _ h, hhi]
    have HN3 : y.2 + 1 < x1 → mstep (m ++ [y]) (x1, x2) = m ++ [y] ++ [(x1, x2)] := fun h => mstep_far _ _ _ h
    have HN2' := Lib.hid HN2; clear HN2
    have HN3' := Lib.hid HN3; clear HN3
    rw [hr] at KX hrz
    have HRZ := Lib.hid hrz; clear hrz
    clear hL hyx hyo hy64 hr0 hr hlo hhi hm64 hx64 HM hxo
    have hown1 := hown.below (below_new wr (.cells #[.int .u64 x1, .int .u64 x2] 35))
    obtain ⟨g, cap', rfl, y0, y1, _, _, hg1, hg2⟩ := hown1.last
    have hlit : (m ++ [y]).length = m.length + 1 := by simp
    have HOW := Lib.hid hown1; clear hown1 hown
    have hm0 : (0 : Int) ≤ (m.length : Int) := by omega
    have hm1 : (m.length : Int) < (m.length : Int) + 1 := by omega
    have hw2 : IntKind.i64.wrap (m.length : Int) = (m.length : Int) := IntWalk.i64_in _ (by omega)
    obtain ⟨yl, yh⟩ := y
    dsimp only at y0 y1
    have hs : Below w.heap.size w (wr.alloc (.cells #[.int .u64 x1, .int .u64 x2] 35)) ∧ (wr.alloc (.cells #[.int .u64 x1, .int .u64 x2] 35)).cell? ⟨g, m.length * 2, none⟩ = some (.int .u64 yl) ∧ (wr.alloc (.cells #[.int .u64 x1, .int .u64 x2] 35)).cell? ⟨g, m.length * 2 + 1, none⟩ = some (.int .u64 yh) ∧
     (wr.alloc (.cells #[.int .u64 x1, .int .u64 x2] 35)).cell? ⟨wr.heap.size, 0, none⟩ = some (.int .u64 x1) ∧ (wr.alloc (.cells #[.int .u64 x1, .int .u64 x2] 35)).cell? ⟨wr.heap.size, 1, none⟩ = some (.int .u64 x2) := ⟨HBn.out, y0, y1, by simp, by simp⟩
    clear y0 y1 hlit
    have hs2 : Below w.heap.size w (wr.alloc (.cells #[.int .u64 x1, .int .u64 x2] 35)) ∧ (wr.alloc (.cells #[.int .u64 x1, .int .u64 x2] 35)).cell? ⟨g, m.length * 2, none⟩ = some (.int .u64 yl) ∧ (wr.alloc (.cells #[.int .u64 x1, .int .u64 x2] 35)).cell? ⟨g, m.length * 2 + 1, none⟩ = some (.int .u64 yh) ∧
     (wr.alloc (.cells #[.int .u64 x1, .int .u64 x2] 35)).cell? ⟨wr.heap.size, 0, none⟩ = some (.int .u64 x1) ∧ (wr.alloc (.cells #[.int .u64 x1, .int .u64 x2] 35)).cell? ⟨wr.heap.size, 1, none⟩ = some (.int .u64 x2) ∧
     OwnL (wr.alloc (.cells #[.int .u64 x1, .int .u64 x2] 35)) w.heap.size (.slice (some ⟨g, 0, none⟩) (m.length + 1) cap') (m ++ [(yl, yh)]) := ⟨hs.1, hs.2.1, hs.2.2.1, hs.2.2.2.1, hs.2.2.2.2, HOW.out⟩
    have HS2 := Lib.hid hs2; clear hs hs2
    go_wp2_with fail
    go_region_held3 (fun w' => Below w.heap.size w w' ∧ w'.cell? ⟨g, m.length * 2, none⟩ = some (.int .u64 yl) ∧ w'.cell? ⟨g, m.length * 2 + 1, none⟩ = some (.int .u64 yh) ∧ w'.cell? ⟨wr.heap.size, 0, none⟩ = some (.int .u64 x1) ∧ w'.cell? ⟨wr.heap.size, 1, none⟩ = some (.int .u64 x2) ∧ OwnL w' w.heap.size (.slice (some ⟨g, 0, none⟩) (m.length + 1) cap') (m ++ [(yl, yh)]))
     (first
       | exact keep_own (by assumption) (by assumption)
       | exact keep_own_drew (by assumption)
       | exact HS2.out
       | assumption)
     (first
       | (go_at_call 140; refine (KX.out _).mono ?_; rintro en w' ⟨rfl, hb4'⟩; have hb4 := Lib.hid hb4'; clear hb4'))
    all_goals
     rename_i hE
     have HE := Lib.hid hE
     obtain ⟨_, e0, e1, e2, e3, _⟩ := hE
     have hszE := HE.out.1.size
     clear HS2
     by_cases h0 : r = 0
     ·have h0b : (r != 0) = false := by simpa using h0
      have HZ := Lib.hid h0
      clear h0
      go_wp2_with (at_builtin; refine wpList_append_own _ rfl _ _ 32 rfl w.heap.size 35 i0 (.agg #[.int .u64 0, .int .u64 0]) 2 16 Tryz.underlying32 hi' hz0 hz1 hz2 rfl (by decide) _ (m.length + 1) (ivC (m ++ [(yl, yh)])) rfl (OwnL.row (HE.out.2.2.2.2.2.below (below_new _ _))) ⟨_, 0, none⟩ 1 1 [.int .u64 x1, .int .u64 x2] rfl rfl (cell_two_at _ _ _ _ _ rfl) (by simp [Value.oneCell']) (by unfold maxLen; omega) (by omega) (by simp; omega) ?_; intro v' w1 hown' hgrow _; obtain ⟨g', cap', rfl⟩ := ownsRow_succ hown'; have HO4 := Lib.hid hown'; clear hown'; have HW := Lib.hid (own_grown (below_alloc HE.out.1 _) (HE.out.2.2.2.2.2.below (below_new _ _)) hgrow (by simp; omega)); clear hgrow)
      go_roundw
      case rel =>
       refine ⟨k + 1, by omega, by go_num, ?_, HW.out⟩
       rw [HN.out, HN3'.out (HRZ.out.1 HZ.out)]
       simpa [OwnL, ivC] using HO4.out
      case measure => simp [intOf]; omega
     ·have h0b : (r != 0) = true := by simpa using h0
      have HZ := Lib.hid h0
      clear h0
      have KJ3 := Lib.hid (fun w => KJ2.out w (by have h1 := HRZ.out; have h2 := HZ.out; omega))
      go_wp2_with fail
      go_region_with ((go_at_call 223; refine (KJ3.out _).mono ?_; rintro e w3 ⟨rfl, h3⟩; have HE3 := Lib.hid (keep_own (by first | exact HE.out | exact keep_own_drew HE.out | exact keep_own_drew (keep_own_drew HE.out) | exact keep_own_drew (keep_own_drew (keep_own_drew HE.out)) | exact keep_own_drew (keep_own_drew (keep_own_drew (keep_own_drew HE.out)))) (Lib.hid h3)); have hsz3 := h3.size; clear h3; obtain ⟨_, f0, f1, _⟩ := HE3.out; obtain ⟨_, _, e', _, _, r0, r1, _, _⟩ := HE3.out.2.2.2.2.2.last; cases e'))
      all_goals
       have hgw : w.heap.size ≤ g := by assumption
       go_wp2_with fail
       go_roundw
       case rel =>
        refine ⟨k + 1, by omega, by go_num, ?_, below_set (below_set HE3.out.1 hgw _ _) hgw _ _⟩
        rw [HN.out, HN2'.out (by have h1 := HRZ.out; have h2 := HZ.out; omega)]
        exact OwnL.setLast (yl, hi) HE3.out.2.2.2.2.2
       case measure => simp [intOf]; omega
  ·obtain rfl : k = l.length := by omega
   rw [List.take_length] at hown
   obtain ⟨pv, cv, rfl, _⟩ := own_shape hown
   have HOW := Lib.hid hown; clear hown
   go_wp2_with fail
   go_ret
   exact ⟨_, rfl, HOW.out, HB.out⟩
end Go.Proofs.YtcajknjhkabhjaaGreatDoor
