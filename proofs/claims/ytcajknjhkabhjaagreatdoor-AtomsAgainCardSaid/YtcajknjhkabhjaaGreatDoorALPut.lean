/- A number put in its place in a list of numbers of a call's own (kenningref10's put). Conditions: as the theorem says. -/
import Derived.Test.YtcajknjhkabhjaaGreatDoorAPMath
import Derived.Test.YtcajknjhkabhjaaGreatDoorAVPieces
namespace Go.Proofs.YtcajknjhkabhjaaGreatDoor
section
open Go.RowKit
theorem ascI_eq : ∀ {l m : List Int}, ascL l → ascL m → (∀ x, x ∈ l ↔ x ∈ m) → l = m
 | [], [], _, _, _ => rfl
 | [], y :: m, _, _, h => by have := (h y).2 (by simp); cases this
 | x :: l, [], _, _, h => by have := (h x).1 (by simp); cases this
 | x :: l, y :: m, hl, hm, h => by
   have h1 := List.pairwise_cons.1 hl
   have h2 := List.pairwise_cons.1 hm
   have hxy : x = y := by
    rcases List.mem_cons.1 ((h x).1 (by simp)) with e | hx
    ·exact e
    ·rcases List.mem_cons.1 ((h y).2 (by simp)) with e | hy
     ·exact e.symm
     ·have a := h1.1 y hy
      have b := h2.1 x hx
      omega
   subst hxy
   rw [ascI_eq h1.2 h2.2 fun z => ?_]
   constructor
   ·intro hz
    rcases List.mem_cons.1 ((h z).1 (by simp [hz])) with e | hz'
    ·subst e; have := h1.1 z hz; omega
    ·exact hz'
   ·intro hz
    rcases List.mem_cons.1 ((h z).2 (by simp [hz])) with e | hz'
    ·subst e; have := h2.1 z hz; omega
    ·exact hz'
theorem put_there {S : List Int} (h : ascL S) {x : Int} (hx : x ∈ S) : insI S x = S :=
 ascI_eq (ins_asc h x) h fun y => by rw [ins_mem h]; exact ⟨fun hy => hy.elim id fun e => e ▸ hx, .inl⟩
theorem put_new {S : List Int} (h : ascL S) {x : Int} {q : Nat} (h1 : ∀ (j : Nat) y, j < q → S[j]? = some y → y < x) (h2 : ∀ y, S[q]? = some y → x < y) : insI S x = S.take q ++ x :: S.drop q := by
 have ht : ∀ y ∈ S.take q, y < x := fun y hy => by
  obtain ⟨j, hj⟩ := List.mem_iff_getElem?.1 hy
  rw [List.getElem?_take] at hj
  split at hj
  ·exact h1 j y ‹_› hj
  ·cases hj
 have hd : ∀ y ∈ S.drop q, x < y := fun y hy => by
  obtain ⟨j, hj⟩ := List.mem_iff_getElem?.1 hy
  rw [List.getElem?_drop] at hj
  cases j with
  | zero => exact h2 y hj
  | succ j =>
    have hlt := (List.getElem?_eq_some_iff.1 hj).1
    have hq : S[q]? = some (S[q]'(by omega)) := by simp [show q < S.length by omega]
    have a := h2 _ hq
    have b := List.pairwise_iff_getElem.1 h q (q + (j + 1)) (by omega) hlt (by omega)
    have e := (List.getElem?_eq_some_iff.1 hj).2
    omega
 have hasc : ascL (S.take q ++ x :: S.drop q) := by
  unfold ascL
  rw [List.pairwise_append]
  refine ⟨List.Pairwise.sublist (List.take_sublist _ _) h, List.pairwise_cons.2 ⟨hd, List.Pairwise.sublist (List.drop_sublist _ _) h⟩, fun a ha b hb => ?_⟩
  have h3 := ht a ha
  rcases List.mem_cons.1 hb with rfl | hb
  ·exact h3
  ·have := hd b hb; omega
 refine ascI_eq (ins_asc h x) hasc fun y => ?_
 rw [ins_mem h, List.mem_append, List.mem_cons]
 have hs : y ∈ S ↔ y ∈ S.take q ∨ y ∈ S.drop q := by rw [← List.mem_append, List.take_append_drop]
 rw [hs]
 constructor
 ·rintro ((a | a) | a)
  ·exact .inl a
  ·exact .inr (.inr a)
  ·exact .inr (.inl a)
 ·rintro (a | a | a)
  ·exact .inl (.inl a)
  ·exact .inr a
  ·exact .inl (.inr a)
theorem own_noneU (w : World) (k : Nat) (hk : k = w.heap.size) (B : Nat) (hB : B ≤ w.heap.size) : (w.alloc (.cells #[] 28)).ownsRow B 28 1 (.slice (some ⟨k, 0, none⟩) 0 0) 0 [] := by
 subst hk
 exact World.ownsRow_lit w #[] 0 hB (Nat.zero_le _) rfl
theorem nmC_take (S : List Int) (q : Nat) : (nmC S).take q = nmC (S.take q) := by unfold nmC; rw [List.map_take]
theorem one_newU (w : World) (x : Int) (k : Nat) (hk : k = w.heap.size) : ∀ j u, [Value.int .u64 x][j]? = some u → (w.alloc (.cells #[.int .u64 x] 28)).cell? ((⟨k, 0, none⟩ : Addr).add j) = some u := by
 subst hk
 intro j u h
 match j, h with
 | 0, h => simp at h; subst h; simp [Addr.add]
theorem one_cellU {w : World} {g : Nat} {x : Int} (h : w.cell? ⟨g, 0, none⟩ = some (.int .u64 x)) : ∀ j u, [Value.int .u64 x][j]? = some u → w.cell? ((⟨g, 0, none⟩ : Addr).add j) = some u := by
 intro j u hj
 match j, hj with
 | 0, hj => simp at hj; subst hj; rw [Addr.add_lit]; exact h
def IsPut (B : Nat) (L : List Int) (w : World) (e : Ending) (w' : World) : Prop := ∃ u, e = .returned u ∧ OwnN w' B u L ∧ Below w.heap.size w w'
set_option maxRecDepth 100000 in
set_option maxHeartbeats 8000000 in
theorem put10_nil (x : Int) (w : World) (B : Nat) (hB : B ≤ w.heap.size) : Calls Tryz.prog 160 #[.slice none 0 0, .int .u64 x] w (IsPut B [x] w) := by
 obtain ⟨i0, hi', hz0, hz1, hz2⟩ := info_parts infoU
 have HBB := Lib.hid hB; clear hB
 go_enter Tryz.func160, Tryz.ntmps160
 go_wp2_with fail
 go_loopw [5] (fun i wr => i = .int .i64 0 ∧ wr = w) (fun _ _ => 0)
 case atStart => exact ⟨rfl, rfl⟩
 case round =>
  obtain ⟨rfl, rfl⟩ := hrel
  go_wp2_with fail
  have hS0 : Below wr.heap.size wr wr := Below.refl _ _
  go_region_held3 (fun w' => Below wr.heap.size wr w')
   (first
     | assumption
     | exact (by assumption : Below wr.heap.size wr _).drew
     | exact below_call (by assumption) (below_new _ _)
     | exact below_call (by assumption) (Below.refl _ _).drew)
   (first
     | ((refine step_own_none (by rfl) (.tmp 33) (.tmp 36) _ (by rfl) wr.heap.size 28 i0 1 Tryz.underlying27 hi' _ 0 [] (by rfl) (by first | exact own_below (own_noneU wr _ rfl _ (Nat.le_refl _)) (Below.refl _ _).drew | exact own_below (own_noneU wr _ rfl _ (Nat.le_refl _)) (below_new _ _).drew | exact own_below (own_noneU (wr.alloc _) _ (by simp) _ (by simp)) (Below.refl _ _).drew) (by rfl) ?_))
     | ((refine step_own (by rfl) (.tmp 37) (.tmp 39) _ (by rfl) wr.heap.size 28 i0 (.int .u64 0) 1 8 Tryz.underlying27 hi' hz0 hz1 hz2 rfl (by decide) _ 0 [] (by rfl) (by first | exact own_below (own_noneU wr _ rfl _ (Nat.le_refl _)) (Below.refl _ _).drew | exact own_below (own_noneU wr _ rfl _ (Nat.le_refl _)) (below_new _ _).drew | exact own_below (own_noneU (wr.alloc _) _ (by simp) _ (by simp)) (Below.refl _ _).drew) ⟨_, 0, none⟩ 1 1 [.int .u64 x] (by rfl) rfl (by first | exact one_newU (wr.alloc _) x _ (by simp) | exact fun j u h => keep_cell (one_newU wr x _ rfl j u h) (below_new _ _).drew) (by simp [Value.oneCell']) (by unfold maxLen; omega) (by omega) (Below.size (by assumption)) ?_; intro v2 w2 hown2 hgrow2; have HG2 := Lib.hid (own_grown (by assumption) (by first | exact own_below (own_noneU wr _ rfl _ (Nat.le_refl _)) (Below.refl _ _).drew | exact own_below (own_noneU wr _ rfl _ (Nat.le_refl _)) (below_new _ _).drew | exact own_below (own_noneU (wr.alloc _) _ (by simp) _ (by simp)) (Below.refl _ _).drew) hgrow2 (Below.size (by assumption))); have HO2 := Lib.hid hown2; clear hown2 hgrow2))
     | ((refine step_own_none (by rfl) (.tmp 40) (.tmp 43) _ (by rfl) wr.heap.size 28 i0 1 Tryz.underlying27 hi' _ _ _ (by rfl) HO2.out (by rfl) ?_)))
  all_goals
   obtain ⟨pv, cv, rfl, _⟩ := own_shape HO2.out
   have HO3 : Hid (OwnN w2 B (.slice pv (0 + 1) cv) [x]) := Lib.hid (own_base HO2.out HBB.out)
   go_wp2_with fail
   go_ret
   exact ⟨_, rfl, HO3.out, HG2.out⟩
theorem nmU_at {L : List Int} {i : Nat} {x : Int} (h : L[i]? = some x) : (nmC L)[i]? = some (.int .u64 x) := by unfold nmC; rw [List.getElem?_map, h]; rfl
theorem kept_late {w w1 : World} {x : Int} (h : ((w.alloc (.cells #[] 28)).alloc (.cells #[.int .u64 x] 28)).drew.grownBy w1 (some w.heap.size)) : w1.cell? ⟨w.heap.size + 1, 0, none⟩ = some (.int .u64 x) := by
 have h1 := h.block (w.heap.size + 1) (by show _ < ((w.alloc _).alloc _).heap.size; simp) (by intro e; have := Option.some.inj e; omega)
 rw [World.cell?_of_block (a := ⟨w.heap.size + 1, 0, none⟩) h1]
 exact one_newU (w.alloc (.cells #[] 28)) x (w.heap.size + 1) (by simp) 0 _ rfl
theorem kept_early {w w1 : World} {x : Int} (h : ((w.alloc (.cells #[.int .u64 x] 28)).alloc (.cells #[] 28)).drew.grownBy w1 (some (w.heap.size + 1))) : w1.cell? ⟨w.heap.size, 0, none⟩ = some (.int .u64 x) := by
 have h1 := h.block w.heap.size (by show _ < ((w.alloc _).alloc _).heap.size; simp; omega) (by intro e; have := Option.some.inj e; omega)
 rw [World.cell?_of_block (a := ⟨w.heap.size, 0, none⟩) h1]
 exact keep_cell (one_newU w x w.heap.size rfl 0 _ rfl) (below_new (w.alloc (.cells #[.int .u64 x] 28)) _).drew
set_option maxRecDepth 100000 in
set_option maxHeartbeats 16000000 in
theorem put10_some (S : List Int) (x : Int) (g cv : Nat) (w : World) (B : Nat) (hB : B ≤ w.heap.size) (hown : OwnN w B (.slice (some ⟨g, 0, none⟩) S.length cv) S) (hasc : ascL S) (hl : S.length ≤ 99999) : Calls Tryz.prog 160 #[.slice (some ⟨g, 0, none⟩) S.length cv, .int .u64 x] w (IsPut B (insI S x) w) := by
 obtain ⟨i0, hi', hz0, hz1, hz2⟩ := info_parts infoU
 have HBB := Lib.hid hB; clear hB
 have hrow : w.ownsRow B 28 1 (.slice (some ⟨g, 0, none⟩) S.length cv) S.length (nmC S) := hown
 have hroom := own_room hrow
 have HRM := Lib.hid hroom
 have HCV := Lib.hid (fun (j : Nat) (u : Value) (hu : (nmC S)[j]? = some u) => (show w.cell? ⟨g, j, none⟩ = some u by
  rw [hrow.cellAt j (by have := (List.getElem?_eq_some_iff.1 hu).1; rw [nmC_len] at this; exact this)]; exact hu))
 have HOW := Lib.hid hown; have HAS := Lib.hid hasc
 clear hrow hown hasc
 go_enter Tryz.func160, Tryz.ntmps160
 go_wp2_with fail
 go_loopw [5] (fun i wr => ∃ q : Nat, i = .int .i64 q ∧ q ≤ S.length ∧ (∀ (j : Nat) y, j < q → S[j]? = some y → y < x) ∧ w = wr) (fun i _ => S.length - (intOf i).toNat)
 case atStart => exact ⟨0, rfl, Nat.zero_le _, fun j y hj => absurd hj (Nat.not_lt_zero j), rfl⟩
 case round =>
  obtain ⟨q, rfl, hq, hbef, rfl⟩ := hrel
  have HBF := Lib.hid hbef; clear hbef
  by_cases hlt : q < S.length
  ·obtain ⟨y, hy⟩ : ∃ y, S[q]? = some y := ⟨S[q], by simp [hlt]⟩
   have c0 : w.cell? ⟨g, q, none⟩ = some (.int .u64 y) := HCV.out q _ (nmU_at hy)
   have i1 : (0 : Int) ≤ (q : Int) := by omega
   have i2 : (q : Int) < (S.length : Int) := by omega
   have HY := Lib.hid hy; clear hy
   by_cases h1 : y < x
   ·go_wp2_with fail
    go_roundw
    case rel => exact ⟨q + 1, by go_num, by omega, fun j z hj hz => by
     rcases Nat.lt_or_eq_of_le (Nat.le_of_lt_succ hj) with h | h
     ·exact HBF.out j z h hz
     ·subst h
      obtain rfl := Option.some.inj (HY.out.symm.trans hz)
      exact h1, by trivial⟩
    case measure => simp [intOf]; omega
   ·have e0 : decide (y < x) = false := decide_eq_false h1
    by_cases h2 : y = x
    ·subst h2
     have HF : Hid (OwnN w B (.slice (some ⟨g, 0, none⟩) S.length cv) (insI S y)) := Lib.hid (by rw [put_there HAS.out (List.mem_iff_getElem?.2 ⟨q, HY.out⟩)]; exact HOW.out)
     go_wp2_with fail
     go_ret
     exact ⟨_, rfl, HF.out, Below.refl _ _⟩
    ·have HI := Lib.hid (put_new HAS.out HBF.out (fun z hz => by
      obtain rfl := Option.some.inj (HY.out.symm.trans hz)
      omega))
     have e1 : (y == x) = false := by simpa using h2
     clear h2
     by_cases hce : cv = q
     ·subst cv
      have HLD := Lib.hid (show (nmC (S.drop q)).length = (S.length - q) * 1 by rw [nmC_len, List.length_drop])
      have HLT := Lib.hid (show (nmC (S.take q)).length = q * 1 by rw [nmC_len, List.length_take]; omega)
      have HND := Lib.hid (show nmC (S.drop q) = [] by unfold nmC; rw [List.drop_of_length_le (by have := HRM.out; omega)]; rfl)
      have HCD := Lib.hid (fun (W' : World) (_ : Below w.heap.size w W') (j : Nat) (u : Value) (hu : (nmC (S.drop q))[j]? = some u) => (show W'.cell? ((⟨g, 0, none⟩ : Addr).add j) = some u by rw [HND.out] at hu; simp at hu))
      have HCT := Lib.hid (fun (W' : World) (h : Below w.heap.size w W') (j : Nat) (u : Value) (hu : (nmC (S.take q))[j]? = some u) => (show W'.cell? ((⟨g, 0, none⟩ : Addr).add j) = some u by
       rw [Addr.add_lit, Nat.zero_add]; exact keep_cell (HCV.out j u (by
        rw [← nmC_take, List.getElem?_take] at hu
        split at hu
        ·exact hu
        ·cases hu)) h))
      have s1 : (0 : Int) ≤ (q : Int) := by omega
      have s2 : (q : Int) ≤ (q : Int) := by have := HRM.out; omega
      have s3 : (q : Int) ≤ (S.length : Int) := by omega
      clear hroom
      go_wp2_with fail
      have hS0 : Below w.heap.size w w := Below.refl _ _
      go_region_held3 (fun w' => Below w.heap.size w w')
       (first
         | assumption
         | exact (by assumption : Below w.heap.size w _).drew
         | exact below_call (by assumption) (below_new _ _)
         | exact below_call (by assumption) (Below.refl _ _).drew)
       (first
         | ((refine step_own (by rfl) (.tmp 33) (.tmp 36) _ (by rfl) w.heap.size 28 i0 (.int .u64 0) 1 8 Tryz.underlying27 hi' hz0 hz1 hz2 rfl (by decide) _ 0 [] (by rfl) (by first | exact own_below (own_noneU w _ rfl _ (Nat.le_refl _)) (Below.refl _ _).drew | exact own_below (own_noneU w _ rfl _ (Nat.le_refl _)) (below_new _ _).drew | exact own_below (own_noneU (w.alloc _) _ (by simp) _ (by simp)) (Below.refl _ _).drew) ⟨g, 0, none⟩ q q (nmC (S.take q)) (by rfl) HLT.out (HCT.out _ (by assumption)) (nmC_one _) (by unfold maxLen; omega) (by omega) (Below.size (by assumption)) ?_; intro v1 w1 hown1 hgrow1; rw [Nat.zero_add, List.nil_append] at hown1; have HG1 := Lib.hid (own_grown (by assumption) (by first | exact own_below (own_noneU w _ rfl _ (Nat.le_refl _)) (Below.refl _ _).drew | exact own_below (own_noneU w _ rfl _ (Nat.le_refl _)) (below_new _ _).drew | exact own_below (own_noneU (w.alloc _) _ (by simp) _ (by simp)) (Below.refl _ _).drew) hgrow1 (Below.size (by assumption))); obtain ⟨p1, c1, rfl, _⟩ := own_shape hown1; have HO1 := Lib.hid hown1; (first | (have HCX := Lib.hid (one_cellU (kept_late hgrow1))) | (have HCX := Lib.hid (one_cellU (kept_early hgrow1))) | skip); have hS1 := HG1.out; clear hown1 hgrow1))
         | ((refine step_own (by rfl) (.tmp 37) (.tmp 39) _ (by rfl) w.heap.size 28 i0 (.int .u64 0) 1 8 Tryz.underlying27 hi' hz0 hz1 hz2 rfl (by decide) _ q _ (by rfl) (by first | exact HO1.out | exact own_below HO1.out (below_new _ _)) ⟨_, 0, none⟩ 1 1 [.int .u64 x] (by rfl) rfl (by first | exact HCX.out | exact one_newU w1 x _ rfl) (by simp [Value.oneCell']) (by unfold maxLen; omega) (by omega) (Below.size (by assumption)) ?_; intro v2 w2 hown2 hgrow2; have HG2 := Lib.hid (own_grown (by assumption) (by first | exact HO1.out | exact own_below HO1.out (below_new _ _)) hgrow2 (Below.size (by assumption))); obtain ⟨p2, c2, rfl, _⟩ := own_shape hown2; have HO2 := Lib.hid hown2; have hS2 := HG2.out; clear hown2 hgrow2))
         | ((refine step_own (by rfl) (.tmp 40) (.tmp 43) _ (by rfl) w.heap.size 28 i0 (.int .u64 0) 1 8 Tryz.underlying27 hi' hz0 hz1 hz2 rfl (by decide) _ (q + 1) _ (by rfl) HO2.out ⟨g, 0, none⟩ (S.length - q) 0 (nmC (S.drop q)) (by rfl) HLD.out (HCD.out _ hS2) (nmC_one _) (by unfold maxLen; omega) (by omega) hS2.size ?_; intro v3 w3 hown3 hgrow3; have HG3 := Lib.hid (own_grown hS2 HO2.out hgrow3 hS2.size); obtain ⟨p3, c3, rfl, _⟩ := own_shape hown3; have HO3 := Lib.hid hown3; clear hown3 hgrow3)))
      all_goals
       have HF : Hid (OwnN w3 B (.slice p3 (q + 1 + (S.length - q)) c3) (insI S x)) := Lib.hid (by
        have e1 : (insI S x).length = q + 1 + (S.length - q) := by rw [HI.out, List.length_append, List.length_cons, List.length_take, List.length_drop]; omega
        have e2 : nmC (insI S x) = nmC (S.take q) ++ [.int .u64 x] ++ nmC (S.drop q) := by rw [HI.out]; simp [nmC]
        unfold OwnN
        rw [e1, e2]
        exact own_base HO3.out HBB.out)
       clear HO3
       go_wp2_with fail
       go_ret
       exact ⟨_, rfl, HF.out, HG3.out⟩
     ·have hce0 : ¬ cv - q = 0 := by have := HRM.out; omega
      have HLD := Lib.hid (show (nmC (S.drop q)).length = (S.length - q) * 1 by rw [nmC_len, List.length_drop])
      have HLT := Lib.hid (show (nmC (S.take q)).length = q * 1 by rw [nmC_len, List.length_take]; omega)
      have HCD := Lib.hid (fun (W' : World) (h : Below w.heap.size w W') (j : Nat) (u : Value) (hu : (nmC (S.drop q))[j]? = some u) => (show W'.cell? ((⟨g, q, none⟩ : Addr).add j) = some u by
       rw [Addr.add_lit]; exact keep_cell (HCV.out (q + j) u (nm_drop S q j hu)) h))
      have HCT := Lib.hid (fun (W' : World) (h : Below w.heap.size w W') (j : Nat) (u : Value) (hu : (nmC (S.take q))[j]? = some u) => (show W'.cell? ((⟨g, 0, none⟩ : Addr).add j) = some u by
       rw [Addr.add_lit, Nat.zero_add]; exact keep_cell (HCV.out j u (by
        rw [← nmC_take, List.getElem?_take] at hu
        split at hu
        ·exact hu
        ·cases hu)) h))
      have s1 : (0 : Int) ≤ (q : Int) := by omega
      have s2 : (q : Int) ≤ (cv : Int) := by have := HRM.out; omega
      have s3 : (q : Int) ≤ (S.length : Int) := by omega
      clear hroom
      go_wp2_with fail
      have hS0 : Below w.heap.size w w := Below.refl _ _
      go_region_held3 (fun w' => Below w.heap.size w w')
       (first
         | assumption
         | exact (by assumption : Below w.heap.size w _).drew
         | exact below_call (by assumption) (below_new _ _)
         | exact below_call (by assumption) (Below.refl _ _).drew)
       (first
         | ((refine step_own (by rfl) (.tmp 33) (.tmp 36) _ (by rfl) w.heap.size 28 i0 (.int .u64 0) 1 8 Tryz.underlying27 hi' hz0 hz1 hz2 rfl (by decide) _ 0 [] (by rfl) (by first | exact own_below (own_noneU w _ rfl _ (Nat.le_refl _)) (Below.refl _ _).drew | exact own_below (own_noneU w _ rfl _ (Nat.le_refl _)) (below_new _ _).drew | exact own_below (own_noneU (w.alloc _) _ (by simp) _ (by simp)) (Below.refl _ _).drew) ⟨g, 0, none⟩ q cv (nmC (S.take q)) (by rfl) HLT.out (HCT.out _ (by assumption)) (nmC_one _) (by unfold maxLen; omega) (by omega) (Below.size (by assumption)) ?_; intro v1 w1 hown1 hgrow1; rw [Nat.zero_add, List.nil_append] at hown1; have HG1 := Lib.hid (own_grown (by assumption) (by first | exact own_below (own_noneU w _ rfl _ (Nat.le_refl _)) (Below.refl _ _).drew | exact own_below (own_noneU w _ rfl _ (Nat.le_refl _)) (below_new _ _).drew | exact own_below (own_noneU (w.alloc _) _ (by simp) _ (by simp)) (Below.refl _ _).drew) hgrow1 (Below.size (by assumption))); obtain ⟨p1, c1, rfl, _⟩ := own_shape hown1; have HO1 := Lib.hid hown1; (first | (have HCX := Lib.hid (one_cellU (kept_late hgrow1))) | (have HCX := Lib.hid (one_cellU (kept_early hgrow1))) | skip); have hS1 := HG1.out; clear hown1 hgrow1))
         | ((refine step_own (by rfl) (.tmp 37) (.tmp 39) _ (by rfl) w.heap.size 28 i0 (.int .u64 0) 1 8 Tryz.underlying27 hi' hz0 hz1 hz2 rfl (by decide) _ q _ (by rfl) (by first | exact HO1.out | exact own_below HO1.out (below_new _ _)) ⟨_, 0, none⟩ 1 1 [.int .u64 x] (by rfl) rfl (by first | exact HCX.out | exact one_newU w1 x _ rfl) (by simp [Value.oneCell']) (by unfold maxLen; omega) (by omega) (Below.size (by assumption)) ?_; intro v2 w2 hown2 hgrow2; have HG2 := Lib.hid (own_grown (by assumption) (by first | exact HO1.out | exact own_below HO1.out (below_new _ _)) hgrow2 (Below.size (by assumption))); obtain ⟨p2, c2, rfl, _⟩ := own_shape hown2; have HO2 := Lib.hid hown2; have hS2 := HG2.out; clear hown2 hgrow2))
         | ((refine step_own (by rfl) (.tmp 40) (.tmp 43) _ (by rfl) w.heap.size 28 i0 (.int .u64 0) 1 8 Tryz.underlying27 hi' hz0 hz1 hz2 rfl (by decide) _ (q + 1) _ (by rfl) HO2.out ⟨g, q, none⟩ (S.length - q) (cv - q) (nmC (S.drop q)) (by rfl) HLD.out (HCD.out _ hS2) (nmC_one _) (by unfold maxLen; omega) (by omega) hS2.size ?_; intro v3 w3 hown3 hgrow3; have HG3 := Lib.hid (own_grown hS2 HO2.out hgrow3 hS2.size); obtain ⟨p3, c3, rfl, _⟩ := own_shape hown3; have HO3 := Lib.hid hown3; clear hown3 hgrow3)))
      all_goals
       have HF : Hid (OwnN w3 B (.slice p3 (q + 1 + (S.length - q)) c3) (insI S x)) := Lib.hid (by
        have e1 : (insI S x).length = q + 1 + (S.length - q) := by rw [HI.out, List.length_append, List.length_cons, List.length_take, List.length_drop]; omega
        have e2 : nmC (insI S x) = nmC (S.take q) ++ [.int .u64 x] ++ nmC (S.drop q) := by rw [HI.out]; simp [nmC]
        unfold OwnN
        rw [e1, e2]
        exact own_base HO3.out HBB.out)
       clear HO3
       go_wp2_with fail
       go_ret
       exact ⟨_, rfl, HF.out, HG3.out⟩
  ·have i1 : (0 : Int) ≤ (q : Int) := by omega
   have i3 : ¬ (q : Int) < (S.length : Int) := by omega
   have i4 : decide ((q : Int) < (S.length : Int)) = false := decide_eq_false i3
   have HI := Lib.hid (put_new HAS.out HBF.out (fun z hz => by
    have := (List.getElem?_eq_some_iff.1 hz).1
    omega))
   by_cases hce : cv = q
   ·subst cv
    have HLD := Lib.hid (show (nmC (S.drop q)).length = (S.length - q) * 1 by rw [nmC_len, List.length_drop])
    have HLT := Lib.hid (show (nmC (S.take q)).length = q * 1 by rw [nmC_len, List.length_take]; omega)
    have HND := Lib.hid (show nmC (S.drop q) = [] by unfold nmC; rw [List.drop_of_length_le (by have := HRM.out; omega)]; rfl)
    have HCD := Lib.hid (fun (W' : World) (_ : Below w.heap.size w W') (j : Nat) (u : Value) (hu : (nmC (S.drop q))[j]? = some u) => (show W'.cell? ((⟨g, 0, none⟩ : Addr).add j) = some u by rw [HND.out] at hu; simp at hu))
    have HCT := Lib.hid (fun (W' : World) (h : Below w.heap.size w W') (j : Nat) (u : Value) (hu : (nmC (S.take q))[j]? = some u) => (show W'.cell? ((⟨g, 0, none⟩ : Addr).add j) = some u by
     rw [Addr.add_lit, Nat.zero_add]; exact keep_cell (HCV.out j u (by
      rw [← nmC_take, List.getElem?_take] at hu
      split at hu
      ·exact hu
      ·cases hu)) h))
    have s1 : (0 : Int) ≤ (q : Int) := by omega
    have s2 : (q : Int) ≤ (q : Int) := by have := HRM.out; omega
    have s3 : (q : Int) ≤ (S.length : Int) := by omega
    clear hroom
    go_wp2_with fail
    have hS0 : Below w.heap.size w w := Below.refl _ _
    go_region_held3 (fun w' => Below w.heap.size w w')
     (first
       | assumption
       | exact (by assumption : Below w.heap.size w _).drew
       | exact below_call (by assumption) (below_new _ _)
       | exact below_call (by assumption) (Below.refl _ _).drew)
     (first
       | ((refine step_own (by rfl) (.tmp 33) (.tmp 36) _ (by rfl) w.heap.size 28 i0 (.int .u64 0) 1 8 Tryz.underlying27 hi' hz0 hz1 hz2 rfl (by decide) _ 0 [] (by rfl) (by first | exact own_below (own_noneU w _ rfl _ (Nat.le_refl _)) (Below.refl _ _).drew | exact own_below (own_noneU w _ rfl _ (Nat.le_refl _)) (below_new _ _).drew | exact own_below (own_noneU (w.alloc _) _ (by simp) _ (by simp)) (Below.refl _ _).drew) ⟨g, 0, none⟩ q q (nmC (S.take q)) (by rfl) HLT.out (HCT.out _ (by assumption)) (nmC_one _) (by unfold maxLen; omega) (by omega) (Below.size (by assumption)) ?_; intro v1 w1 hown1 hgrow1; rw [Nat.zero_add, List.nil_append] at hown1; have HG1 := Lib.hid (own_grown (by assumption) (by first | exact own_below (own_noneU w _ rfl _ (Nat.le_refl _)) (Below.refl _ _).drew | exact own_below (own_noneU w _ rfl _ (Nat.le_refl _)) (below_new _ _).drew | exact own_below (own_noneU (w.alloc _) _ (by simp) _ (by simp)) (Below.refl _ _).drew) hgrow1 (Below.size (by assumption))); obtain ⟨p1, c1, rfl, _⟩ := own_shape hown1; have HO1 := Lib.hid hown1; (first | (have HCX := Lib.hid (one_cellU (kept_late hgrow1))) | (have HCX := Lib.hid (one_cellU (kept_early hgrow1))) | skip); have hS1 := HG1.out; clear hown1 hgrow1))
       | ((refine step_own (by rfl) (.tmp 37) (.tmp 39) _ (by rfl) w.heap.size 28 i0 (.int .u64 0) 1 8 Tryz.underlying27 hi' hz0 hz1 hz2 rfl (by decide) _ q _ (by rfl) (by first | exact HO1.out | exact own_below HO1.out (below_new _ _)) ⟨_, 0, none⟩ 1 1 [.int .u64 x] (by rfl) rfl (by first | exact HCX.out | exact one_newU w1 x _ rfl) (by simp [Value.oneCell']) (by unfold maxLen; omega) (by omega) (Below.size (by assumption)) ?_; intro v2 w2 hown2 hgrow2; have HG2 := Lib.hid (own_grown (by assumption) (by first | exact HO1.out | exact own_below HO1.out (below_new _ _)) hgrow2 (Below.size (by assumption))); obtain ⟨p2, c2, rfl, _⟩ := own_shape hown2; have HO2 := Lib.hid hown2; have hS2 := HG2.out; clear hown2 hgrow2))
       | ((refine step_own (by rfl) (.tmp 40) (.tmp 43) _ (by rfl) w.heap.size 28 i0 (.int .u64 0) 1 8 Tryz.underlying27 hi' hz0 hz1 hz2 rfl (by decide) _ (q + 1) _ (by rfl) HO2.out ⟨g, 0, none⟩ (S.length - q) 0 (nmC (S.drop q)) (by rfl) HLD.out (HCD.out _ hS2) (nmC_one _) (by unfold maxLen; omega) (by omega) hS2.size ?_; intro v3 w3 hown3 hgrow3; have HG3 := Lib.hid (own_grown hS2 HO2.out hgrow3 hS2.size); obtain ⟨p3, c3, rfl, _⟩ := own_shape hown3; have HO3 := Lib.hid hown3; clear hown3 hgrow3)))
    all_goals
     have HF : Hid (OwnN w3 B (.slice p3 (q + 1 + (S.length - q)) c3) (insI S x)) := Lib.hid (by
      have e1 : (insI S x).length = q + 1 + (S.length - q) := by rw [HI.out, List.length_append, List.length_cons, List.length_take, List.length_drop]; omega
      have e2 : nmC (insI S x) = nmC (S.take q) ++ [.int .u64 x] ++ nmC (S.drop q) := by rw [HI.out]; simp [nmC]
      unfold OwnN
      rw [e1, e2]
      exact own_base HO3.out HBB.out)
     clear HO3
     go_wp2_with fail
     go_ret
     exact ⟨_, rfl, HF.out, HG3.out⟩
   ·have hce0 : ¬ cv - q = 0 := by have := HRM.out; omega
    have HLD := Lib.hid (show (nmC (S.drop q)).length = (S.length - q) * 1 by rw [nmC_len, List.length_drop])
    have HLT := Lib.hid (show (nmC (S.take q)).length = q * 1 by rw [nmC_len, List.length_take]; omega)
    have HCD := Lib.hid (fun (W' : World) (h : Below w.heap.size w W') (j : Nat) (u : Value) (hu : (nmC (S.drop q))[j]? = some u) => (show W'.cell? ((⟨g, q, none⟩ : Addr).add j) = some u by
     rw [Addr.add_lit]; exact keep_cell (HCV.out (q + j) u (nm_drop S q j hu)) h))
    have HCT := Lib.hid (fun (W' : World) (h : Below w.heap.size w W') (j : Nat) (u : Value) (hu : (nmC (S.take q))[j]? = some u) => (show W'.cell? ((⟨g, 0, none⟩ : Addr).add j) = some u by
     rw [Addr.add_lit, Nat.zero_add]; exact keep_cell (HCV.out j u (by
      rw [← nmC_take, List.getElem?_take] at hu
      split at hu
      ·exact hu
      ·cases hu)) h))
    have s1 : (0 : Int) ≤ (q : Int) := by omega
    have s2 : (q : Int) ≤ (cv : Int) := by have := HRM.out; omega
    have s3 : (q : Int) ≤ (S.length : Int) := by omega
    clear hroom
    go_wp2_with fail
    have hS0 : Below w.heap.size w w := Below.refl _ _
    go_region_held3 (fun w' => Below w.heap.size w w')
     (first
       | assumption
       | exact (by assumption : Below w.heap.size w _).drew
       | exact below_call (by assumption) (below_new _ _)
       | exact below_call (by assumption) (Below.refl _ _).drew)
     (first
       | ((refine step_own (by rfl) (.tmp 33) (.tmp 36) _ (by rfl) w.heap.size 28 i0 (.int .u64 0) 1 8 Tryz.underlying27 hi' hz0 hz1 hz2 rfl (by decide) _ 0 [] (by rfl) (by first | exact own_below (own_noneU w _ rfl _ (Nat.le_refl _)) (Below.refl _ _).drew | exact own_below (own_noneU w _ rfl _ (Nat.le_refl _)) (below_new _ _).drew | exact own_below (own_noneU (w.alloc _) _ (by simp) _ (by simp)) (Below.refl _ _).drew) ⟨g, 0, none⟩ q cv (nmC (S.take q)) (by rfl) HLT.out (HCT.out _ (by assumption)) (nmC_one _) (by unfold maxLen; omega) (by omega) (Below.size (by assumption)) ?_; intro v1 w1 hown1 hgrow1; rw [Nat.zero_add, List.nil_append] at hown1; have HG1 := Lib.hid (own_grown (by assumption) (by first | exact own_below (own_noneU w _ rfl _ (Nat.le_refl _)) (Below.refl _ _).drew | exact own_below (own_noneU w _ rfl _ (Nat.le_refl _)) (below_new _ _).drew | exact own_below (own_noneU (w.alloc _) _ (by simp) _ (by simp)) (Below.refl _ _).drew) hgrow1 (Below.size (by assumption))); obtain ⟨p1, c1, rfl, _⟩ := own_shape hown1; have HO1 := Lib.hid hown1; (first | (have HCX := Lib.hid (one_cellU (kept_late hgrow1))) | (have HCX := Lib.hid (one_cellU (kept_early hgrow1))) | skip); have hS1 := HG1.out; clear hown1 hgrow1))
       | ((refine step_own (by rfl) (.tmp 37) (.tmp 39) _ (by rfl) w.heap.size 28 i0 (.int .u64 0) 1 8 Tryz.underlying27 hi' hz0 hz1 hz2 rfl (by decide) _ q _ (by rfl) (by first | exact HO1.out | exact own_below HO1.out (below_new _ _)) ⟨_, 0, none⟩ 1 1 [.int .u64 x] (by rfl) rfl (by first | exact HCX.out | exact one_newU w1 x _ rfl) (by simp [Value.oneCell']) (by unfold maxLen; omega) (by omega) (Below.size (by assumption)) ?_; intro v2 w2 hown2 hgrow2; have HG2 := Lib.hid (own_grown (by assumption) (by first | exact HO1.out | exact own_below HO1.out (below_new _ _)) hgrow2 (Below.size (by assumption))); obtain ⟨p2, c2, rfl, _⟩ := own_shape hown2; have HO2 := Lib.hid hown2; have hS2 := HG2.out; clear hown2 hgrow2))
       | ((refine step_own (by rfl) (.tmp 40) (.tmp 43) _ (by rfl) w.heap.size 28 i0 (.int .u64 0) 1 8 Tryz.underlying27 hi' hz0 hz1 hz2 rfl (by decide) _ (q + 1) _ (by rfl) HO2.out ⟨g, q, none⟩ (S.length - q) (cv - q) (nmC (S.drop q)) (by rfl) HLD.out (HCD.out _ hS2) (nmC_one _) (by unfold maxLen; omega) (by omega) hS2.size ?_; intro v3 w3 hown3 hgrow3; have HG3 := Lib.hid (own_grown hS2 HO2.out hgrow3 hS2.size); obtain ⟨p3, c3, rfl, _⟩ := own_shape hown3; have HO3 := Lib.hid hown3; clear hown3 hgrow3)))
    all_goals
     have HF : Hid (OwnN w3 B (.slice p3 (q + 1 + (S.length - q)) c3) (insI S x)) := Lib.hid (by
      have e1 : (insI S x).length = q + 1 + (S.length - q) := by rw [HI.out, List.length_append, List.length_cons, List.length_take, List.length_drop]; omega
      have e2 : nmC (insI S x) = nmC (S.take q) ++ [.int .u64 x] ++ nmC (S.drop q) := by rw [HI.out]; simp [nmC]
      unfold OwnN
      rw [e1, e2]
      exact own_base HO3.out HBB.out)
     clear HO3
     go_wp2_with fail
     go_ret
     exact ⟨_, rfl, HF.out, HG3.out⟩
theorem put10_any (S : List Int) (x : Int) (v : Value) (w : World) (B : Nat) (hB : B ≤ w.heap.size) (hown : OwnN w B v S) (hasc : ascL S) (hl : S.length ≤ 99999) : Calls Tryz.prog 160 #[v, .int .u64 x] w (IsPut B (insI S x) w) := by
 rcases own_nil_or hown with ⟨rfl, h0⟩ | ⟨g, cap, rfl⟩
 ·obtain rfl := List.eq_nil_of_length_eq_zero h0
  exact put10_nil x w B hB
 ·exact put10_some S x g cap w B hB hown hasc hl
end
section
open Go.RowKit
def smallV (n h : Nat) (V : VcT) : Prop := V.length ≤ n ∧ ∀ x ∈ V, x.2.2.length ≤ h
theorem opAt_ent {w : World} {s : Value} {m : Int} {H : List Iv} (hi : IvsAt w s H) (hg : GoodE m H) (hl : H.length ≤ 5000) : OpAt w s H := ⟨hi, hg.good, by omega⟩
theorem find_kn (V : VcT) (r : Int) : (findV V r = -1 ∧ knV V r = []) ∨ ∃ (k : Nat) (x : Int × Int × List Iv), V[k]? = some x ∧ findV V r = (k : Int) ∧ knV V r = knownL x.2.1 x.2.2 := by
 unfold findV knV
 cases h : V.findIdx? (fun x => decide (x.1 = r)) with
 | none => exact .inl ⟨rfl, rfl⟩
 | some k =>
   rw [List.findIdx?_eq_some_iff_getElem] at h
   obtain ⟨hk, _⟩ := h
   have hx : V[k]? = some V[k] := by simp [hk]
   exact .inr ⟨k, V[k], hx, rfl, by simp only [hx]⟩
set_option maxRecDepth 100000 in
set_option maxHeartbeats 2000000 in
theorem refKnown10_any (V : VcT) (v : Value) (r : Int) (w : World) (hv : VecI w v V) (hg : GoodV V) (hs : ∀ x ∈ V, x.2.2.length ≤ 5000) : Calls Tryz.prog 162 #[v, .int .u64 r] w (IsOwnR (knV V r) w) := by
 obtain ⟨p, cap, rfl⟩ := hv.shape
 have hlen := hv.len
 have K := Lib.hid (refFind9_any V _ r w hv)
 have KK := Lib.hid refKnown_any
 have HV := Lib.hid hv; clear hv
 rcases find_kn V r with ⟨h1, h2⟩ | ⟨k, ⟨x, m, H⟩, hx, h1, h2⟩
 ·rw [h1] at K
  rw [h2]
  clear h1 h2 hg hs
  go_enter Tryz.func162, Tryz.ntmps162
  go_wp2_with fail
  refine K.out.mono ?_
  rintro e w1 ⟨rfl, h⟩
  have H1 := Lib.hid h; clear h
  go_wp2_with fail
  go_ret
  exact ⟨_, rfl, OwnL.nil _ _, H1.out⟩
 ·rw [h1] at K
  have hlt := (List.getElem?_eq_some_iff.1 hx).1
  have hmem := List.mem_iff_getElem?.2 ⟨k, hx⟩
  have hge := hg.ent _ hmem
  have hhl := hs _ hmem
  dsimp only at hge hhl h2
  rw [h2]
  have i1 : (0 : Int) ≤ (k : Int) := by omega
  have i2 : (k : Int) < (V.length : Int) := by omega
  have i3 : ¬ (k : Int) < 0 := by omega
  have HX := Lib.hid hx
  have HGE := Lib.hid (And.intro hge hhl)
  clear h1 h2 hg hs hx hmem hge hhl
  go_enter Tryz.func162, Tryz.ntmps162
  go_wp2_with fail
  refine K.out.mono ?_
  rintro e w1 ⟨rfl, h⟩
  obtain ⟨b, o, cp, q, n, c, e, c0, c1, c2, ha⟩ := (HV.out.call h).elem HX.out
  cases e
  have KA := Lib.hid (KK.out x m H (.slice q n c) w1 (opAt_ent ha HGE.out.1 HGE.out.2) HGE.out.1)
  have H1 := Lib.hid h; clear h ha
  go_wp2_with fail
  refine KA.out.mono ?_
  rintro e w2 ⟨u, rfl, hu, h⟩
  have HU := Lib.hid (And.intro hu h); clear hu h c0 c1 c2
  go_wp2_with fail
  go_ret
  exact ⟨_, rfl, own_base HU.out.1 H1.out.size, below_call H1.out HU.out.2⟩
end
section
open Go.RowKit
theorem small_op {n n' h h' : Nat} {f : List Iv → List Iv → List Iv} (hf : ∀ K L, GoodL K → GoodL L → GoodL (f K L)) (hc : ∀ K L, GoodL K → GoodL L → (f K L).length ≤ K.length + L.length) {A B : VcT} (gA : GoodV A) (gB : GoodV B) (sA : smallV n h A) (sB : smallV n' h' B) : smallV (n + n') (h + h' + 3) (opV f A B) := by
 refine ⟨Nat.le_trans (opV_len f A B) (by have := sA.1; have := sB.1; omega), fun y hy => ?_⟩
 obtain ⟨r, _, e⟩ := List.mem_filterMap.1 hy
 obtain ⟨_, _, e2⟩ := opE_some e
 have key : ∀ {n h : Nat} {V : VcT}, GoodV V → smallV n h V → (knV V r).length ≤ h + 1 := fun g s => by
  rcases knV_cases g.asc r with ⟨x, hx, _, e⟩ | ⟨_, e⟩
  ·rw [e]; have := known_count (g.ent x hx); have := s.2 x hx; omega
  ·rw [e]; exact Nat.zero_le _
 have h1 := key gA sA
 have h2 := key gB sB
 have h3 := hc _ _ (knV_good gA r) (knV_good gB r)
 have h4 := holes_count (hf _ _ (knV_good gA r) (knV_good gB r))
 rw [e2]
 dsimp only
 omega
theorem small_or {n n' h h' : Nat} {A B : VcT} (gA : GoodV A) (gB : GoodV B) (sA : smallV n h A) (sB : smallV n' h' B) : smallV (n + n') (h + h' + 3) (opV orL A B) := small_op (fun _ _ h h' => orL_good h h') (fun _ _ h h' => or_count h h') gA gB sA sB
theorem smallV.mono {n h n' h' : Nat} {V : VcT} (s : smallV n h V) (hn : n ≤ n') (hh : h ≤ h') : smallV n' h' V := ⟨Nat.le_trans s.1 hn, fun x hx => Nat.le_trans (s.2 x hx) hh⟩
theorem or_good {A B : VcT} (gA : GoodV A) (gB : GoodV B) : GoodV (opV orL A B) := (opV_good (fun _ _ h h' => orL_good h h') gA gB).1
theorem or_kn {A B : VcT} (gA : GoodV A) (gB : GoodV B) (r : Int) : knV (opV orL A B) r = orL (knV A r) (knV B r) := opV_kn (fun _ _ h h' => orL_good h h') rfl gA gB r
theorem op_is {f : List Iv → List Iv → List Iv} (hf : ∀ K L, GoodL K → GoodL L → GoodL (f K L)) (f0 : f [] [] = []) {A B W : VcT} (gA : GoodV A) (gB : GoodV B) (gW : GoodV W) (cW : ∀ y ∈ W, canonB y.2.1 y.2.2 = true) (h : ∀ r, f (knV A r) (knV B r) = knV W r) : opV f A B = W :=
 canV_eq (opV_good hf gA gB).1 (opV_good hf gA gB).2 gW cW fun r => by rw [opV_kn hf f0 gA gB, h r]
end
section
open Go.RowKit
theorem known_nil {m : Int} (h0 : 0 ≤ m) (h1 : m ≤ 18446744073709551615) : knownL m [] = [(0, m)] := by
 have g : GoodE m [] := ⟨good_nil, h0, h1, fun y hy => by cases hy⟩
 refine good_ext (known_good g) (good_one h0 (Int.le_refl _) h1) fun c hc => ?_
 rw [known_has g hc, one_has hc]
 unfold hasE
 simp [hasL]
theorem ent10 {m : Int} (h0 : 0 ≤ m) (h1 : m ≤ 18446744073709551615) : GoodE m [] := ⟨good_nil, h0, h1, fun y hy => by cases hy⟩
end
section
open Go.RowKit
structure T3 (w : World) (L b : Nat) : Prop where
 lo : L ≤ b
 c0 : w.cell? ⟨b, 0, none⟩ = some (.int .u64 0)
 c1 : w.cell? ⟨b, 1, none⟩ = some (.int .u64 0)
 c2 : w.cell? ⟨b, 2, none⟩ = some (.slice none 0 0)
 f0 : w.frozen? ⟨b, 0, none⟩ = false
 f1 : w.frozen? ⟨b, 1, none⟩ = false
 f2 : w.frozen? ⟨b, 2, none⟩ = false
 lt : b < w.heap.size
theorem T3.call {w w' : World} {L b : Nat} (h : T3 w L b) (hb : Below w.heap.size w w') : T3 w' L b := ⟨h.lo, keep_cell h.c0 hb, keep_cell h.c1 hb, keep_cell h.c2 hb, keep_free h.f0 h.lt hb, keep_free h.f1 h.lt hb, keep_free h.f2 h.lt hb, Nat.lt_of_lt_of_le h.lt hb.size⟩
theorem T3.new {w w' : World} {L : Nat} {t : TypeId} (hL : L ≤ w.heap.size) (h : Below (w.alloc (.cells #[.int .u64 0, .int .u64 0, .slice none 0 0] t)).heap.size (w.alloc (.cells #[.int .u64 0, .int .u64 0, .slice none 0 0] t)) w') : T3 w' L w.heap.size :=
 T3.call (w := w.alloc (.cells #[.int .u64 0, .int .u64 0, .slice none 0 0] t)) ⟨hL, by simp, by simp, by simp, by simp, by simp, by simp, by simp⟩ h
theorem T3.newlt {w w' : World} {t : TypeId} (_ : Below (w.alloc (.cells #[.int .u64 0, .int .u64 0, .slice none 0 0] t)).heap.size (w.alloc (.cells #[.int .u64 0, .int .u64 0, .slice none 0 0] t)) w') : w.heap.size < (w.alloc (.cells #[.int .u64 0, .int .u64 0, .slice none 0 0] t)).heap.size := by simp
theorem s2_below {W w1 : World} {p : Addr} {a : Value} (h : Below W.heap.size W w1 ∧ w1.cell? p = some a) : Below W.heap.size W w1 := h.1
theorem s2_call {W w1 w2 : World} {p : Addr} {a : Value} (h : Below W.heap.size W w1 ∧ w1.cell? p = some a) (hb : Hid (Below w1.heap.size w1 w2)) : Below W.heap.size W w2 ∧ w2.cell? p = some a := ⟨below_call h.1 hb.out, keep_cell h.2 hb.out⟩
theorem s2_new {W w1 : World} {p : Addr} {a : Value} {o : Obj} (h : Below W.heap.size W w1 ∧ w1.cell? p = some a) : Below W.heap.size W (w1.alloc o) ∧ (w1.alloc o).cell? p = some a := s2_call h (Lib.hid (below_new _ _))
theorem s2_drew {W w1 : World} {p : Addr} {a : Value} (h : Below W.heap.size W w1 ∧ w1.cell? p = some a) : Below W.heap.size W w1.drew ∧ w1.drew.cell? p = some a := s2_call h (Lib.hid (Below.refl _ _).drew)
theorem s2_set {W w1 : World} {p : Addr} {a : Value} {b : Nat} (h : Below W.heap.size W w1 ∧ w1.cell? p = some a) (hb : W.heap.size ≤ b) (hp : p.block < W.heap.size) (x y z : Value) :
 Below W.heap.size W (((w1.setCell ⟨b, 0, none⟩ x).setCell ⟨b, 1, none⟩ y).setCell ⟨b, 2, none⟩ z) ∧ (((w1.setCell ⟨b, 0, none⟩ x).setCell ⟨b, 1, none⟩ y).setCell ⟨b, 2, none⟩ z).cell? p = some a := by
 refine ⟨((h.1.setCell (p := ⟨b, 0, none⟩) hb _).setCell (p := ⟨b, 1, none⟩) hb _).setCell (p := ⟨b, 2, none⟩) hb _, ?_⟩
 rw [World.cell?_setCell_other _ _ _ _ (fun e => by rw [← e] at hp; exact absurd hp (by show ¬ b < _; omega)), World.cell?_setCell_other _ _ _ _ (fun e => by rw [← e] at hp; exact absurd hp (by show ¬ b < _; omega)), World.cell?_setCell_other _ _ _ _ (fun e => by rw [← e] at hp; exact absurd hp (by show ¬ b < _; omega))]
 exact h.2
theorem fin_hol {w : World} {b B : Nat} {s : Value} {H : List Iv} (hi : IvsAt w s H ∧ SoftE w B s H.length) (hb : b < B) (x y z : Value) :
 IvsAt (((w.setCell ⟨b, 0, none⟩ x).setCell ⟨b, 1, none⟩ y).setCell ⟨b, 2, none⟩ z) s H ∧ SoftE (((w.setCell ⟨b, 0, none⟩ x).setCell ⟨b, 1, none⟩ y).setCell ⟨b, 2, none⟩ z) B s H.length :=
 soft_set (o := 2) (soft_set (o := 1) (soft_set (o := 0) hi hb x) hb y) hb z
theorem pack_set {w : World} {b BB : Nat} {s : Value} {H : List Iv} (c0 : w.cell? ⟨b, 0, none⟩ = some (.int .u64 0)) (c1 : w.cell? ⟨b, 1, none⟩ = some (.int .u64 0)) (c2 : w.cell? ⟨b, 2, none⟩ = some (.slice none 0 0)) (hi : IvsAt w s H ∧ SoftE w BB s H.length) (hb : b < BB) (r t : Int) :
 ∃ wE, (((w.setCell ⟨b, 0, none⟩ (.int .u64 r)).setCell ⟨b, 1, none⟩ (.int .u64 t)).setCell ⟨b, 2, none⟩ s) = wE ∧ E3 wE b r t s ∧ IvsAt wE s H ∧ SoftE wE BB s H.length := ⟨_, rfl, three_stored c0 c1 c2 _ _ _, fin_hol hi hb _ _ _⟩
theorem pack_new {w : World} {BB : Nat} {s : Value} {H : List Iv} (hi : IvsAt w s H ∧ SoftE w BB s H.length) (r t : Int) :
 ∃ wE, w.alloc (.cells #[.int .u64 r, .int .u64 t, s] 51) = wE ∧ E3 wE w.heap.size r t s ∧ IvsAt wE s H ∧ SoftE wE BB s H.length := ⟨_, rfl, E3.new w r t s _ _ rfl, hi.1.call (below_new _ _), hi.2.call (below_new _ _)⟩
theorem reps_take {A : VcT} {P : List Int} {k : Nat} {r m : Int} {H : List Iv} (h : A[k]? = some (r, m, H)) : ((P ++ (A.take (k + 1)).map (·.1)).foldl insI []) = insI ((P ++ (A.take k).map (·.1)).foldl insI []) r := by
 rw [take_snoc9 h, List.map_append, ← List.append_assoc, List.foldl_append]; rfl
theorem opV_snoc {f : List Iv → List Iv → List Iv} {A B : VcT} {R : List Int} {k : Nat} {r : Int} (h : R[k]? = some r) :
 (R.take (k + 1)).filterMap (opE f A B) = if f (knV A r) (knV B r) = [] then (R.take k).filterMap (opE f A B) else (R.take k).filterMap (opE f A B) ++ [(repE r (f (knV A r) (knV B r)), topL (f (knV A r) (knV B r)), holesL (f (knV A r) (knV B r)))] := by
 rw [take_snoc9 h, List.filterMap_append]
 by_cases hk : f (knV A r) (knV B r) = []
 ·rw [if_pos hk]
  have : opE f A B r = none := by unfold opE; rw [if_pos hk]
  rw [List.filterMap_cons_none this]; simp
 ·rw [if_neg hk]
  have : opE f A B r = some (r, topL (f (knV A r) (knV B r)), holesL (f (knV A r) (knV B r))) := by unfold opE; rw [if_neg hk]
  rw [List.filterMap_cons_some this]
  unfold repE
  rw [if_neg hk]; rfl
theorem kn_len {V : VcT} {n h : Nat} (g : GoodV V) (s : smallV n h V) (r : Int) : (knV V r).length ≤ h + 1 := by
 rcases knV_cases g.asc r with ⟨x, hx, _, e⟩ | ⟨_, e⟩
 ·rw [e]; have := known_count (g.ent x hx); have := s.2 x hx; omega
 ·rw [e]; exact Nat.zero_le _
def IsVO (V : VcT) (w : World) (e : Ending) (w' : World) : Prop := ∃ u, e = .returned u ∧ OutV w' w.heap.size u V ∧ V.length ≤ 100000 ∧ Below w.heap.size w w'
theorem OutV.base {w : World} {B B' : Nat} {v : Value} {V : VcT} (h : OutV w B v V) (hB : B' ≤ B) : OutV w B' v V := by
 obtain ⟨es, h1, h2, h3⟩ := h
 exact ⟨es, h1, own_base h2 hB, fun i e x he hx => ⟨(h3 i e x he hx).1, (h3 i e x he hx).2.1, (h3 i e x he hx).2.2.ivs, (h3 i e x he hx).2.2.soft.base hB, (h3 i e x he hx).2.2.apart⟩⟩
def RefDoO10 : Prop := ∀ (o : Int) (f : List Iv → List Iv → List Iv), (∀ (a b : List Iv) (s t : Value) (w : World), OpAt w s a → OpAt w t b → Calls Tryz.prog 118 #[s, t, .int .i64 o] w (IsOwnR (f a b) w)) →
 (∀ K L, GoodL K → GoodL L → GoodL (f K L) ∧ (f K L).length ≤ K.length + L.length) → ∀ (A B : VcT) (a b : Value) (w : World), VecI w a A → VecI w b B → GoodV A → GoodV B → smallV 1000 1000 A → smallV 1000 1000 B →
 Calls Tryz.prog 113 #[a, b, .int .i64 o] w (IsVO (opV f A B) w)
set_option maxRecDepth 100000 in
set_option maxHeartbeats 32000000 in
theorem refDo10_out : RefDoO10 := by
 intro o f hdo hf A B a b w ha hb gA gB sA sB
 obtain ⟨i0, hi', hz0, hz1, hz2⟩ := info_parts infoE
 obtain ⟨pa, ca, rfl⟩ := ha.shape
 obtain ⟨pb, cb, rfl⟩ := hb.shape
 have hla := sA.1
 have hlb := sB.1
 have HA := Lib.hid ha; have HB' := Lib.hid hb; have HGDA := Lib.hid gA; have HGDB := Lib.hid gB; have HSA := Lib.hid sA; have HSB' := Lib.hid sB
 have KD := Lib.hid hdo; have HF := Lib.hid hf
 have KP := Lib.hid put10_any
 clear ha hb gA gB sA sB hdo hf
 go_enter Tryz.func113, Tryz.ntmps113
 go_wp2_with fail
 go_loopw [7, 8] (fun u i wr => ∃ k : Nat, i = .int .i64 k ∧ k ≤ A.length ∧ OwnN wr w.heap.size u ((([] : List Int) ++ (A.take k).map (·.1)).foldl insI []) ∧ Below w.heap.size w wr) (fun _ i _ => A.length - (intOf i).toNat)
 case atStart => exact ⟨0, rfl, Nat.zero_le _, OwnN.nil _ _, Below.refl _ _⟩
 case round =>
  obtain ⟨k, rfl, hk, hown, hb⟩ := hrel
  have HB := Lib.hid hb; clear hb
  by_cases hlt : k < A.length
  ·obtain ⟨⟨x, m, H⟩, hx⟩ : ∃ x, A[k]? = some x := ⟨A[k], by simp [hlt]⟩
   obtain ⟨b, ob, cp, q, n, c, e, c0, c1, c2, _⟩ := (HA.out.call HB.out).elem hx
   cases e
   have HX := Lib.hid (reps_take (P := []) hx)
   have hfl := fold_len (([] : List Int) ++ (A.take k).map (·.1)) []
   simp only [List.nil_append, List.length_map, List.length_take, List.length_nil] at hfl
   have hasc := (fold_ins (([] : List Int) ++ (A.take k).map (·.1)) [] List.Pairwise.nil).1
   have hlS : ((([] : List Int) ++ (A.take k).map (·.1)).foldl insI []).length ≤ 99999 := by simp only [List.nil_append]; omega
   have i1 : (0 : Int) ≤ (k : Int) := by omega
   have i2 : (k : Int) < (A.length : Int) := by omega
   have KP1 := Lib.hid (KP.out _ x _ _ w.heap.size HB.out.size hown hasc hlS)
   clear hown hasc hlS hfl c1 c2 hx
   generalize (([] : List Int) ++ (A.take k).map (·.1)).foldl insI [] = SS at *
   go_wp2_with fail
   refine KP1.out.mono ?_
   rintro e w1 ⟨u1, rfl, hu, h⟩
   have HU := Lib.hid hu; have H1 := Lib.hid (below_call HB.out h); clear hu h c0
   go_wp2_with fail
   go_roundw
   case rel => exact ⟨k + 1, by go_num, by omega, by rw [HX.out]; exact HU.out, H1.out⟩
   case measure => simp [intOf]; omega
  ·obtain rfl : k = A.length := by omega
   rw [List.take_of_length_le (Nat.le_refl _), List.nil_append] at hown
   have HO := Lib.hid hown; clear hown
   obtain ⟨wA, rfl⟩ : ∃ wA : World, wA = wr := ⟨_, rfl⟩
   go_wp2_with fail
   go_loopw [7, 9] (fun u i wr => ∃ k : Nat, i = .int .i64 k ∧ k ≤ B.length ∧ OwnN wr w.heap.size u ((A.map (·.1) ++ (B.take k).map (·.1)).foldl insI []) ∧ Below w.heap.size w wr) (fun _ i _ => B.length - (intOf i).toNat)
   case atStart => exact ⟨0, rfl, Nat.zero_le _, by rw [List.take_zero, List.map_nil, List.append_nil]; exact HO.out, HB.out⟩
   case round =>
    clear HB HO
    obtain ⟨k, rfl, hk, hown, hb⟩ := hrel
    have HB := Lib.hid hb; clear hb
    by_cases hlt : k < B.length
    ·obtain ⟨⟨x, m, H⟩, hx⟩ : ∃ x, B[k]? = some x := ⟨B[k], by simp [hlt]⟩
     obtain ⟨b, ob, cp, q, n, c, e, c0, c1, c2, _⟩ := (HB'.out.call HB.out).elem hx
     cases e
     have HX := Lib.hid (reps_take (P := A.map (·.1)) hx)
     have hfl := fold_len (A.map (·.1) ++ (B.take k).map (·.1)) []
     simp only [List.length_append, List.length_map, List.length_take, List.length_nil] at hfl
     have hasc := (fold_ins (A.map (·.1) ++ (B.take k).map (·.1)) [] List.Pairwise.nil).1
     have i1 : (0 : Int) ≤ (k : Int) := by omega
     have i2 : (k : Int) < (B.length : Int) := by omega
     have KP1 := Lib.hid (KP.out _ x _ _ w.heap.size HB.out.size hown hasc (by omega))
     clear hown hasc hfl c1 c2 hx
     generalize (A.map (·.1) ++ (B.take k).map (·.1)).foldl insI [] = SS at *
     go_wp2_with fail
     refine KP1.out.mono ?_
     rintro e w1 ⟨u1, rfl, hu, h⟩
     have HU := Lib.hid hu; have H1 := Lib.hid (below_call HB.out h); clear hu h c0
     go_wp2_with fail
     go_roundw
     case rel => exact ⟨k + 1, by go_num, by omega, by rw [HX.out]; exact HU.out, H1.out⟩
     case measure => simp [intOf]; omega
    ·obtain rfl : k = B.length := by omega
     rw [List.take_of_length_le (Nat.le_refl _)] at hown
     have hrl : (repsV A B).length ≤ 2000 := by
      unfold repsV
      have := fold_len (A.map (·.1) ++ B.map (·.1)) []
      simp only [List.length_append, List.length_map, List.length_nil] at this
      omega
     have hown' : OwnN _ w.heap.size _ (repsV A B) := hown
     obtain ⟨pu, cu, hsh, _⟩ := own_shape hown'
     have HOV : Hid (opV f A B = (repsV A B).filterMap (opE f A B)) := Lib.hid rfl
     obtain ⟨R, hR⟩ : ∃ R, repsV A B = R := ⟨_, rfl⟩
     rw [hR] at hown' hrl HOV
     have hsh' : _ = Value.slice pu R.length cu := hR ▸ hsh
     subst hsh'
     have HO := Lib.hid hown'; clear hown hown' hsh
     obtain ⟨wE, rfl⟩ : ∃ wE : World, wE = wr := ⟨_, rfl⟩
     go_wp2_with fail
     go_loopw [10, 11] (fun vo i wr => ∃ k : Nat, i = .int .i64 k ∧ k ≤ R.length ∧ OutV wr wE.heap.size vo ((R.take k).filterMap (opE f A B)) ∧ Below wE.heap.size wE wr) (fun _ i _ => R.length - (intOf i).toNat)
     case atStart => exact ⟨0, rfl, Nat.zero_le _, OutV.nil _ _, Below.refl _ _⟩
     case round =>
      obtain ⟨k, rfl, hk, hout, hb⟩ := hrel
      obtain ⟨pv, cv, rfl⟩ := hout.shape
      have HBE := Lib.hid hb; clear hb
      have hszw := HBE.out.size
      by_cases hlt : k < R.length
      ·obtain ⟨r, hr⟩ : ∃ r, R[k]? = some r := ⟨R[k], by simp [hlt]⟩
       rcases own_nil_or HO.out with ⟨_, h0⟩ | ⟨g, cu', eg⟩
       ·omega
       cases eg
       have HGW : Hid ((⟨g, k, none⟩ : Addr).block < wr.heap.size) := Lib.hid (by
        have h1 := (World.ownsRow.lt (show wE.ownsRow w.heap.size 28 1 (.slice (some ⟨g, 0, none⟩) R.length cu) R.length (nmC R) from HO.out) g rfl).2
        show g < _; omega)
       have c0 : wr.cell? ⟨g, k, none⟩ = some (.int .u64 r) := by
        have hrow : wE.ownsRow w.heap.size 28 1 (.slice (some ⟨g, 0, none⟩) R.length cu) R.length (nmC R) := HO.out
        exact keep_cell (by rw [hrow.cellAt k (by omega)]; exact nmU_at hr) HBE.out
       have HA2 := Lib.hid (HA.out.call (below_call HB.out HBE.out))
       have HB2 := Lib.hid (HB'.out.call (below_call HB.out HBE.out))
       have KA := Lib.hid (fun W h => refKnown10_any A _ r W (HA2.out.call h) HGDA.out (fun x hx => by have := HSA.out.2 x hx; omega))
       have KB := Lib.hid (fun W h => refKnown10_any B _ r W (HB2.out.call h) HGDB.out (fun x hx => by have := HSB'.out.2 x hx; omega))
       have hka := kn_len HGDA.out HSA.out r
       have hkb := kn_len HGDB.out HSB'.out r
       have hga := knV_good HGDA.out r
       have hgb := knV_good HGDB.out r
       have hff := HF.out _ _ hga hgb
       have HSN := Lib.hid (opV_snoc (f := f) (A := A) (B := B) hr)
       have hol : ((R.take k).filterMap (opE f A B)).length ≤ 100000 := by
        refine Nat.le_trans (List.length_filterMap_le _ _) ?_
        rw [List.length_take]; omega
       generalize knV A r = KA9 at *
       generalize knV B r = KB9 at *
       have HGA := Lib.hid hga; have HGB := Lib.hid hgb
       have HLF := Lib.hid (show (f KA9 KB9).length ≤ 20000 by omega)
       have HGF := Lib.hid hff.1
       clear hga hgb hff
       generalize (R.take k).filterMap (opE f A B) = P at *
       have KO0 := Lib.hid (fun s W h => refOf_any r (f KA9 KB9) s W h)
       unfold IsOf at KO0
       have KD3 := Lib.hid (fun s t W h h2 => KD.out KA9 KB9 s t W h h2)
       obtain ⟨es, hel, hrow, hall⟩ := hout
       have hel2 : es.length ≤ 100000 := by rw [hel]; exact hol
       have HROW := Lib.hid hrow; have HALL := Lib.hid hall; clear hrow hall
       have i1 : (0 : Int) ≤ (k : Int) := by omega
       have i2 : (k : Int) < (R.length : Int) := by omega
       have HSZ := Lib.hid hszw; clear hszw hr hlt
       by_cases hK : f KA9 KB9 = []
       ·have e1 : someE (f KA9 KB9) = false := by rw [hK]; rfl
        rw [e1] at KO0
        have HC' := Lib.hid (HSN.out.trans (if_pos hK)); clear HSN hK e1
        generalize repE r (f KA9 KB9) = rr at *
        generalize topL (f KA9 KB9) = tt at *
        generalize holesL (f KA9 KB9) = hh at *
        have KO := KO0; clear KO0
        generalize f KA9 KB9 = F9 at *
        have HS0 := Lib.hid (s2_drew (⟨Below.refl _ _, c0⟩ : Below wr.heap.size wr wr ∧ wr.cell? ⟨g, k, none⟩ = some (.int .u64 r)))
        go_wp2_with fail
        go_region_held3 (fun w' => Below wr.heap.size wr w' ∧ w'.cell? ⟨g, k, none⟩ = some (.int .u64 r))
         (first
           | exact HS0.out
           | assumption
           | exact s2_call (by assumption) (by assumption)
           | exact s2_drew (by assumption)
           | exact s2_new (by assumption)
           | exact s2_set (by assumption) tlo HGW.out _ _ _)
         (first
           | (go_at_call 162; (with_reducible change Calls _ _ #[.slice pa A.length ca, .int .u64 r] _ _); refine (KA.out _ (s2_below (by assumption))).mono ?_; rintro en w3 ⟨v1, rfl, hv1, h'⟩; (first | (have HT := Lib.hid (T3.new (L := wr.heap.size) (w := wr) (Nat.le_refl _) ((Below.refl _ _).drew.trans h'))) | skip); have HV1 := Lib.hid (OwnL.ivs hv1 (by omega)); clear hv1; have HZ3 : Hid (wr.heap.size ≤ w3.heap.size) := Lib.hid (Nat.le_trans (Below.size (s2_below (by assumption))) h'.size); have h' := Lib.hid h')
           | (go_at_call 162; (with_reducible change Calls _ _ #[.slice pb B.length cb, .int .u64 r] _ _); refine (KB.out _ (s2_below (by assumption))).mono ?_; rintro en w4 ⟨v2, rfl, hv2, h'⟩; (first | (replace HT := Lib.hid (HT.out.call h')) | (have HT := Lib.hid (T3.new (w := w3) HZ3.out h')) | skip); replace HV1 := Lib.hid (show IvsAt w4 v1 KA9 from by first | exact HV1.out.call h' | exact (HV1.out.call (below_new _ _)).call h'); have HV2 := Lib.hid (OwnL.ivs hv2 (by omega)); clear hv2; have HZ4 : Hid (wr.heap.size ≤ w4.heap.size) := Lib.hid (Nat.le_trans (Below.size (s2_below (by assumption))) h'.size); have h' := Lib.hid h')
           | (go_at_call 118; refine (KD3.out v1 v2 _ ⟨(by first | exact HV1.out | exact HV1.out.call (below_new _ _)), HGA.out, by omega⟩ ⟨(by first | exact HV2.out | exact HV2.out.call (below_new _ _)), HGB.out, by omega⟩).mono ?_; rintro en w5 ⟨v3, rfl, hv3, h'⟩; (first | (replace HT := Lib.hid (HT.out.call h')) | (have HT := Lib.hid (T3.new (w := w4) HZ4.out h')) | skip); have HV3 := Lib.hid (OwnL.ivs hv3 (by have := HLF.out; omega)); clear hv3; have HZ5 : Hid (wr.heap.size ≤ w5.heap.size) := Lib.hid (Nat.le_trans (Below.size (s2_below (by assumption))) h'.size); have h' := Lib.hid h')
           | (go_at_call 161; refine (KO.out v3 _ ⟨(by first | exact HV3.out | exact HV3.out.call (below_new _ _)), HGF.out, HLF.out⟩).mono ?_; rintro en w6 ⟨vo, rfl, hvo, hso, h'⟩; obtain ⟨po, co, rfl, _⟩ := hvo.shape; (first | (have HTL := Lib.hid HT.out.lt; replace HT := Lib.hid (HT.out.call h')) | (have HTL := Lib.hid (T3.newlt (w := w5) h'); have HT := Lib.hid (T3.new (w := w5) HZ5.out h')) | skip); have HSB := Lib.hid (Below.size (s2_below (by assumption) : Below wr.heap.size wr _)); have HVO := Lib.hid (And.intro hvo hso); clear hvo hso; (first | (obtain ⟨tlo, t0, t1, t2, u0, u1, u2, tlt⟩ := HT.out) | skip); have h' := Lib.hid h'; have hSw := s2_call (by assumption) h'))
        all_goals
         rename_i hE
         have HE := Lib.hid (s2_below hE); clear hE c0
         go_wp2_with fail
         go_roundw
         case rel => exact ⟨k + 1, by go_num, by omega, by rw [HC'.out]; exact OutV.call ⟨es, hel, HROW.out, HALL.out⟩ HE.out, below_call HBE.out HE.out⟩
         case measure => simp [intOf]; omega
       ·have e1 : someE (f KA9 KB9) = true := some9_of hK
        rw [e1] at KO0
        have HC' := Lib.hid (HSN.out.trans (if_neg hK)); clear HSN hK e1
        generalize repE r (f KA9 KB9) = rr at *
        generalize topL (f KA9 KB9) = tt at *
        generalize holesL (f KA9 KB9) = hh at *
        have KO := KO0; clear KO0
        generalize f KA9 KB9 = F9 at *
        have HS0 := Lib.hid (s2_drew (⟨Below.refl _ _, c0⟩ : Below wr.heap.size wr wr ∧ wr.cell? ⟨g, k, none⟩ = some (.int .u64 r)))
        go_wp2_with fail
        go_region_held3 (fun w' => Below wr.heap.size wr w' ∧ w'.cell? ⟨g, k, none⟩ = some (.int .u64 r))
         (first
           | exact HS0.out
           | assumption
           | exact s2_call (by assumption) (by assumption)
           | exact s2_drew (by assumption)
           | exact s2_new (by assumption)
           | exact s2_set (by assumption) tlo HGW.out _ _ _)
         (first
           | (go_at_call 162; (with_reducible change Calls _ _ #[.slice pa A.length ca, .int .u64 r] _ _); refine (KA.out _ (s2_below (by assumption))).mono ?_; rintro en w3 ⟨v1, rfl, hv1, h'⟩; (first | (have HT := Lib.hid (T3.new (L := wr.heap.size) (w := wr) (Nat.le_refl _) ((Below.refl _ _).drew.trans h'))) | skip); have HV1 := Lib.hid (OwnL.ivs hv1 (by omega)); clear hv1; have HZ3 : Hid (wr.heap.size ≤ w3.heap.size) := Lib.hid (Nat.le_trans (Below.size (s2_below (by assumption))) h'.size); have h' := Lib.hid h')
           | (go_at_call 162; (with_reducible change Calls _ _ #[.slice pb B.length cb, .int .u64 r] _ _); refine (KB.out _ (s2_below (by assumption))).mono ?_; rintro en w4 ⟨v2, rfl, hv2, h'⟩; (first | (replace HT := Lib.hid (HT.out.call h')) | (have HT := Lib.hid (T3.new (w := w3) HZ3.out h')) | skip); replace HV1 := Lib.hid (show IvsAt w4 v1 KA9 from by first | exact HV1.out.call h' | exact (HV1.out.call (below_new _ _)).call h'); have HV2 := Lib.hid (OwnL.ivs hv2 (by omega)); clear hv2; have HZ4 : Hid (wr.heap.size ≤ w4.heap.size) := Lib.hid (Nat.le_trans (Below.size (s2_below (by assumption))) h'.size); have h' := Lib.hid h')
           | (go_at_call 118; refine (KD3.out v1 v2 _ ⟨(by first | exact HV1.out | exact HV1.out.call (below_new _ _)), HGA.out, by omega⟩ ⟨(by first | exact HV2.out | exact HV2.out.call (below_new _ _)), HGB.out, by omega⟩).mono ?_; rintro en w5 ⟨v3, rfl, hv3, h'⟩; (first | (replace HT := Lib.hid (HT.out.call h')) | (have HT := Lib.hid (T3.new (w := w4) HZ4.out h')) | skip); have HV3 := Lib.hid (OwnL.ivs hv3 (by have := HLF.out; omega)); clear hv3; have HZ5 : Hid (wr.heap.size ≤ w5.heap.size) := Lib.hid (Nat.le_trans (Below.size (s2_below (by assumption))) h'.size); have h' := Lib.hid h')
           | (go_at_call 161; refine (KO.out v3 _ ⟨(by first | exact HV3.out | exact HV3.out.call (below_new _ _)), HGF.out, HLF.out⟩).mono ?_; rintro en w6 ⟨vo, rfl, hvo, hso, h'⟩; obtain ⟨po, co, rfl, _⟩ := hvo.shape; (first | (have HTL := Lib.hid HT.out.lt; replace HT := Lib.hid (HT.out.call h')) | (have HTL := Lib.hid (T3.newlt (w := w5) h'); have HT := Lib.hid (T3.new (w := w5) HZ5.out h')) | skip); have HSB := Lib.hid (Below.size (s2_below (by assumption) : Below wr.heap.size wr _)); have HVO := Lib.hid (And.intro hvo hso); clear hvo hso; (first | (obtain ⟨tlo, t0, t1, t2, u0, u1, u2, tlt⟩ := HT.out) | skip); have h' := Lib.hid h'; have hSw := s2_call (by assumption) h'))
        all_goals
         rename_i hE
         have HE := Lib.hid (s2_below hE); clear hE c0
         obtain ⟨wG, hwG, he3, hi, hso⟩ := (by first | exact pack_set t0 t1 t2 HVO.out HTL.out rr tt | exact pack_new HVO.out rr tt)
         have HE2 : Hid (Below wr.heap.size wr wG) := Lib.hid (hwG ▸ HE.out)
         rw [hwG]
         clear hwG HE
         obtain ⟨b0, b1, b2⟩ := he3
         have HAP := Lib.hid (fun h0 => own_apart HROW.out (hso.base HSB.out) h0)
         have HH2 := Lib.hid (And.intro hi (hso.base (Nat.le_trans HSZ.out HSB.out))); clear hi hso
         have HZG := Lib.hid (Nat.le_trans HSZ.out HE2.out.size)
         go_wp2_with (at_builtin; refine wpList_append_own_at _ rfl _ _ 47 rfl wE.heap.size 51 i0 (.agg #[.int .u64 0, .int .u64 0, .slice none 0 0]) 3 40 Tryz.underlying47 hi' hz0 hz1 hz2 rfl (by decide) _ es.length (entC es) rfl (own_below HROW.out (below_call HE2.out (below_new _ _))) ⟨wG.heap.size, 0, none⟩ 1 1 [.int .u64 rr, .int .u64 tt, .slice po hh.length co] rfl rfl (cell_three9 _ _ _ _ _ _ rfl) (by simp [Value.oneCell']) (by unfold maxLen; omega) (by omega) (Nat.le_trans HZG.out (below_new _ _).size) ?_; intro v' w8 hown' hgrow _ hat; have HN := Lib.hid (below_new wG (.cells #[.int .u64 rr, .int .u64 tt, .slice po hh.length co] 51)); have HW8 := Lib.hid (own_grown (below_call HBE.out (below_call HE2.out HN.out)) (own_below HROW.out (below_call HE2.out HN.out)) hgrow (Nat.le_trans HZG.out HN.out.size)); have HP := Lib.hid (OutV.push hel (fun i e x he hx => ⟨(HALL.out i e x he hx).1, (HALL.out i e x he hx).2.1, (HALL.out i e x he hx).2.2.call (below_call HE2.out HN.out)⟩) hown' hgrow hat (⟨HH2.out.1.call HN.out, HH2.out.2.call HN.out, HAP.out⟩ : HolE _ _ _ _ hh)); clear hown' hgrow hat)
         go_roundw
         case rel => exact ⟨k + 1, by go_num, by omega, by rw [HC'.out]; exact HP.out, HW8.out⟩
         case measure => simp [intOf]; omega
      ·obtain rfl : k = R.length := by omega
       rw [List.take_of_length_le (Nat.le_refl _)] at hout
       have HOUT := Lib.hid hout; clear hout
       have hol : ((R).filterMap (opE f A B)).length ≤ 100000 := by
        refine Nat.le_trans (List.length_filterMap_le _ _) ?_
        omega
       have HOL := Lib.hid hol; clear hol
       go_wp2_with fail
       go_ret
       have h9 := (HOUT.out).base HB.out.size
       refine ⟨_, rfl, ?_, ?_, below_call HB.out HBE.out⟩
       ·rw [HOV.out]; simpa using h9
       ·rw [HOV.out]; simpa using HOL.out
end
end Go.Proofs.YtcajknjhkabhjaaGreatDoor
