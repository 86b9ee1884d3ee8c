/- A number put in its place in a list of numbers of a call's own (kenningref10's put). Conditions: as the theorem says. -/
import Derived.Test.YtemhbmcgnmfoaaaGreatDoorPMath
import Derived.Test.YtemhbmcgnmfoaaaGreatDoorRSearch
import Derived.Test.YtemhbmcgnmfoaaaGreatDoorPAlive
import Derived.Test.YtemhbmcgnmfoaaaGreatDoorRStarts
import Derived.Test.YtemhbmcgnmfoaaaGreatDoorOAlg
import Derived.Test.YtemhbmcgnmfoaaaGreatDoorMCount
namespace Go.Proofs.YtemhbmcgnmfoaaaGreatDoor
open Go.RowKit
theorem ascI_eq : ∀ {l m : List Int}, ascL l → ascL m → (∀ x, x ∈ l ↔ x ∈ m) → l = m
  | [], [], _, _, _ => rfl
  | [], y :: m, _, _, h => by have := (h y).2 (by simp); cases this
  | x :: l, [], _, _, h => by have := (h x).1 (by simp); cases this
  | x :: l, y :: m, hl, hm, h => by
    have h1 := List.pairwise_cons.1 hl
    have h2 := List.pairwise_cons.1 hm
    have hxy : x = y := by
      rcases List.mem_cons.1 ((h x).1 (by simp)) with e | hx
      · exact e
      · rcases List.mem_cons.1 ((h y).2 (by simp)) with e | hy
        · exact e.symm
        · have a := h1.1 y hy
          have b := h2.1 x hx
          omega
    subst hxy
    rw [ascI_eq h1.2 h2.2 fun z => ?_]
    constructor
    · intro hz
      rcases List.mem_cons.1 ((h z).1 (by simp [hz])) with e | hz'
      · subst e; have := h1.1 z hz; omega
      · exact hz'
    · intro hz
      rcases List.mem_cons.1 ((h z).2 (by simp [hz])) with e | hz'
      · subst e; have := h2.1 z hz; omega
      · exact hz'
theorem put_there {S : List Int} (h : ascL S) {x : Int} (hx : x ∈ S) : insI S x = S :=
  ascI_eq (ins_asc h x) h fun y => by rw [ins_mem h]; exact ⟨fun hy => hy.elim id fun e => e ▸ hx, .inl⟩
theorem put_new {S : List Int} (h : ascL S) {x : Int} {q : Nat} (h1 : ∀ (j : Nat) y, j < q → S[j]? = some y → y < x) (h2 : ∀ y, S[q]? = some y → x < y) : insI S x = S.take q ++ x :: S.drop q := by
  have ht : ∀ y ∈ S.take q, y < x := fun y hy => by
    obtain ⟨j, hj⟩ := List.mem_iff_getElem?.1 hy
    rw [List.getElem?_take] at hj
    split at hj
    · exact h1 j y ‹_› hj
    · cases hj
  have hd : ∀ y ∈ S.drop q, x < y := fun y hy => by
    obtain ⟨j, hj⟩ := List.mem_iff_getElem?.1 hy
    rw [List.getElem?_drop] at hj
    cases j with
    | zero => exact h2 y hj
    | succ j =>
      have hlt := (List.getElem?_eq_some_iff.1 hj).1
      have hq : S[q]? = some (S[q]'(by omega)) := by simp [show q < S.length by omega]
      have a := h2 _ hq
      have b := List.pairwise_iff_getElem.1 h q (q + (j + 1)) (by omega) hlt (by omega)
      have e := (List.getElem?_eq_some_iff.1 hj).2
      omega
  have hasc : ascL (S.take q ++ x :: S.drop q) := by
    unfold ascL
    rw [List.pairwise_append]
    refine ⟨List.Pairwise.sublist (List.take_sublist _ _) h, List.pairwise_cons.2 ⟨hd, List.Pairwise.sublist (List.drop_sublist _ _) h⟩, fun a ha b hb => ?_⟩
    have h3 := ht a ha
    rcases List.mem_cons.1 hb with rfl | hb
    · exact h3
    · have := hd b hb; omega
  refine ascI_eq (ins_asc h x) hasc fun y => ?_
  rw [ins_mem h, List.mem_append, List.mem_cons]
  have hs : y ∈ S ↔ y ∈ S.take q ∨ y ∈ S.drop q := by rw [← List.mem_append, List.take_append_drop]
  rw [hs]
  constructor
  · rintro ((a | a) | a)
    · exact .inl a
    · exact .inr (.inr a)
    · exact .inr (.inl a)
  · rintro (a | a | a)
    · exact .inl (.inl a)
    · exact .inr a
    · exact .inl (.inr a)
theorem own_noneU (w : World) (k : Nat) (hk : k = w.heap.size) (B : Nat) (hB : B ≤ w.heap.size) : (w.alloc (.cells #[] 34)).ownsRow B 34 1 (.slice (some ⟨k, 0, none⟩) 0 0) 0 [] := by
  subst hk
  exact World.ownsRow_lit w #[] 0 hB (Nat.zero_le _) rfl
theorem nmC_take (S : List Int) (q : Nat) : (nmC S).take q = nmC (S.take q) := by unfold nmC; rw [List.map_take]
theorem one_newU (w : World) (x : Int) (k : Nat) (hk : k = w.heap.size) : ∀ j u, [Value.int .u64 x][j]? = some u → (w.alloc (.cells #[.int .u64 x] 34)).cell? ((⟨k, 0, none⟩ : Addr).add j) = some u := by
  subst hk
  intro j u h
  match j, h with
  | 0, h => simp at h; subst h; simp [Addr.add]
theorem one_cellU {w : World} {g : Nat} {x : Int} (h : w.cell? ⟨g, 0, none⟩ = some (.int .u64 x)) : ∀ j u, [Value.int .u64 x][j]? = some u → w.cell? ((⟨g, 0, none⟩ : Addr).add j) = some u := by
  intro j u hj
  match j, hj with
  | 0, hj => simp at hj; subst hj; rw [Addr.add_lit]; exact h
/-- A call that returns a list of numbers of its own, or of its caller's. -/
def IsPut (B : Nat) (L : List Int) (w : World) (e : Ending) (w' : World) : Prop := ∃ u, e = .returned u ∧ OwnN w' B u L ∧ Below w.heap.size w w'
set_option maxRecDepth 100000 in
set_option maxHeartbeats 8000000 in
theorem put10_nil (x : Int) (w : World) (B : Nat) (hB : B ≤ w.heap.size) : Calls Tryz.prog 78 #[.slice none 0 0, .int .u64 x] w (IsPut B [x] w) := by
  obtain ⟨i0, hi', hz0, hz1, hz2⟩ := info_parts infoU
  have HBB := Lib.hid hB; clear hB
  go_enter Tryz.func78, Tryz.ntmps78
  go_wp2_with fail
  go_loopw [5] (fun i wr => i = .int .i64 0 ∧ wr = w) (fun _ _ => 0)
  case atStart => exact ⟨rfl, rfl⟩
  case round =>
    obtain ⟨rfl, rfl⟩ := hrel
    go_wp2_with fail
    have hS0 : Below wr.heap.size wr wr := Below.refl _ _
    go_region_held3 (fun w' => Below wr.heap.size wr w')
      (first
        | assumption
        | exact (by assumption : Below wr.heap.size wr _).drew
        | exact below_call (by assumption) (below_new _ _)
        | exact below_call (by assumption) (Below.refl _ _).drew)
      (first
        | ((refine step_own_none (by rfl) (.tmp 33) (.tmp 36) _ (by rfl) wr.heap.size 34 i0 1 Tryz.underlying107 hi' _ 0 [] (by rfl) (by first | exact own_below (own_noneU wr _ rfl _ (Nat.le_refl _)) (Below.refl _ _).drew | exact own_below (own_noneU wr _ rfl _ (Nat.le_refl _)) (below_new _ _).drew | exact own_below (own_noneU (wr.alloc _) _ (by simp) _ (by simp)) (Below.refl _ _).drew) (by rfl) ?_))
        | ((refine step_own (by rfl) (.tmp 37) (.tmp 39) _ (by rfl) wr.heap.size 34 i0 (.int .u64 0) 1 8 Tryz.underlying107 hi' hz0 hz1 hz2 rfl (by decide) _ 0 [] (by rfl) (by first | exact own_below (own_noneU wr _ rfl _ (Nat.le_refl _)) (Below.refl _ _).drew | exact own_below (own_noneU wr _ rfl _ (Nat.le_refl _)) (below_new _ _).drew | exact own_below (own_noneU (wr.alloc _) _ (by simp) _ (by simp)) (Below.refl _ _).drew) ⟨_, 0, none⟩ 1 1 [.int .u64 x] (by rfl) rfl (by first | exact one_newU (wr.alloc _) x _ (by simp) | exact fun j u h => keep_cell (one_newU wr x _ rfl j u h) (below_new _ _).drew) (by simp [Value.oneCell']) (by unfold maxLen; omega) (by omega) (Below.size (by assumption)) ?_; intro v2 w2 hown2 hgrow2; have HG2 := Lib.hid (own_grown (by assumption) (by first | exact own_below (own_noneU wr _ rfl _ (Nat.le_refl _)) (Below.refl _ _).drew | exact own_below (own_noneU wr _ rfl _ (Nat.le_refl _)) (below_new _ _).drew | exact own_below (own_noneU (wr.alloc _) _ (by simp) _ (by simp)) (Below.refl _ _).drew) hgrow2 (Below.size (by assumption))); have HO2 := Lib.hid hown2; clear hown2 hgrow2))
        | ((refine step_own_none (by rfl) (.tmp 40) (.tmp 43) _ (by rfl) wr.heap.size 34 i0 1 Tryz.underlying107 hi' _ _ _ (by rfl) HO2.out (by rfl) ?_)))
    all_goals
      obtain ⟨pv, cv, rfl, _⟩ := own_shape HO2.out
      have HO3 : Hid (OwnN w2 B (.slice pv (0 + 1) cv) [x]) := Lib.hid (own_base HO2.out HBB.out)
      go_wp2_with fail
      go_ret
      exact ⟨_, rfl, HO3.out, HG2.out⟩
theorem nmU_at {L : List Int} {i : Nat} {x : Int} (h : L[i]? = some x) : (nmC L)[i]? = some (.int .u64 x) := by unfold nmC; rw [List.getElem?_map, h]; rfl
theorem kept_late {w w1 : World} {x : Int} (h : ((w.alloc (.cells #[] 34)).alloc (.cells #[.int .u64 x] 34)).drew.grownBy w1 (some w.heap.size)) : w1.cell? ⟨w.heap.size + 1, 0, none⟩ = some (.int .u64 x) := by
  have h1 := h.block (w.heap.size + 1) (by show _ < ((w.alloc _).alloc _).heap.size; simp) (by intro e; have := Option.some.inj e; omega)
  rw [World.cell?_of_block (a := ⟨w.heap.size + 1, 0, none⟩) h1]
  exact one_newU (w.alloc (.cells #[] 34)) x (w.heap.size + 1) (by simp) 0 _ rfl
theorem kept_early {w w1 : World} {x : Int} (h : ((w.alloc (.cells #[.int .u64 x] 34)).alloc (.cells #[] 34)).drew.grownBy w1 (some (w.heap.size + 1))) : w1.cell? ⟨w.heap.size, 0, none⟩ = some (.int .u64 x) := by
  have h1 := h.block w.heap.size (by show _ < ((w.alloc _).alloc _).heap.size; simp; omega) (by intro e; have := Option.some.inj e; omega)
  rw [World.cell?_of_block (a := ⟨w.heap.size, 0, none⟩) h1]
  exact keep_cell (one_newU w x w.heap.size rfl 0 _ rfl) (below_new (w.alloc (.cells #[.int .u64 x] 34)) _).drew
set_option maxRecDepth 100000 in
set_option maxHeartbeats 16000000 in
theorem put10_some (S : List Int) (x : Int) (g cv : Nat) (w : World) (B : Nat) (hB : B ≤ w.heap.size) (hown : OwnN w B (.slice (some ⟨g, 0, none⟩) S.length cv) S) (hasc : ascL S) (hl : S.length ≤ 99999) : Calls Tryz.prog 78 #[.slice (some ⟨g, 0, none⟩) S.length cv, .int .u64 x] w (IsPut B (insI S x) w) := by
  obtain ⟨i0, hi', hz0, hz1, hz2⟩ := info_parts infoU
  have HBB := Lib.hid hB; clear hB
  have hrow : w.ownsRow B 34 1 (.slice (some ⟨g, 0, none⟩) S.length cv) S.length (nmC S) := hown
  have hroom := own_room hrow
  have HRM := Lib.hid hroom
  have HCV := Lib.hid (fun (j : Nat) (u : Value) (hu : (nmC S)[j]? = some u) => (show w.cell? ⟨g, j, none⟩ = some u by
    rw [hrow.cellAt j (by have := (List.getElem?_eq_some_iff.1 hu).1; rw [nmC_len] at this; exact this)]; exact hu))
  have HOW := Lib.hid hown; have HAS := Lib.hid hasc
  clear hrow hown hasc
  go_enter Tryz.func78, Tryz.ntmps78
  go_wp2_with fail
  go_loopw [5] (fun i wr => ∃ q : Nat, i = .int .i64 q ∧ q ≤ S.length ∧ (∀ (j : Nat) y, j < q → S[j]? = some y → y < x) ∧ w = wr) (fun i _ => S.length - (intOf i).toNat)
  case atStart => exact ⟨0, rfl, Nat.zero_le _, fun j y hj => absurd hj (Nat.not_lt_zero j), rfl⟩
  case round =>
    obtain ⟨q, rfl, hq, hbef, rfl⟩ := hrel
    have HBF := Lib.hid hbef; clear hbef
    by_cases hlt : q < S.length
    · obtain ⟨y, hy⟩ : ∃ y, S[q]? = some y := ⟨S[q], by simp [hlt]⟩
      have c0 : w.cell? ⟨g, q, none⟩ = some (.int .u64 y) := HCV.out q _ (nmU_at hy)
      have i1 : (0 : Int) ≤ (q : Int) := by omega
      have i2 : (q : Int) < (S.length : Int) := by omega
      have HY := Lib.hid hy; clear hy
      by_cases h1 : y < x
      · go_wp2_with fail
        go_roundw
        case rel => exact ⟨q + 1, by go_num, by omega, fun j z hj hz => by
          rcases Nat.lt_or_eq_of_le (Nat.le_of_lt_succ hj) with h | h
          · exact HBF.out j z h hz
          · subst h
            obtain rfl := Option.some.inj (HY.out.symm.trans hz)
            exact h1, by trivial⟩
        case measure => simp [intOf]; omega
      · have e0 : decide (y < x) = false := decide_eq_false h1
        by_cases h2 : y = x
        · subst h2
          have HF : Hid (OwnN w B (.slice (some ⟨g, 0, none⟩) S.length cv) (insI S y)) := Lib.hid (by rw [put_there HAS.out (List.mem_iff_getElem?.2 ⟨q, HY.out⟩)]; exact HOW.out)
          go_wp2_with fail
          go_ret
          exact ⟨_, rfl, HF.out, Below.refl _ _⟩
        · have HI := Lib.hid (put_new HAS.out HBF.out (fun z hz => by
            obtain rfl := Option.some.inj (HY.out.symm.trans hz)
            omega))
          have e1 : (y == x) = false := by simpa using h2
          clear h2
          by_cases hce : cv = q
          · subst cv
            have HLD := Lib.hid (show (nmC (S.drop q)).length = (S.length - q) * 1 by rw [nmC_len, List.length_drop])
            have HLT := Lib.hid (show (nmC (S.take q)).length = q * 1 by rw [nmC_len, List.length_take]; omega)
            have HND := Lib.hid (show nmC (S.drop q) = [] by unfold nmC; rw [List.drop_of_length_le (by have := HRM.out; omega)]; rfl)
            have HCD := Lib.hid (fun (W' : World) (_ : Below w.heap.size w W') (j : Nat) (u : Value) (hu : (nmC (S.drop q))[j]? = some u) => (show W'.cell? ((⟨g, 0, none⟩ : Addr).add j) = some u by rw [HND.out] at hu; simp at hu))
            have HCT := Lib.hid (fun (W' : World) (h : Below w.heap.size w W') (j : Nat) (u : Value) (hu : (nmC (S.take q))[j]? = some u) => (show W'.cell? ((⟨g, 0, none⟩ : Addr).add j) = some u by
              rw [Addr.add_lit, Nat.zero_add]; exact keep_cell (HCV.out j u (by
                rw [← nmC_take, List.getElem?_take] at hu
                split at hu
                · exact hu
                · cases hu)) h))
            have s1 : (0 : Int) ≤ (q : Int) := by omega
            have s2 : (q : Int) ≤ (q : Int) := by have := HRM.out; omega
            have s3 : (q : Int) ≤ (S.length : Int) := by omega
            clear hroom
            go_wp2_with fail
            have hS0 : Below w.heap.size w w := Below.refl _ _
            go_region_held3 (fun w' => Below w.heap.size w w')
              (first
                | assumption
                | exact (by assumption : Below w.heap.size w _).drew
                | exact below_call (by assumption) (below_new _ _)
                | exact below_call (by assumption) (Below.refl _ _).drew)
              (first
                | ((refine step_own (by rfl) (.tmp 33) (.tmp 36) _ (by rfl) w.heap.size 34 i0 (.int .u64 0) 1 8 Tryz.underlying107 hi' hz0 hz1 hz2 rfl (by decide) _ 0 [] (by rfl) (by first | exact own_below (own_noneU w _ rfl _ (Nat.le_refl _)) (Below.refl _ _).drew | exact own_below (own_noneU w _ rfl _ (Nat.le_refl _)) (below_new _ _).drew | exact own_below (own_noneU (w.alloc _) _ (by simp) _ (by simp)) (Below.refl _ _).drew) ⟨g, 0, none⟩ q q (nmC (S.take q)) (by rfl) HLT.out (HCT.out _ (by assumption)) (nmC_one _) (by unfold maxLen; omega) (by omega) (Below.size (by assumption)) ?_; intro v1 w1 hown1 hgrow1; rw [Nat.zero_add, List.nil_append] at hown1; have HG1 := Lib.hid (own_grown (by assumption) (by first | exact own_below (own_noneU w _ rfl _ (Nat.le_refl _)) (Below.refl _ _).drew | exact own_below (own_noneU w _ rfl _ (Nat.le_refl _)) (below_new _ _).drew | exact own_below (own_noneU (w.alloc _) _ (by simp) _ (by simp)) (Below.refl _ _).drew) hgrow1 (Below.size (by assumption))); obtain ⟨p1, c1, rfl, _⟩ := own_shape hown1; have HO1 := Lib.hid hown1; (first | (have HCX := Lib.hid (one_cellU (kept_late hgrow1))) | (have HCX := Lib.hid (one_cellU (kept_early hgrow1))) | skip); have hS1 := HG1.out; clear hown1 hgrow1))
                | ((refine step_own (by rfl) (.tmp 37) (.tmp 39) _ (by rfl) w.heap.size 34 i0 (.int .u64 0) 1 8 Tryz.underlying107 hi' hz0 hz1 hz2 rfl (by decide) _ q _ (by rfl) (by first | exact HO1.out | exact own_below HO1.out (below_new _ _)) ⟨_, 0, none⟩ 1 1 [.int .u64 x] (by rfl) rfl (by first | exact HCX.out | exact one_newU w1 x _ rfl) (by simp [Value.oneCell']) (by unfold maxLen; omega) (by omega) (Below.size (by assumption)) ?_; intro v2 w2 hown2 hgrow2; have HG2 := Lib.hid (own_grown (by assumption) (by first | exact HO1.out | exact own_below HO1.out (below_new _ _)) hgrow2 (Below.size (by assumption))); obtain ⟨p2, c2, rfl, _⟩ := own_shape hown2; have HO2 := Lib.hid hown2; have hS2 := HG2.out; clear hown2 hgrow2))
                | ((refine step_own (by rfl) (.tmp 40) (.tmp 43) _ (by rfl) w.heap.size 34 i0 (.int .u64 0) 1 8 Tryz.underlying107 hi' hz0 hz1 hz2 rfl (by decide) _ (q + 1) _ (by rfl) HO2.out ⟨g, 0, none⟩ (S.length - q) 0 (nmC (S.drop q)) (by rfl) HLD.out (HCD.out _ hS2) (nmC_one _) (by unfold maxLen; omega) (by omega) hS2.size ?_; intro v3 w3 hown3 hgrow3; have HG3 := Lib.hid (own_grown hS2 HO2.out hgrow3 hS2.size); obtain ⟨p3, c3, rfl, _⟩ := own_shape hown3; have HO3 := Lib.hid hown3; clear hown3 hgrow3)))
            all_goals
              have HF : Hid (OwnN w3 B (.slice p3 (q + 1 + (S.length - q)) c3) (insI S x)) := Lib.hid (by
                have e1 : (insI S x).length = q + 1 + (S.length - q) := by rw [HI.out, List.length_append, List.length_cons, List.length_take, List.length_drop]; omega
                have e2 : nmC (insI S x) = nmC (S.take q) ++ [.int .u64 x] ++ nmC (S.drop q) := by rw [HI.out]; simp [nmC]
                unfold OwnN
                rw [e1, e2]
                exact own_base HO3.out HBB.out)
              clear HO3
              go_wp2_with fail
              go_ret
              exact ⟨_, rfl, HF.out, HG3.out⟩
          · have hce0 : ¬ cv - q = 0 := by have := HRM.out; omega
            have HLD := Lib.hid (show (nmC (S.drop q)).length = (S.length - q) * 1 by rw [nmC_len, List.length_drop])
            have HLT := Lib.hid (show (nmC (S.take q)).length = q * 1 by rw [nmC_len, List.length_take]; omega)
            have HCD := Lib.hid (fun (W' : World) (h : Below w.heap.size w W') (j : Nat) (u : Value) (hu : (nmC (S.drop q))[j]? = some u) => (show W'.cell? ((⟨g, q, none⟩ : Addr).add j) = some u by
              rw [Addr.add_lit]; exact keep_cell (HCV.out (q + j) u (nm_drop S q j hu)) h))
            have HCT := Lib.hid (fun (W' : World) (h : Below w.heap.size w W') (j : Nat) (u : Value) (hu : (nmC (S.take q))[j]? = some u) => (show W'.cell? ((⟨g, 0, none⟩ : Addr).add j) = some u by
              rw [Addr.add_lit, Nat.zero_add]; exact keep_cell (HCV.out j u (by
                rw [← nmC_take, List.getElem?_take] at hu
                split at hu
                · exact hu
                · cases hu)) h))
            have s1 : (0 : Int) ≤ (q : Int) := by omega
            have s2 : (q : Int) ≤ (cv : Int) := by have := HRM.out; omega
            have s3 : (q : Int) ≤ (S.length : Int) := by omega
            clear hroom
            go_wp2_with fail
            have hS0 : Below w.heap.size w w := Below.refl _ _
            go_region_held3 (fun w' => Below w.heap.size w w')
              (first
                | assumption
                | exact (by assumption : Below w.heap.size w _).drew
                | exact below_call (by assumption) (below_new _ _)
                | exact below_call (by assumption) (Below.refl _ _).drew)
              (first
                | ((refine step_own (by rfl) (.tmp 33) (.tmp 36) _ (by rfl) w.heap.size 34 i0 (.int .u64 0) 1 8 Tryz.underlying107 hi' hz0 hz1 hz2 rfl (by decide) _ 0 [] (by rfl) (by first | exact own_below (own_noneU w _ rfl _ (Nat.le_refl _)) (Below.refl _ _).drew | exact own_below (own_noneU w _ rfl _ (Nat.le_refl _)) (below_new _ _).drew | exact own_below (own_noneU (w.alloc _) _ (by simp) _ (by simp)) (Below.refl _ _).drew) ⟨g, 0, none⟩ q cv (nmC (S.take q)) (by rfl) HLT.out (HCT.out _ (by assumption)) (nmC_one _) (by unfold maxLen; omega) (by omega) (Below.size (by assumption)) ?_; intro v1 w1 hown1 hgrow1; rw [Nat.zero_add, List.nil_append] at hown1; have HG1 := Lib.hid (own_grown (by assumption) (by first | exact own_below (own_noneU w _ rfl _ (Nat.le_refl _)) (Below.refl _ _).drew | exact own_below (own_noneU w _ rfl _ (Nat.le_refl _)) (below_new _ _).drew | exact own_below (own_noneU (w.alloc _) _ (by simp) _ (by simp)) (Below.refl _ _).drew) hgrow1 (Below.size (by assumption))); obtain ⟨p1, c1, rfl, _⟩ := own_shape hown1; have HO1 := Lib.hid hown1; (first | (have HCX := Lib.hid (one_cellU (kept_late hgrow1))) | (have HCX := Lib.hid (one_cellU (kept_early hgrow1))) | skip); have hS1 := HG1.out; clear hown1 hgrow1))
                | ((refine step_own (by rfl) (.tmp 37) (.tmp 39) _ (by rfl) w.heap.size 34 i0 (.int .u64 0) 1 8 Tryz.underlying107 hi' hz0 hz1 hz2 rfl (by decide) _ q _ (by rfl) (by first | exact HO1.out | exact own_below HO1.out (below_new _ _)) ⟨_, 0, none⟩ 1 1 [.int .u64 x] (by rfl) rfl (by first | exact HCX.out | exact one_newU w1 x _ rfl) (by simp [Value.oneCell']) (by unfold maxLen; omega) (by omega) (Below.size (by assumption)) ?_; intro v2 w2 hown2 hgrow2; have HG2 := Lib.hid (own_grown (by assumption) (by first | exact HO1.out | exact own_below HO1.out (below_new _ _)) hgrow2 (Below.size (by assumption))); obtain ⟨p2, c2, rfl, _⟩ := own_shape hown2; have HO2 := Lib.hid hown2; have hS2 := HG2.out; clear hown2 hgrow2))
                | ((refine step_own (by rfl) (.tmp 40) (.tmp 43) _ (by rfl) w.heap.size 34 i0 (.int .u64 0) 1 8 Tryz.underlying107 hi' hz0 hz1 hz2 rfl (by decide) _ (q + 1) _ (by rfl) HO2.out ⟨g, q, none⟩ (S.length - q) (cv - q) (nmC (S.drop q)) (by rfl) HLD.out (HCD.out _ hS2) (nmC_one _) (by unfold maxLen; omega) (by omega) hS2.size ?_; intro v3 w3 hown3 hgrow3; have HG3 := Lib.hid (own_grown hS2 HO2.out hgrow3 hS2.size); obtain ⟨p3, c3, rfl, _⟩ := own_shape hown3; have HO3 := Lib.hid hown3; clear hown3 hgrow3)))
            all_goals
              have HF : Hid (OwnN w3 B (.slice p3 (q + 1 + (S.length - q)) c3) (insI S x)) := Lib.hid (by
                have e1 : (insI S x).length = q + 1 + (S.length - q) := by rw [HI.out, List.length_append, List.length_cons, List.length_take, List.length_drop]; omega
                have e2 : nmC (insI S x) = nmC (S.take q) ++ [.int .u64 x] ++ nmC (S.drop q) := by rw [HI.out]; simp [nmC]
                unfold OwnN
                rw [e1, e2]
                exact own_base HO3.out HBB.out)
              clear HO3
              go_wp2_with fail
              go_ret
              exact ⟨_, rfl, HF.out, HG3.out⟩
    · have i1 : (0 : Int) ≤ (q : Int) := by omega
      have i3 : ¬ (q : Int) < (S.length : Int) := by omega
      have i4 : decide ((q : Int) < (S.length : Int)) = false := decide_eq_false i3
      have HI := Lib.hid (put_new HAS.out HBF.out (fun z hz => by
        have := (List.getElem?_eq_some_iff.1 hz).1
        omega))
      by_cases hce : cv = q
      · subst cv
        have HLD := Lib.hid (show (nmC (S.drop q)).length = (S.length - q) * 1 by rw [nmC_len, List.length_drop])
        have HLT := Lib.hid (show (nmC (S.take q)).length = q * 1 by rw [nmC_len, List.length_take]; omega)
        have HND := Lib.hid (show nmC (S.drop q) = [] by unfold nmC; rw [List.drop_of_length_le (by have := HRM.out; omega)]; rfl)
        have HCD := Lib.hid (fun (W' : World) (_ : Below w.heap.size w W') (j : Nat) (u : Value) (hu : (nmC (S.drop q))[j]? = some u) => (show W'.cell? ((⟨g, 0, none⟩ : Addr).add j) = some u by rw [HND.out] at hu; simp at hu))
        have HCT := Lib.hid (fun (W' : World) (h : Below w.heap.size w W') (j : Nat) (u : Value) (hu : (nmC (S.take q))[j]? = some u) => (show W'.cell? ((⟨g, 0, none⟩ : Addr).add j) = some u by
          rw [Addr.add_lit, Nat.zero_add]; exact keep_cell (HCV.out j u (by
            rw [← nmC_take, List.getElem?_take] at hu
            split at hu
            · exact hu
            · cases hu)) h))
        have s1 : (0 : Int) ≤ (q : Int) := by omega
        have s2 : (q : Int) ≤ (q : Int) := by have := HRM.out; omega
        have s3 : (q : Int) ≤ (S.length : Int) := by omega
        clear hroom
        go_wp2_with fail
        have hS0 : Below w.heap.size w w := Below.refl _ _
        go_region_held3 (fun w' => Below w.heap.size w w')
          (first
            | assumption
            | exact (by assumption : Below w.heap.size w _).drew
            | exact below_call (by assumption) (below_new _ _)
            | exact below_call (by assumption) (Below.refl _ _).drew)
          (first
            | ((refine step_own (by rfl) (.tmp 33) (.tmp 36) _ (by rfl) w.heap.size 34 i0 (.int .u64 0) 1 8 Tryz.underlying107 hi' hz0 hz1 hz2 rfl (by decide) _ 0 [] (by rfl) (by first | exact own_below (own_noneU w _ rfl _ (Nat.le_refl _)) (Below.refl _ _).drew | exact own_below (own_noneU w _ rfl _ (Nat.le_refl _)) (below_new _ _).drew | exact own_below (own_noneU (w.alloc _) _ (by simp) _ (by simp)) (Below.refl _ _).drew) ⟨g, 0, none⟩ q q (nmC (S.take q)) (by rfl) HLT.out (HCT.out _ (by assumption)) (nmC_one _) (by unfold maxLen; omega) (by omega) (Below.size (by assumption)) ?_; intro v1 w1 hown1 hgrow1; rw [Nat.zero_add, List.nil_append] at hown1; have HG1 := Lib.hid (own_grown (by assumption) (by first | exact own_below (own_noneU w _ rfl _ (Nat.le_refl _)) (Below.refl _ _).drew | exact own_below (own_noneU w _ rfl _ (Nat.le_refl _)) (below_new _ _).drew | exact own_below (own_noneU (w.alloc _) _ (by simp) _ (by simp)) (Below.refl _ _).drew) hgrow1 (Below.size (by assumption))); obtain ⟨p1, c1, rfl, _⟩ := own_shape hown1; have HO1 := Lib.hid hown1; (first | (have HCX := Lib.hid (one_cellU (kept_late hgrow1))) | (have HCX := Lib.hid (one_cellU (kept_early hgrow1))) | skip); have hS1 := HG1.out; clear hown1 hgrow1))
            | ((refine step_own (by rfl) (.tmp 37) (.tmp 39) _ (by rfl) w.heap.size 34 i0 (.int .u64 0) 1 8 Tryz.underlying107 hi' hz0 hz1 hz2 rfl (by decide) _ q _ (by rfl) (by first | exact HO1.out | exact own_below HO1.out (below_new _ _)) ⟨_, 0, none⟩ 1 1 [.int .u64 x] (by rfl) rfl (by first | exact HCX.out | exact one_newU w1 x _ rfl) (by simp [Value.oneCell']) (by unfold maxLen; omega) (by omega) (Below.size (by assumption)) ?_; intro v2 w2 hown2 hgrow2; have HG2 := Lib.hid (own_grown (by assumption) (by first | exact HO1.out | exact own_below HO1.out (below_new _ _)) hgrow2 (Below.size (by assumption))); obtain ⟨p2, c2, rfl, _⟩ := own_shape hown2; have HO2 := Lib.hid hown2; have hS2 := HG2.out; clear hown2 hgrow2))
            | ((refine step_own (by rfl) (.tmp 40) (.tmp 43) _ (by rfl) w.heap.size 34 i0 (.int .u64 0) 1 8 Tryz.underlying107 hi' hz0 hz1 hz2 rfl (by decide) _ (q + 1) _ (by rfl) HO2.out ⟨g, 0, none⟩ (S.length - q) 0 (nmC (S.drop q)) (by rfl) HLD.out (HCD.out _ hS2) (nmC_one _) (by unfold maxLen; omega) (by omega) hS2.size ?_; intro v3 w3 hown3 hgrow3; have HG3 := Lib.hid (own_grown hS2 HO2.out hgrow3 hS2.size); obtain ⟨p3, c3, rfl, _⟩ := own_shape hown3; have HO3 := Lib.hid hown3; clear hown3 hgrow3)))
        all_goals
          have HF : Hid (OwnN w3 B (.slice p3 (q + 1 + (S.length - q)) c3) (insI S x)) := Lib.hid (by
            have e1 : (insI S x).length = q + 1 + (S.length - q) := by rw [HI.out, List.length_append, List.length_cons, List.length_take, List.length_drop]; omega
            have e2 : nmC (insI S x) = nmC (S.take q) ++ [.int .u64 x] ++ nmC (S.drop q) := by rw [HI.out]; simp [nmC]
            unfold OwnN
            rw [e1, e2]
            exact own_base HO3.out HBB.out)
          clear HO3
          go_wp2_with fail
          go_ret
          exact ⟨_, rfl, HF.out, HG3.out⟩
      · have hce0 : ¬ cv - q = 0 := by have := HRM.out; omega
        have HLD := Lib.hid (show (nmC (S.drop q)).length = (S.length - q) * 1 by rw [nmC_len, List.length_drop])
        have HLT := Lib.hid (show (nmC (S.take q)).length = q * 1 by rw [nmC_len, List.length_take]; omega)
        have HCD := Lib.hid (fun (W' : World) (h : Below w.heap.size w W') (j : Nat) (u : Value) (hu : (nmC (S.drop q))[j]? = some u) => (show W'.cell? ((⟨g, q, none⟩ : Addr).add j) = some u by
          rw [Addr.add_lit]; exact keep_cell (HCV.out (q + j) u (nm_drop S q j hu)) h))
        have HCT := Lib.hid (fun (W' : World) (h : Below w.heap.size w W') (j : Nat) (u : Value) (hu : (nmC (S.take q))[j]? = some u) => (show W'.cell? ((⟨g, 0, none⟩ : Addr).add j) = some u by
          rw [Addr.add_lit, Nat.zero_add]; exact keep_cell (HCV.out j u (by
            rw [← nmC_take, List.getElem?_take] at hu
            split at hu
            · exact hu
            · cases hu)) h))
        have s1 : (0 : Int) ≤ (q : Int) := by omega
        have s2 : (q : Int) ≤ (cv : Int) := by have := HRM.out; omega
        have s3 : (q : Int) ≤ (S.length : Int) := by omega
        clear hroom
        go_wp2_with fail
        have hS0 : Below w.heap.size w w := Below.refl _ _
        go_region_held3 (fun w' => Below w.heap.size w w')
          (first
            | assumption
            | exact (by assumption : Below w.heap.size w _).drew
            | exact below_call (by assumption) (below_new _ _)
            | exact below_call (by assumption) (Below.refl _ _).drew)
          (first
            | ((refine step_own (by rfl) (.tmp 33) (.tmp 36) _ (by rfl) w.heap.size 34 i0 (.int .u64 0) 1 8 Tryz.underlying107 hi' hz0 hz1 hz2 rfl (by decide) _ 0 [] (by rfl) (by first | exact own_below (own_noneU w _ rfl _ (Nat.le_refl _)) (Below.refl _ _).drew | exact own_below (own_noneU w _ rfl _ (Nat.le_refl _)) (below_new _ _).drew | exact own_below (own_noneU (w.alloc _) _ (by simp) _ (by simp)) (Below.refl _ _).drew) ⟨g, 0, none⟩ q cv (nmC (S.take q)) (by rfl) HLT.out (HCT.out _ (by assumption)) (nmC_one _) (by unfold maxLen; omega) (by omega) (Below.size (by assumption)) ?_; intro v1 w1 hown1 hgrow1; rw [Nat.zero_add, List.nil_append] at hown1; have HG1 := Lib.hid (own_grown (by assumption) (by first | exact own_below (own_noneU w _ rfl _ (Nat.le_refl _)) (Below.refl _ _).drew | exact own_below (own_noneU w _ rfl _ (Nat.le_refl _)) (below_new _ _).drew | exact own_below (own_noneU (w.alloc _) _ (by simp) _ (by simp)) (Below.refl _ _).drew) hgrow1 (Below.size (by assumption))); obtain ⟨p1, c1, rfl, _⟩ := own_shape hown1; have HO1 := Lib.hid hown1; (first | (have HCX := Lib.hid (one_cellU (kept_late hgrow1))) | (have HCX := Lib.hid (one_cellU (kept_early hgrow1))) | skip); have hS1 := HG1.out; clear hown1 hgrow1))
            | ((refine step_own (by rfl) (.tmp 37) (.tmp 39) _ (by rfl) w.heap.size 34 i0 (.int .u64 0) 1 8 Tryz.underlying107 hi' hz0 hz1 hz2 rfl (by decide) _ q _ (by rfl) (by first | exact HO1.out | exact own_below HO1.out (below_new _ _)) ⟨_, 0, none⟩ 1 1 [.int .u64 x] (by rfl) rfl (by first | exact HCX.out | exact one_newU w1 x _ rfl) (by simp [Value.oneCell']) (by unfold maxLen; omega) (by omega) (Below.size (by assumption)) ?_; intro v2 w2 hown2 hgrow2; have HG2 := Lib.hid (own_grown (by assumption) (by first | exact HO1.out | exact own_below HO1.out (below_new _ _)) hgrow2 (Below.size (by assumption))); obtain ⟨p2, c2, rfl, _⟩ := own_shape hown2; have HO2 := Lib.hid hown2; have hS2 := HG2.out; clear hown2 hgrow2))
            | ((refine step_own (by rfl) (.tmp 40) (.tmp 43) _ (by rfl) w.heap.size 34 i0 (.int .u64 0) 1 8 Tryz.underlying107 hi' hz0 hz1 hz2 rfl (by decide) _ (q + 1) _ (by rfl) HO2.out ⟨g, q, none⟩ (S.length - q) (cv - q) (nmC (S.drop q)) (by rfl) HLD.out (HCD.out _ hS2) (nmC_one _) (by unfold maxLen; omega) (by omega) hS2.size ?_; intro v3 w3 hown3 hgrow3; have HG3 := Lib.hid (own_grown hS2 HO2.out hgrow3 hS2.size); obtain ⟨p3, c3, rfl, _⟩ := own_shape hown3; have HO3 := Lib.hid hown3; clear hown3 hgrow3)))
        all_goals
          have HF : Hid (OwnN w3 B (.slice p3 (q + 1 + (S.length - q)) c3) (insI S x)) := Lib.hid (by
            have e1 : (insI S x).length = q + 1 + (S.length - q) := by rw [HI.out, List.length_append, List.length_cons, List.length_take, List.length_drop]; omega
            have e2 : nmC (insI S x) = nmC (S.take q) ++ [.int .u64 x] ++ nmC (S.drop q) := by rw [HI.out]; simp [nmC]
            unfold OwnN
            rw [e1, e2]
            exact own_base HO3.out HBB.out)
          clear HO3
          go_wp2_with fail
          go_ret
          exact ⟨_, rfl, HF.out, HG3.out⟩
theorem put10_any (S : List Int) (x : Int) (v : Value) (w : World) (B : Nat) (hB : B ≤ w.heap.size) (hown : OwnN w B v S) (hasc : ascL S) (hl : S.length ≤ 99999) : Calls Tryz.prog 78 #[v, .int .u64 x] w (IsPut B (insI S x) w) := by
  rcases own_nil_or hown with ⟨rfl, h0⟩ | ⟨g, cap, rfl⟩
  · obtain rfl := List.eq_nil_of_length_eq_zero h0
    exact put10_nil x w B hB
  · exact put10_some S x g cap w B hB hown hasc hl
end Go.Proofs.YtemhbmcgnmfoaaaGreatDoor

/- The reference's calculations with vectors: what is known of a replica, one version, how many; and the laws' look at their vectors. Conditions: as each theorem says. -/
namespace Go.Proofs.YtemhbmcgnmfoaaaGreatDoor
open Go.RowKit
/-- A vector of moderate size. -/
def smallV (n h : Nat) (V : List (Int × Int × List Iv)) : Prop := V.length ≤ n ∧ ∀ x ∈ V, x.2.2.length ≤ h
theorem opAt_ent {w : World} {s : Value} {m : Int} {H : List Iv} (hi : IvsAt w s H) (hg : GoodE m H) (hl : H.length ≤ 5000) : OpAt w s H := ⟨hi, hg.good, by omega⟩
theorem find_kn (V : List (Int × Int × List Iv)) (r : Int) : (findV V r = -1 ∧ knV V r = []) ∨ ∃ (k : Nat) (x : Int × Int × List Iv), V[k]? = some x ∧ findV V r = (k : Int) ∧ knV V r = knownL x.2.1 x.2.2 := by
  unfold findV knV
  cases h : V.findIdx? (fun x => decide (x.1 = r)) with
  | none => exact .inl ⟨rfl, rfl⟩
  | some k =>
    rw [List.findIdx?_eq_some_iff_getElem] at h
    obtain ⟨hk, _⟩ := h
    have hx : V[k]? = some V[k] := by simp [hk]
    exact .inr ⟨k, V[k], hx, rfl, by simp only [hx]⟩
set_option maxRecDepth 100000 in
set_option maxHeartbeats 2000000 in
theorem refKnown10_any (V : List (Int × Int × List Iv)) (v : Value) (r : Int) (w : World) (hv : VecI w v V) (hg : GoodV V) (hs : ∀ x ∈ V, x.2.2.length ≤ 5000) : Calls Tryz.prog 81 #[v, .int .u64 r] w (IsOwnR (knV V r) w) := by
  obtain ⟨p, cap, rfl⟩ := hv.shape
  have hlen := hv.len
  have K := Lib.hid (refFind9_any V _ r w hv)
  have KK := Lib.hid refKnown_any
  have HV := Lib.hid hv; clear hv
  rcases find_kn V r with ⟨h1, h2⟩ | ⟨k, ⟨x, m, H⟩, hx, h1, h2⟩
  · rw [h1] at K
    rw [h2]
    clear h1 h2 hg hs
    go_enter Tryz.func81, Tryz.ntmps81
    go_wp2_with fail
    refine K.out.mono ?_
    rintro e w1 ⟨rfl, h⟩
    have H1 := Lib.hid h; clear h
    go_wp2_with fail
    go_ret
    exact ⟨_, rfl, OwnL.nil _ _, H1.out⟩
  · rw [h1] at K
    have hlt := (List.getElem?_eq_some_iff.1 hx).1
    have hmem := List.mem_iff_getElem?.2 ⟨k, hx⟩
    have hge := hg.ent _ hmem
    have hhl := hs _ hmem
    dsimp only at hge hhl h2
    rw [h2]
    have i1 : (0 : Int) ≤ (k : Int) := by omega
    have i2 : (k : Int) < (V.length : Int) := by omega
    have i3 : ¬ (k : Int) < 0 := by omega
    have HX := Lib.hid hx
    have HGE := Lib.hid (And.intro hge hhl)
    clear h1 h2 hg hs hx hmem hge hhl
    go_enter Tryz.func81, Tryz.ntmps81
    go_wp2_with fail
    refine K.out.mono ?_
    rintro e w1 ⟨rfl, h⟩
    obtain ⟨b, o, cp, q, n, c, e, c0, c1, c2, ha⟩ := (HV.out.call h).elem HX.out
    cases e
    have KA := Lib.hid (KK.out x m H (.slice q n c) w1 (opAt_ent ha HGE.out.1 HGE.out.2) HGE.out.1)
    have H1 := Lib.hid h; clear h ha
    go_wp2_with fail
    refine KA.out.mono ?_
    rintro e w2 ⟨u, rfl, hu, h⟩
    have HU := Lib.hid (And.intro hu h); clear hu h c0 c1 c2
    go_wp2_with fail
    go_ret
    exact ⟨_, rfl, own_base HU.out.1 H1.out.size, below_call H1.out HU.out.2⟩
/-- A call that returns a vector to be read. -/
def IsVI (V : List (Int × Int × List Iv)) (w : World) (e : Ending) (w' : World) : Prop := ∃ u, e = .returned u ∧ VecI w' u V ∧ Below w.heap.size w w'
end Go.Proofs.YtemhbmcgnmfoaaaGreatDoor

/- What the laws of layer 10 ask of package lattice, and of the reference's operations. Conditions: as each theorem says. -/
namespace Go.Proofs.YtemhbmcgnmfoaaaGreatDoor
open Go.RowKit
theorem small_op {n n' h h' : Nat} {f : List Iv → List Iv → List Iv} (hf : ∀ K L, GoodL K → GoodL L → GoodL (f K L)) (hc : ∀ K L, GoodL K → GoodL L → (f K L).length ≤ K.length + L.length) {A B : List (Int × Int × List Iv)} (gA : GoodV A) (gB : GoodV B) (sA : smallV n h A) (sB : smallV n' h' B) : smallV (n + n') (h + h' + 3) (opV f A B) := by
  refine ⟨Nat.le_trans (opV_len f A B) (by have := sA.1; have := sB.1; omega), fun y hy => ?_⟩
  obtain ⟨r, _, e⟩ := List.mem_filterMap.1 hy
  obtain ⟨_, _, e2⟩ := opE_some e
  have key : ∀ {n h : Nat} {V : List (Int × Int × List Iv)}, GoodV V → smallV n h V → (knV V r).length ≤ h + 1 := fun g s => by
    rcases knV_cases g.asc r with ⟨x, hx, _, e⟩ | ⟨_, e⟩
    · rw [e]; have := known_count (g.ent x hx); have := s.2 x hx; omega
    · rw [e]; exact Nat.zero_le _
  have h1 := key gA sA
  have h2 := key gB sB
  have h3 := hc _ _ (knV_good gA r) (knV_good gB r)
  have h4 := holes_count (hf _ _ (knV_good gA r) (knV_good gB r))
  rw [e2]
  dsimp only
  omega
theorem small_or {n n' h h' : Nat} {A B : List (Int × Int × List Iv)} (gA : GoodV A) (gB : GoodV B) (sA : smallV n h A) (sB : smallV n' h' B) : smallV (n + n') (h + h' + 3) (opV orL A B) := small_op (fun _ _ h h' => orL_good h h') (fun _ _ h h' => or_count h h') gA gB sA sB
theorem smallV.mono {n h n' h' : Nat} {V : List (Int × Int × List Iv)} (s : smallV n h V) (hn : n ≤ n') (hh : h ≤ h') : smallV n' h' V := ⟨Nat.le_trans s.1 hn, fun x hx => Nat.le_trans (s.2 x hx) hh⟩
theorem or_good {A B : List (Int × Int × List Iv)} (gA : GoodV A) (gB : GoodV B) : GoodV (opV orL A B) := (opV_good (fun _ _ h h' => orL_good h h') gA gB).1
theorem or_kn {A B : List (Int × Int × List Iv)} (gA : GoodV A) (gB : GoodV B) (r : Int) : knV (opV orL A B) r = orL (knV A r) (knV B r) := opV_kn (fun _ _ h h' => orL_good h h') rfl gA gB r
/-- A result is what it is known by. -/
theorem op_is {f : List Iv → List Iv → List Iv} (hf : ∀ K L, GoodL K → GoodL L → GoodL (f K L)) (f0 : f [] [] = []) {A B W : List (Int × Int × List Iv)} (gA : GoodV A) (gB : GoodV B) (gW : GoodV W) (cW : ∀ y ∈ W, canonB y.2.1 y.2.2 = true) (h : ∀ r, f (knV A r) (knV B r) = knV W r) : opV f A B = W :=
  canV_eq (opV_good hf gA gB).1 (opV_good hf gA gB).2 gW cW fun r => by rw [opV_kn hf f0 gA gB, h r]
/-- What the laws of layer 10 ask of package vector. -/
def VHasC : Prop := ∀ (V : List (Int × Int × List Iv)) (v : Value) (r c : Int) (w : World), VecS w v V → GoodV V → 0 ≤ r → r ≤ 18446744073709551615 → 0 ≤ c → c ≤ 18446744073709551615 → Calls Tryz.prog 22 #[v, .int .u64 r, .int .u64 c] w (IsEnd (hasV V r c) w)
/-- The reference's operations. -/
def RefDo10 : Prop := ∀ (o : Int) (f : List Iv → List Iv → List Iv), (∀ (a b : List Iv) (s t : Value) (w : World), OpAt w s a → OpAt w t b → Calls Tryz.prog 80 #[s, t, .int .i64 o] w (IsOwnR (f a b) w)) →
  (∀ K L, GoodL K → GoodL L → GoodL (f K L) ∧ (f K L).length ≤ K.length + L.length) → ∀ (A B : List (Int × Int × List Iv)) (a b : Value) (w : World), VecI w a A → VecI w b B → GoodV A → GoodV B → smallV 1000 1000 A → smallV 1000 1000 B →
  Calls Tryz.prog 46 #[a, b, .int .i64 o] w (IsVI (opV f A B) w)
end Go.Proofs.YtemhbmcgnmfoaaaGreatDoor

/- The example of chapter 10, in every state. Conditions: the contracts of package lattice. -/
namespace Go.Proofs.YtemhbmcgnmfoaaaGreatDoor
open Go.RowKit
theorem known_nil {m : Int} (h0 : 0 ≤ m) (h1 : m ≤ 18446744073709551615) : knownL m [] = [(0, m)] := by
  have g : GoodE m [] := ⟨good_nil, h0, h1, fun y hy => by cases hy⟩
  refine good_ext (known_good g) (good_one h0 (Int.le_refl _) h1) fun c hc => ?_
  rw [known_has g hc, one_has hc]
  unfold hasE
  simp [hasL]
theorem ent10 {m : Int} (h0 : 0 ≤ m) (h1 : m ≤ 18446744073709551615) : GoodE m [] := ⟨good_nil, h0, h1, fun y hy => by cases hy⟩
end Go.Proofs.YtemhbmcgnmfoaaaGreatDoor
