/- A number put in its place in a list of numbers of a call's own (kenningref10's put). Conditions: as the theorem says. -/
import Derived.Test.YtefiobfljhmkkaaPMath
import Derived.Test.YtefiobfljhmkkaaRPut
import Derived.Test.YtefiobfljhmkkaaPAlive
import Derived.Test.YtefiobfljhmkkaaRStarts
import Derived.Test.YtefiobfljhmkkaaMRef
namespace Go.Proofs.Ytefiobfljhmkkaa
open Go.RowKit
theorem ascI_eq : ∀ {l m : List Int}, ascL l → ascL m → (∀ x, x ∈ l ↔ x ∈ m) → l = m
  | [], [], _, _, _ => rfl
  | [], y :: m, _, _, h => by have := (h y).2 (by simp); cases this
  | x :: l, [], _, _, h => by have := (h x).1 (by simp); cases this
  | x :: l, y :: m, hl, hm, h => by
    have h1 := List.pairwise_cons.1 hl
    have h2 := List.pairwise_cons.1 hm
    have hxy : x = y := by
      rcases List.mem_cons.1 ((h x).1 (by simp)) with e | hx
      · exact e
      · rcases List.mem_cons.1 ((h y).2 (by simp)) with e | hy
        · exact e.symm
        · have a := h1.1 y hy
          have b := h2.1 x hx
          omega
    subst hxy
    rw [ascI_eq h1.2 h2.2 fun z => ?_]
    constructor
    · intro hz
      rcases List.mem_cons.1 ((h z).1 (by simp [hz])) with e | hz'
      · subst e; have := h1.1 z hz; omega
      · exact hz'
    · intro hz
      rcases List.mem_cons.1 ((h z).2 (by simp [hz])) with e | hz'
      · subst e; have := h2.1 z hz; omega
      · exact hz'
theorem put_there {S : List Int} (h : ascL S) {x : Int} (hx : x ∈ S) : insI S x = S :=
  ascI_eq (ins_asc h x) h fun y => by rw [ins_mem h]; exact ⟨fun hy => hy.elim id fun e => e ▸ hx, .inl⟩
theorem put_new {S : List Int} (h : ascL S) {x : Int} {q : Nat} (h1 : ∀ (j : Nat) y, j < q → S[j]? = some y → y < x) (h2 : ∀ y, S[q]? = some y → x < y) : insI S x = S.take q ++ x :: S.drop q := by
  have ht : ∀ y ∈ S.take q, y < x := fun y hy => by
    obtain ⟨j, hj⟩ := List.mem_iff_getElem?.1 hy
    rw [List.getElem?_take] at hj
    split at hj
    · exact h1 j y ‹_› hj
    · cases hj
  have hd : ∀ y ∈ S.drop q, x < y := fun y hy => by
    obtain ⟨j, hj⟩ := List.mem_iff_getElem?.1 hy
    rw [List.getElem?_drop] at hj
    cases j with
    | zero => exact h2 y hj
    | succ j =>
      have hlt := (List.getElem?_eq_some_iff.1 hj).1
      have hq : S[q]? = some (S[q]'(by omega)) := by simp [show q < S.length by omega]
      have a := h2 _ hq
      have b := List.pairwise_iff_getElem.1 h q (q + (j + 1)) (by omega) hlt (by omega)
      have e := (List.getElem?_eq_some_iff.1 hj).2
      omega
  have hasc : ascL (S.take q ++ x :: S.drop q) := by
    unfold ascL
    rw [List.pairwise_append]
    refine ⟨List.Pairwise.sublist (List.take_sublist _ _) h, List.pairwise_cons.2 ⟨hd, List.Pairwise.sublist (List.drop_sublist _ _) h⟩, fun a ha b hb => ?_⟩
    have h3 := ht a ha
    rcases List.mem_cons.1 hb with rfl | hb
    · exact h3
    · have := hd b hb; omega
  refine ascI_eq (ins_asc h x) hasc fun y => ?_
  rw [ins_mem h, List.mem_append, List.mem_cons]
  have hs : y ∈ S ↔ y ∈ S.take q ∨ y ∈ S.drop q := by rw [← List.mem_append, List.take_append_drop]
  rw [hs]
  constructor
  · rintro ((a | a) | a)
    · exact .inl a
    · exact .inr (.inr a)
    · exact .inr (.inl a)
  · rintro (a | a | a)
    · exact .inl (.inl a)
    · exact .inr a
    · exact .inl (.inr a)
theorem own_noneU (w : World) (k : Nat) (hk : k = w.heap.size) (B : Nat) (hB : B ≤ w.heap.size) : (w.alloc (.cells #[] 29)).ownsRow B 29 1 (.slice (some ⟨k, 0, none⟩) 0 0) 0 [] := by
  subst hk
  exact World.ownsRow_lit w #[] 0 hB (Nat.zero_le _) rfl
theorem nmC_take (S : List Int) (q : Nat) : (nmC S).take q = nmC (S.take q) := by unfold nmC; rw [List.map_take]
theorem nmC_drop (S : List Int) (q : Nat) : (nmC S).drop q = nmC (S.drop q) := by unfold nmC; rw [List.map_drop]
theorem one_newU (w : World) (x : Int) (k : Nat) (hk : k = w.heap.size) : ∀ j u, [Value.int .u64 x][j]? = some u → (w.alloc (.cells #[.int .u64 x] 29)).cell? ((⟨k, 0, none⟩ : Addr).add j) = some u := by
  subst hk
  intro j u h
  match j, h with
  | 0, h => simp at h; subst h; simp [Addr.add]
theorem one_cellU {w : World} {g : Nat} {x : Int} (h : w.cell? ⟨g, 0, none⟩ = some (.int .u64 x)) : ∀ j u, [Value.int .u64 x][j]? = some u → w.cell? ((⟨g, 0, none⟩ : Addr).add j) = some u := by
  intro j u hj
  match j, hj with
  | 0, hj => simp at hj; subst hj; rw [Addr.add_lit]; exact h
/-- A call that returns a list of numbers of its own, or of its caller's. -/
def IsPut (B : Nat) (L : List Int) (w : World) (e : Ending) (w' : World) : Prop := ∃ u, e = .returned u ∧ OwnN w' B u L ∧ Below w.heap.size w w'
set_option maxRecDepth 100000 in
set_option maxHeartbeats 8000000 in
theorem put10_nil (x : Int) (w : World) (B : Nat) (hB : B ≤ w.heap.size) : Calls Try.prog 25 #[.slice none 0 0, .int .u64 x] w (IsPut B [x] w) := by
  obtain ⟨i0, hi', hz0, hz1, hz2⟩ := info_parts infoU
  have HBB := Lib.hid hB; clear hB
  go_enter Try.func25, Try.ntmps25
  go_wp2_with fail
  go_loopw [5] (fun i wr => i = .int .i64 0 ∧ wr = w) (fun _ _ => 0)
  case atStart => exact ⟨rfl, rfl⟩
  case round =>
    obtain ⟨rfl, rfl⟩ := hrel
    go_wp2_with fail
    have hS0 : Below wr.heap.size wr wr := Below.refl _ _
    go_region_held3 (fun w' => Below wr.heap.size wr w')
      (first
        | assumption
        | exact (by assumption : Below wr.heap.size wr _).drew
        | exact below_call (by assumption) (below_new _ _)
        | exact below_call (by assumption) (Below.refl _ _).drew)
      (first
        | ((refine step_own_none (by rfl) (.tmp 33) (.tmp 36) _ (by rfl) wr.heap.size 29 i0 1 Try.underlying48 hi' _ 0 [] (by rfl) (by first | exact own_below (own_noneU wr _ rfl _ (Nat.le_refl _)) (Below.refl _ _).drew | exact own_below (own_noneU wr _ rfl _ (Nat.le_refl _)) (below_new _ _).drew | exact own_below (own_noneU (wr.alloc _) _ (by simp) _ (by simp)) (Below.refl _ _).drew) (by rfl) ?_))
        | ((refine step_own (by rfl) (.tmp 37) (.tmp 39) _ (by rfl) wr.heap.size 29 i0 (.int .u64 0) 1 8 Try.underlying48 hi' hz0 hz1 hz2 rfl (by decide) _ 0 [] (by rfl) (by first | exact own_below (own_noneU wr _ rfl _ (Nat.le_refl _)) (Below.refl _ _).drew | exact own_below (own_noneU wr _ rfl _ (Nat.le_refl _)) (below_new _ _).drew | exact own_below (own_noneU (wr.alloc _) _ (by simp) _ (by simp)) (Below.refl _ _).drew) ⟨_, 0, none⟩ 1 1 [.int .u64 x] (by rfl) rfl (by first | exact one_newU (wr.alloc _) x _ (by simp) | exact fun j u h => keep_cell (one_newU wr x _ rfl j u h) (below_new _ _).drew) (by simp [Value.oneCell']) (by unfold maxLen; omega) (by omega) (Below.size (by assumption)) ?_; intro v2 w2 hown2 hgrow2; have HG2 := Lib.hid (own_grown (by assumption) (by first | exact own_below (own_noneU wr _ rfl _ (Nat.le_refl _)) (Below.refl _ _).drew | exact own_below (own_noneU wr _ rfl _ (Nat.le_refl _)) (below_new _ _).drew | exact own_below (own_noneU (wr.alloc _) _ (by simp) _ (by simp)) (Below.refl _ _).drew) hgrow2 (Below.size (by assumption))); have HO2 := Lib.hid hown2; clear hown2 hgrow2))
        | ((refine step_own_none (by rfl) (.tmp 40) (.tmp 43) _ (by rfl) wr.heap.size 29 i0 1 Try.underlying48 hi' _ _ _ (by rfl) HO2.out (by rfl) ?_)))
    all_goals
      obtain ⟨pv, cv, rfl, _⟩ := own_shape HO2.out
      have HO3 : Hid (OwnN w2 B (.slice pv (0 + 1) cv) [x]) := Lib.hid (own_base HO2.out HBB.out)
      go_wp2_with fail
      go_ret
      exact ⟨_, rfl, HO3.out, HG2.out⟩
theorem nmU_at {L : List Int} {i : Nat} {x : Int} (h : L[i]? = some x) : (nmC L)[i]? = some (.int .u64 x) := by unfold nmC; rw [List.getElem?_map, h]; rfl
theorem kept_late {w w1 : World} {x : Int} (h : ((w.alloc (.cells #[] 29)).alloc (.cells #[.int .u64 x] 29)).drew.grownBy w1 (some w.heap.size)) : w1.cell? ⟨w.heap.size + 1, 0, none⟩ = some (.int .u64 x) := by
  have h1 := h.block (w.heap.size + 1) (by show _ < ((w.alloc _).alloc _).heap.size; simp) (by intro e; have := Option.some.inj e; omega)
  rw [World.cell?_of_block (a := ⟨w.heap.size + 1, 0, none⟩) h1]
  exact one_newU (w.alloc (.cells #[] 29)) x (w.heap.size + 1) (by simp) 0 _ rfl
theorem kept_early {w w1 : World} {x : Int} (h : ((w.alloc (.cells #[.int .u64 x] 29)).alloc (.cells #[] 29)).drew.grownBy w1 (some (w.heap.size + 1))) : w1.cell? ⟨w.heap.size, 0, none⟩ = some (.int .u64 x) := by
  have h1 := h.block w.heap.size (by show _ < ((w.alloc _).alloc _).heap.size; simp; omega) (by intro e; have := Option.some.inj e; omega)
  rw [World.cell?_of_block (a := ⟨w.heap.size, 0, none⟩) h1]
  exact keep_cell (one_newU w x w.heap.size rfl 0 _ rfl) (below_new (w.alloc (.cells #[.int .u64 x] 29)) _).drew
set_option maxRecDepth 100000 in
set_option maxHeartbeats 16000000 in
theorem put10_some (S : List Int) (x : Int) (g cv : Nat) (w : World) (B : Nat) (hB : B ≤ w.heap.size) (hown : OwnN w B (.slice (some ⟨g, 0, none⟩) S.length cv) S) (hasc : ascL S) (hl : S.length ≤ 99999) : Calls Try.prog 25 #[.slice (some ⟨g, 0, none⟩) S.length cv, .int .u64 x] w (IsPut B (insI S x) w) := by
  obtain ⟨i0, hi', hz0, hz1, hz2⟩ := info_parts infoU
  have HBB := Lib.hid hB; clear hB
  have hrow : w.ownsRow B 29 1 (.slice (some ⟨g, 0, none⟩) S.length cv) S.length (nmC S) := hown
  have hroom := own_room hrow
  have HRM := Lib.hid hroom
  have HCV := Lib.hid (fun (j : Nat) (u : Value) (hu : (nmC S)[j]? = some u) => (show w.cell? ⟨g, j, none⟩ = some u by
    rw [hrow.cellAt j (by have := (List.getElem?_eq_some_iff.1 hu).1; rw [nmC_len] at this; exact this)]; exact hu))
  have HOW := Lib.hid hown; have HAS := Lib.hid hasc
  clear hrow hown hasc
  go_enter Try.func25, Try.ntmps25
  go_wp2_with fail
  go_loopw [5] (fun i wr => ∃ q : Nat, i = .int .i64 q ∧ q ≤ S.length ∧ (∀ (j : Nat) y, j < q → S[j]? = some y → y < x) ∧ w = wr) (fun i _ => S.length - (intOf i).toNat)
  case atStart => exact ⟨0, rfl, Nat.zero_le _, fun j y hj => absurd hj (Nat.not_lt_zero j), rfl⟩
  case round =>
    obtain ⟨q, rfl, hq, hbef, rfl⟩ := hrel
    have HBF := Lib.hid hbef; clear hbef
    by_cases hlt : q < S.length
    · obtain ⟨y, hy⟩ : ∃ y, S[q]? = some y := ⟨S[q], by simp [hlt]⟩
      have c0 : w.cell? ⟨g, q, none⟩ = some (.int .u64 y) := HCV.out q _ (nmU_at hy)
      have i1 : (0 : Int) ≤ (q : Int) := by omega
      have i2 : (q : Int) < (S.length : Int) := by omega
      have HY := Lib.hid hy; clear hy
      by_cases h1 : y < x
      · go_wp2_with fail
        go_roundw
        case rel => exact ⟨q + 1, by go_num, by omega, fun j z hj hz => by
          rcases Nat.lt_or_eq_of_le (Nat.le_of_lt_succ hj) with h | h
          · exact HBF.out j z h hz
          · subst h
            obtain rfl := Option.some.inj (HY.out.symm.trans hz)
            exact h1, by trivial⟩
        case measure => simp [intOf]; omega
      · have e0 : decide (y < x) = false := decide_eq_false h1
        by_cases h2 : y = x
        · subst h2
          have HF : Hid (OwnN w B (.slice (some ⟨g, 0, none⟩) S.length cv) (insI S y)) := Lib.hid (by rw [put_there HAS.out (List.mem_iff_getElem?.2 ⟨q, HY.out⟩)]; exact HOW.out)
          go_wp2_with fail
          go_ret
          exact ⟨_, rfl, HF.out, Below.refl _ _⟩
        · have HI := Lib.hid (put_new HAS.out HBF.out (fun z hz => by
            obtain rfl := Option.some.inj (HY.out.symm.trans hz)
            omega))
          have e1 : (y == x) = false := by simpa using h2
          clear h2
          by_cases hce : cv = q
          · subst cv
            have HLD := Lib.hid (show (nmC (S.drop q)).length = (S.length - q) * 1 by rw [nmC_len, List.length_drop])
            have HLT := Lib.hid (show (nmC (S.take q)).length = q * 1 by rw [nmC_len, List.length_take]; omega)
            have HND := Lib.hid (show nmC (S.drop q) = [] by unfold nmC; rw [List.drop_of_length_le (by have := HRM.out; omega)]; rfl)
            have HCD := Lib.hid (fun (W' : World) (_ : Below w.heap.size w W') (j : Nat) (u : Value) (hu : (nmC (S.drop q))[j]? = some u) => (show W'.cell? ((⟨g, 0, none⟩ : Addr).add j) = some u by rw [HND.out] at hu; simp at hu))
            have HCT := Lib.hid (fun (W' : World) (h : Below w.heap.size w W') (j : Nat) (u : Value) (hu : (nmC (S.take q))[j]? = some u) => (show W'.cell? ((⟨g, 0, none⟩ : Addr).add j) = some u by
              rw [Addr.add_lit, Nat.zero_add]; exact keep_cell (HCV.out j u (by
                rw [← nmC_take, List.getElem?_take] at hu
                split at hu
                · exact hu
                · cases hu)) h))
            have s1 : (0 : Int) ≤ (q : Int) := by omega
            have s2 : (q : Int) ≤ (q : Int) := by have := HRM.out; omega
            have s3 : (q : Int) ≤ (S.length : Int) := by omega
            clear hroom
            go_wp2_with fail
            have hS0 : Below w.heap.size w w := Below.refl _ _
            go_region_held3 (fun w' => Below w.heap.size w w')
              (first
                | assumption
                | exact (by assumption : Below w.heap.size w _).drew
                | exact below_call (by assumption) (below_new _ _)
                | exact below_call (by assumption) (Below.refl _ _).drew)
              (first
                | ((refine step_own (by rfl) (.tmp 33) (.tmp 36) _ (by rfl) w.heap.size 29 i0 (.int .u64 0) 1 8 Try.underlying48 hi' hz0 hz1 hz2 rfl (by decide) _ 0 [] (by rfl) (by first | exact own_below (own_noneU w _ rfl _ (Nat.le_refl _)) (Below.refl _ _).drew | exact own_below (own_noneU w _ rfl _ (Nat.le_refl _)) (below_new _ _).drew | exact own_below (own_noneU (w.alloc _) _ (by simp) _ (by simp)) (Below.refl _ _).drew) ⟨g, 0, none⟩ q q (nmC (S.take q)) (by rfl) HLT.out (HCT.out _ (by assumption)) (nmC_one _) (by unfold maxLen; omega) (by omega) (Below.size (by assumption)) ?_; intro v1 w1 hown1 hgrow1; rw [Nat.zero_add, List.nil_append] at hown1; have HG1 := Lib.hid (own_grown (by assumption) (by first | exact own_below (own_noneU w _ rfl _ (Nat.le_refl _)) (Below.refl _ _).drew | exact own_below (own_noneU w _ rfl _ (Nat.le_refl _)) (below_new _ _).drew | exact own_below (own_noneU (w.alloc _) _ (by simp) _ (by simp)) (Below.refl _ _).drew) hgrow1 (Below.size (by assumption))); obtain ⟨p1, c1, rfl, _⟩ := own_shape hown1; have HO1 := Lib.hid hown1; (first | (have HCX := Lib.hid (one_cellU (kept_late hgrow1))) | (have HCX := Lib.hid (one_cellU (kept_early hgrow1))) | skip); have hS1 := HG1.out; clear hown1 hgrow1))
                | ((refine step_own (by rfl) (.tmp 37) (.tmp 39) _ (by rfl) w.heap.size 29 i0 (.int .u64 0) 1 8 Try.underlying48 hi' hz0 hz1 hz2 rfl (by decide) _ q _ (by rfl) (by first | exact HO1.out | exact own_below HO1.out (below_new _ _)) ⟨_, 0, none⟩ 1 1 [.int .u64 x] (by rfl) rfl (by first | exact HCX.out | exact one_newU w1 x _ rfl) (by simp [Value.oneCell']) (by unfold maxLen; omega) (by omega) (Below.size (by assumption)) ?_; intro v2 w2 hown2 hgrow2; have HG2 := Lib.hid (own_grown (by assumption) (by first | exact HO1.out | exact own_below HO1.out (below_new _ _)) hgrow2 (Below.size (by assumption))); obtain ⟨p2, c2, rfl, _⟩ := own_shape hown2; have HO2 := Lib.hid hown2; have hS2 := HG2.out; clear hown2 hgrow2))
                | ((refine step_own (by rfl) (.tmp 40) (.tmp 43) _ (by rfl) w.heap.size 29 i0 (.int .u64 0) 1 8 Try.underlying48 hi' hz0 hz1 hz2 rfl (by decide) _ (q + 1) _ (by rfl) HO2.out ⟨g, 0, none⟩ (S.length - q) 0 (nmC (S.drop q)) (by rfl) HLD.out (HCD.out _ hS2) (nmC_one _) (by unfold maxLen; omega) (by omega) hS2.size ?_; intro v3 w3 hown3 hgrow3; have HG3 := Lib.hid (own_grown hS2 HO2.out hgrow3 hS2.size); obtain ⟨p3, c3, rfl, _⟩ := own_shape hown3; have HO3 := Lib.hid hown3; clear hown3 hgrow3)))
            all_goals
              have HF : Hid (OwnN w3 B (.slice p3 (q + 1 + (S.length - q)) c3) (insI S x)) := Lib.hid (by
                have e1 : (insI S x).length = q + 1 + (S.length - q) := by rw [HI.out, List.length_append, List.length_cons, List.length_take, List.length_drop]; omega
                have e2 : nmC (insI S x) = nmC (S.take q) ++ [.int .u64 x] ++ nmC (S.drop q) := by rw [HI.out]; simp [nmC]
                unfold OwnN
                rw [e1, e2]
                exact own_base HO3.out HBB.out)
              clear HO3
              go_wp2_with fail
              go_ret
              exact ⟨_, rfl, HF.out, HG3.out⟩
          · have hce0 : ¬ cv - q = 0 := by have := HRM.out; omega
            have HLD := Lib.hid (show (nmC (S.drop q)).length = (S.length - q) * 1 by rw [nmC_len, List.length_drop])
            have HLT := Lib.hid (show (nmC (S.take q)).length = q * 1 by rw [nmC_len, List.length_take]; omega)
            have HCD := Lib.hid (fun (W' : World) (h : Below w.heap.size w W') (j : Nat) (u : Value) (hu : (nmC (S.drop q))[j]? = some u) => (show W'.cell? ((⟨g, q, none⟩ : Addr).add j) = some u by
              rw [Addr.add_lit]; exact keep_cell (HCV.out (q + j) u (nm_drop S q j hu)) h))
            have HCT := Lib.hid (fun (W' : World) (h : Below w.heap.size w W') (j : Nat) (u : Value) (hu : (nmC (S.take q))[j]? = some u) => (show W'.cell? ((⟨g, 0, none⟩ : Addr).add j) = some u by
              rw [Addr.add_lit, Nat.zero_add]; exact keep_cell (HCV.out j u (by
                rw [← nmC_take, List.getElem?_take] at hu
                split at hu
                · exact hu
                · cases hu)) h))
            have s1 : (0 : Int) ≤ (q : Int) := by omega
            have s2 : (q : Int) ≤ (cv : Int) := by have := HRM.out; omega
            have s3 : (q : Int) ≤ (S.length : Int) := by omega
            clear hroom
            go_wp2_with fail
            have hS0 : Below w.heap.size w w := Below.refl _ _
            go_region_held3 (fun w' => Below w.heap.size w w')
              (first
                | assumption
                | exact (by assumption : Below w.heap.size w _).drew
                | exact below_call (by assumption) (below_new _ _)
                | exact below_call (by assumption) (Below.refl _ _).drew)
              (first
                | ((refine step_own (by rfl) (.tmp 33) (.tmp 36) _ (by rfl) w.heap.size 29 i0 (.int .u64 0) 1 8 Try.underlying48 hi' hz0 hz1 hz2 rfl (by decide) _ 0 [] (by rfl) (by first | exact own_below (own_noneU w _ rfl _ (Nat.le_refl _)) (Below.refl _ _).drew | exact own_below (own_noneU w _ rfl _ (Nat.le_refl _)) (below_new _ _).drew | exact own_below (own_noneU (w.alloc _) _ (by simp) _ (by simp)) (Below.refl _ _).drew) ⟨g, 0, none⟩ q cv (nmC (S.take q)) (by rfl) HLT.out (HCT.out _ (by assumption)) (nmC_one _) (by unfold maxLen; omega) (by omega) (Below.size (by assumption)) ?_; intro v1 w1 hown1 hgrow1; rw [Nat.zero_add, List.nil_append] at hown1; have HG1 := Lib.hid (own_grown (by assumption) (by first | exact own_below (own_noneU w _ rfl _ (Nat.le_refl _)) (Below.refl _ _).drew | exact own_below (own_noneU w _ rfl _ (Nat.le_refl _)) (below_new _ _).drew | exact own_below (own_noneU (w.alloc _) _ (by simp) _ (by simp)) (Below.refl _ _).drew) hgrow1 (Below.size (by assumption))); obtain ⟨p1, c1, rfl, _⟩ := own_shape hown1; have HO1 := Lib.hid hown1; (first | (have HCX := Lib.hid (one_cellU (kept_late hgrow1))) | (have HCX := Lib.hid (one_cellU (kept_early hgrow1))) | skip); have hS1 := HG1.out; clear hown1 hgrow1))
                | ((refine step_own (by rfl) (.tmp 37) (.tmp 39) _ (by rfl) w.heap.size 29 i0 (.int .u64 0) 1 8 Try.underlying48 hi' hz0 hz1 hz2 rfl (by decide) _ q _ (by rfl) (by first | exact HO1.out | exact own_below HO1.out (below_new _ _)) ⟨_, 0, none⟩ 1 1 [.int .u64 x] (by rfl) rfl (by first | exact HCX.out | exact one_newU w1 x _ rfl) (by simp [Value.oneCell']) (by unfold maxLen; omega) (by omega) (Below.size (by assumption)) ?_; intro v2 w2 hown2 hgrow2; have HG2 := Lib.hid (own_grown (by assumption) (by first | exact HO1.out | exact own_below HO1.out (below_new _ _)) hgrow2 (Below.size (by assumption))); obtain ⟨p2, c2, rfl, _⟩ := own_shape hown2; have HO2 := Lib.hid hown2; have hS2 := HG2.out; clear hown2 hgrow2))
                | ((refine step_own (by rfl) (.tmp 40) (.tmp 43) _ (by rfl) w.heap.size 29 i0 (.int .u64 0) 1 8 Try.underlying48 hi' hz0 hz1 hz2 rfl (by decide) _ (q + 1) _ (by rfl) HO2.out ⟨g, q, none⟩ (S.length - q) (cv - q) (nmC (S.drop q)) (by rfl) HLD.out (HCD.out _ hS2) (nmC_one _) (by unfold maxLen; omega) (by omega) hS2.size ?_; intro v3 w3 hown3 hgrow3; have HG3 := Lib.hid (own_grown hS2 HO2.out hgrow3 hS2.size); obtain ⟨p3, c3, rfl, _⟩ := own_shape hown3; have HO3 := Lib.hid hown3; clear hown3 hgrow3)))
            all_goals
              have HF : Hid (OwnN w3 B (.slice p3 (q + 1 + (S.length - q)) c3) (insI S x)) := Lib.hid (by
                have e1 : (insI S x).length = q + 1 + (S.length - q) := by rw [HI.out, List.length_append, List.length_cons, List.length_take, List.length_drop]; omega
                have e2 : nmC (insI S x) = nmC (S.take q) ++ [.int .u64 x] ++ nmC (S.drop q) := by rw [HI.out]; simp [nmC]
                unfold OwnN
                rw [e1, e2]
                exact own_base HO3.out HBB.out)
              clear HO3
              go_wp2_with fail
              go_ret
              exact ⟨_, rfl, HF.out, HG3.out⟩
    · have i1 : (0 : Int) ≤ (q : Int) := by omega
      have i3 : ¬ (q : Int) < (S.length : Int) := by omega
      have i4 : decide ((q : Int) < (S.length : Int)) = false := decide_eq_false i3
      have HI := Lib.hid (put_new HAS.out HBF.out (fun z hz => by
        have := (List.getElem?_eq_some_iff.1 hz).1
        omega))
      by_cases hce : cv = q
      · subst cv
        have HLD := Lib.hid (show (nmC (S.drop q)).length = (S.length - q) * 1 by rw [nmC_len, List.length_drop])
        have HLT := Lib.hid (show (nmC (S.take q)).length = q * 1 by rw [nmC_len, List.length_take]; omega)
        have HND := Lib.hid (show nmC (S.drop q) = [] by unfold nmC; rw [List.drop_of_length_le (by have := HRM.out; omega)]; rfl)
        have HCD := Lib.hid (fun (W' : World) (_ : Below w.heap.size w W') (j : Nat) (u : Value) (hu : (nmC (S.drop q))[j]? = some u) => (show W'.cell? ((⟨g, 0, none⟩ : Addr).add j) = some u by rw [HND.out] at hu; simp at hu))
        have HCT := Lib.hid (fun (W' : World) (h : Below w.heap.size w W') (j : Nat) (u : Value) (hu : (nmC (S.take q))[j]? = some u) => (show W'.cell? ((⟨g, 0, none⟩ : Addr).add j) = some u by
          rw [Addr.add_lit, Nat.zero_add]; exact keep_cell (HCV.out j u (by
            rw [← nmC_take, List.getElem?_take] at hu
            split at hu
            · exact hu
            · cases hu)) h))
        have s1 : (0 : Int) ≤ (q : Int) := by omega
        have s2 : (q : Int) ≤ (q : Int) := by have := HRM.out; omega
        have s3 : (q : Int) ≤ (S.length : Int) := by omega
        clear hroom
        go_wp2_with fail
        have hS0 : Below w.heap.size w w := Below.refl _ _
        go_region_held3 (fun w' => Below w.heap.size w w')
          (first
            | assumption
            | exact (by assumption : Below w.heap.size w _).drew
            | exact below_call (by assumption) (below_new _ _)
            | exact below_call (by assumption) (Below.refl _ _).drew)
          (first
            | ((refine step_own (by rfl) (.tmp 33) (.tmp 36) _ (by rfl) w.heap.size 29 i0 (.int .u64 0) 1 8 Try.underlying48 hi' hz0 hz1 hz2 rfl (by decide) _ 0 [] (by rfl) (by first | exact own_below (own_noneU w _ rfl _ (Nat.le_refl _)) (Below.refl _ _).drew | exact own_below (own_noneU w _ rfl _ (Nat.le_refl _)) (below_new _ _).drew | exact own_below (own_noneU (w.alloc _) _ (by simp) _ (by simp)) (Below.refl _ _).drew) ⟨g, 0, none⟩ q q (nmC (S.take q)) (by rfl) HLT.out (HCT.out _ (by assumption)) (nmC_one _) (by unfold maxLen; omega) (by omega) (Below.size (by assumption)) ?_; intro v1 w1 hown1 hgrow1; rw [Nat.zero_add, List.nil_append] at hown1; have HG1 := Lib.hid (own_grown (by assumption) (by first | exact own_below (own_noneU w _ rfl _ (Nat.le_refl _)) (Below.refl _ _).drew | exact own_below (own_noneU w _ rfl _ (Nat.le_refl _)) (below_new _ _).drew | exact own_below (own_noneU (w.alloc _) _ (by simp) _ (by simp)) (Below.refl _ _).drew) hgrow1 (Below.size (by assumption))); obtain ⟨p1, c1, rfl, _⟩ := own_shape hown1; have HO1 := Lib.hid hown1; (first | (have HCX := Lib.hid (one_cellU (kept_late hgrow1))) | (have HCX := Lib.hid (one_cellU (kept_early hgrow1))) | skip); have hS1 := HG1.out; clear hown1 hgrow1))
            | ((refine step_own (by rfl) (.tmp 37) (.tmp 39) _ (by rfl) w.heap.size 29 i0 (.int .u64 0) 1 8 Try.underlying48 hi' hz0 hz1 hz2 rfl (by decide) _ q _ (by rfl) (by first | exact HO1.out | exact own_below HO1.out (below_new _ _)) ⟨_, 0, none⟩ 1 1 [.int .u64 x] (by rfl) rfl (by first | exact HCX.out | exact one_newU w1 x _ rfl) (by simp [Value.oneCell']) (by unfold maxLen; omega) (by omega) (Below.size (by assumption)) ?_; intro v2 w2 hown2 hgrow2; have HG2 := Lib.hid (own_grown (by assumption) (by first | exact HO1.out | exact own_below HO1.out (below_new _ _)) hgrow2 (Below.size (by assumption))); obtain ⟨p2, c2, rfl, _⟩ := own_shape hown2; have HO2 := Lib.hid hown2; have hS2 := HG2.out; clear hown2 hgrow2))
            | ((refine step_own (by rfl) (.tmp 40) (.tmp 43) _ (by rfl) w.heap.size 29 i0 (.int .u64 0) 1 8 Try.underlying48 hi' hz0 hz1 hz2 rfl (by decide) _ (q + 1) _ (by rfl) HO2.out ⟨g, 0, none⟩ (S.length - q) 0 (nmC (S.drop q)) (by rfl) HLD.out (HCD.out _ hS2) (nmC_one _) (by unfold maxLen; omega) (by omega) hS2.size ?_; intro v3 w3 hown3 hgrow3; have HG3 := Lib.hid (own_grown hS2 HO2.out hgrow3 hS2.size); obtain ⟨p3, c3, rfl, _⟩ := own_shape hown3; have HO3 := Lib.hid hown3; clear hown3 hgrow3)))
        all_goals
          have HF : Hid (OwnN w3 B (.slice p3 (q + 1 + (S.length - q)) c3) (insI S x)) := Lib.hid (by
            have e1 : (insI S x).length = q + 1 + (S.length - q) := by rw [HI.out, List.length_append, List.length_cons, List.length_take, List.length_drop]; omega
            have e2 : nmC (insI S x) = nmC (S.take q) ++ [.int .u64 x] ++ nmC (S.drop q) := by rw [HI.out]; simp [nmC]
            unfold OwnN
            rw [e1, e2]
            exact own_base HO3.out HBB.out)
          clear HO3
          go_wp2_with fail
          go_ret
          exact ⟨_, rfl, HF.out, HG3.out⟩
      · have hce0 : ¬ cv - q = 0 := by have := HRM.out; omega
        have HLD := Lib.hid (show (nmC (S.drop q)).length = (S.length - q) * 1 by rw [nmC_len, List.length_drop])
        have HLT := Lib.hid (show (nmC (S.take q)).length = q * 1 by rw [nmC_len, List.length_take]; omega)
        have HCD := Lib.hid (fun (W' : World) (h : Below w.heap.size w W') (j : Nat) (u : Value) (hu : (nmC (S.drop q))[j]? = some u) => (show W'.cell? ((⟨g, q, none⟩ : Addr).add j) = some u by
          rw [Addr.add_lit]; exact keep_cell (HCV.out (q + j) u (nm_drop S q j hu)) h))
        have HCT := Lib.hid (fun (W' : World) (h : Below w.heap.size w W') (j : Nat) (u : Value) (hu : (nmC (S.take q))[j]? = some u) => (show W'.cell? ((⟨g, 0, none⟩ : Addr).add j) = some u by
          rw [Addr.add_lit, Nat.zero_add]; exact keep_cell (HCV.out j u (by
            rw [← nmC_take, List.getElem?_take] at hu
            split at hu
            · exact hu
            · cases hu)) h))
        have s1 : (0 : Int) ≤ (q : Int) := by omega
        have s2 : (q : Int) ≤ (cv : Int) := by have := HRM.out; omega
        have s3 : (q : Int) ≤ (S.length : Int) := by omega
        clear hroom
        go_wp2_with fail
        have hS0 : Below w.heap.size w w := Below.refl _ _
        go_region_held3 (fun w' => Below w.heap.size w w')
          (first
            | assumption
            | exact (by assumption : Below w.heap.size w _).drew
            | exact below_call (by assumption) (below_new _ _)
            | exact below_call (by assumption) (Below.refl _ _).drew)
          (first
            | ((refine step_own (by rfl) (.tmp 33) (.tmp 36) _ (by rfl) w.heap.size 29 i0 (.int .u64 0) 1 8 Try.underlying48 hi' hz0 hz1 hz2 rfl (by decide) _ 0 [] (by rfl) (by first | exact own_below (own_noneU w _ rfl _ (Nat.le_refl _)) (Below.refl _ _).drew | exact own_below (own_noneU w _ rfl _ (Nat.le_refl _)) (below_new _ _).drew | exact own_below (own_noneU (w.alloc _) _ (by simp) _ (by simp)) (Below.refl _ _).drew) ⟨g, 0, none⟩ q cv (nmC (S.take q)) (by rfl) HLT.out (HCT.out _ (by assumption)) (nmC_one _) (by unfold maxLen; omega) (by omega) (Below.size (by assumption)) ?_; intro v1 w1 hown1 hgrow1; rw [Nat.zero_add, List.nil_append] at hown1; have HG1 := Lib.hid (own_grown (by assumption) (by first | exact own_below (own_noneU w _ rfl _ (Nat.le_refl _)) (Below.refl _ _).drew | exact own_below (own_noneU w _ rfl _ (Nat.le_refl _)) (below_new _ _).drew | exact own_below (own_noneU (w.alloc _) _ (by simp) _ (by simp)) (Below.refl _ _).drew) hgrow1 (Below.size (by assumption))); obtain ⟨p1, c1, rfl, _⟩ := own_shape hown1; have HO1 := Lib.hid hown1; (first | (have HCX := Lib.hid (one_cellU (kept_late hgrow1))) | (have HCX := Lib.hid (one_cellU (kept_early hgrow1))) | skip); have hS1 := HG1.out; clear hown1 hgrow1))
            | ((refine step_own (by rfl) (.tmp 37) (.tmp 39) _ (by rfl) w.heap.size 29 i0 (.int .u64 0) 1 8 Try.underlying48 hi' hz0 hz1 hz2 rfl (by decide) _ q _ (by rfl) (by first | exact HO1.out | exact own_below HO1.out (below_new _ _)) ⟨_, 0, none⟩ 1 1 [.int .u64 x] (by rfl) rfl (by first | exact HCX.out | exact one_newU w1 x _ rfl) (by simp [Value.oneCell']) (by unfold maxLen; omega) (by omega) (Below.size (by assumption)) ?_; intro v2 w2 hown2 hgrow2; have HG2 := Lib.hid (own_grown (by assumption) (by first | exact HO1.out | exact own_below HO1.out (below_new _ _)) hgrow2 (Below.size (by assumption))); obtain ⟨p2, c2, rfl, _⟩ := own_shape hown2; have HO2 := Lib.hid hown2; have hS2 := HG2.out; clear hown2 hgrow2))
            | ((refine step_own (by rfl) (.tmp 40) (.tmp 43) _ (by rfl) w.heap.size 29 i0 (.int .u64 0) 1 8 Try.underlying48 hi' hz0 hz1 hz2 rfl (by decide) _ (q + 1) _ (by rfl) HO2.out ⟨g, q, none⟩ (S.length - q) (cv - q) (nmC (S.drop q)) (by rfl) HLD.out (HCD.out _ hS2) (nmC_one _) (by unfold maxLen; omega) (by omega) hS2.size ?_; intro v3 w3 hown3 hgrow3; have HG3 := Lib.hid (own_grown hS2 HO2.out hgrow3 hS2.size); obtain ⟨p3, c3, rfl, _⟩ := own_shape hown3; have HO3 := Lib.hid hown3; clear hown3 hgrow3)))
        all_goals
          have HF : Hid (OwnN w3 B (.slice p3 (q + 1 + (S.length - q)) c3) (insI S x)) := Lib.hid (by
            have e1 : (insI S x).length = q + 1 + (S.length - q) := by rw [HI.out, List.length_append, List.length_cons, List.length_take, List.length_drop]; omega
            have e2 : nmC (insI S x) = nmC (S.take q) ++ [.int .u64 x] ++ nmC (S.drop q) := by rw [HI.out]; simp [nmC]
            unfold OwnN
            rw [e1, e2]
            exact own_base HO3.out HBB.out)
          clear HO3
          go_wp2_with fail
          go_ret
          exact ⟨_, rfl, HF.out, HG3.out⟩
theorem put10_any (S : List Int) (x : Int) (v : Value) (w : World) (B : Nat) (hB : B ≤ w.heap.size) (hown : OwnN w B v S) (hasc : ascL S) (hl : S.length ≤ 99999) : Calls Try.prog 25 #[v, .int .u64 x] w (IsPut B (insI S x) w) := by
  rcases own_nil_or hown with ⟨rfl, h0⟩ | ⟨g, cap, rfl⟩
  · obtain rfl := List.eq_nil_of_length_eq_zero h0
    exact put10_nil x w B hB
  · exact put10_some S x g cap w B hB hown hasc hl
end Go.Proofs.Ytefiobfljhmkkaa

/- The reference's calculations with vectors: what is known of a replica, one version, how many; and the laws' look at their vectors. Conditions: as each theorem says. -/
namespace Go.Proofs.Ytefiobfljhmkkaa
open Go.RowKit
/-- A vector of moderate size. -/
def smallV (n h : Nat) (V : List (Int × Int × List Iv)) : Prop := V.length ≤ n ∧ ∀ x ∈ V, x.2.2.length ≤ h
theorem opAt_ent {w : World} {s : Value} {m : Int} {H : List Iv} (hi : IvsAt w s H) (hg : GoodE m H) (hl : H.length ≤ 5000) : OpAt w s H := ⟨hi, hg.good, by omega⟩
theorem find_kn (V : List (Int × Int × List Iv)) (r : Int) : (findV V r = -1 ∧ knV V r = []) ∨ ∃ (k : Nat) (x : Int × Int × List Iv), V[k]? = some x ∧ findV V r = (k : Int) ∧ knV V r = knownL x.2.1 x.2.2 := by
  unfold findV knV
  cases h : V.findIdx? (fun x => decide (x.1 = r)) with
  | none => exact .inl ⟨rfl, rfl⟩
  | some k =>
    rw [List.findIdx?_eq_some_iff_getElem] at h
    obtain ⟨hk, _⟩ := h
    have hx : V[k]? = some V[k] := by simp [hk]
    exact .inr ⟨k, V[k], hx, rfl, by simp only [hx]⟩
set_option maxRecDepth 100000 in
set_option maxHeartbeats 2000000 in
theorem refKnown10_any (V : List (Int × Int × List Iv)) (v : Value) (r : Int) (w : World) (hv : VecI w v V) (hg : GoodV V) (hs : ∀ x ∈ V, x.2.2.length ≤ 5000) : Calls Try.prog 28 #[v, .int .u64 r] w (IsOwnR (knV V r) w) := by
  obtain ⟨p, cap, rfl⟩ := hv.shape
  have hlen := hv.len
  have K := Lib.hid (refFind9_any V _ r w hv)
  have KK := Lib.hid refKnown_any
  have HV := Lib.hid hv; clear hv
  rcases find_kn V r with ⟨h1, h2⟩ | ⟨k, ⟨x, m, H⟩, hx, h1, h2⟩
  · rw [h1] at K
    rw [h2]
    clear h1 h2 hg hs
    go_enter Try.func28, Try.ntmps28
    go_wp2_with fail
    refine K.out.mono ?_
    rintro e w1 ⟨rfl, h⟩
    have H1 := Lib.hid h; clear h
    go_wp2_with fail
    go_ret
    exact ⟨_, rfl, OwnL.nil _ _, H1.out⟩
  · rw [h1] at K
    have hlt := (List.getElem?_eq_some_iff.1 hx).1
    have hmem := List.mem_iff_getElem?.2 ⟨k, hx⟩
    have hge := hg.ent _ hmem
    have hhl := hs _ hmem
    dsimp only at hge hhl h2
    rw [h2]
    have i1 : (0 : Int) ≤ (k : Int) := by omega
    have i2 : (k : Int) < (V.length : Int) := by omega
    have i3 : ¬ (k : Int) < 0 := by omega
    have HX := Lib.hid hx
    have HGE := Lib.hid (And.intro hge hhl)
    clear h1 h2 hg hs hx hmem hge hhl
    go_enter Try.func28, Try.ntmps28
    go_wp2_with fail
    refine K.out.mono ?_
    rintro e w1 ⟨rfl, h⟩
    obtain ⟨b, o, cp, q, n, c, e, c0, c1, c2, ha⟩ := (HV.out.call h).elem HX.out
    cases e
    have KA := Lib.hid (KK.out x m H (.slice q n c) w1 (opAt_ent ha HGE.out.1 HGE.out.2) HGE.out.1)
    have H1 := Lib.hid h; clear h ha
    go_wp2_with fail
    refine KA.out.mono ?_
    rintro e w2 ⟨u, rfl, hu, h⟩
    have HU := Lib.hid (And.intro hu h); clear hu h c0 c1 c2
    go_wp2_with fail
    go_ret
    exact ⟨_, rfl, own_base HU.out.1 H1.out.size, below_call H1.out HU.out.2⟩
/-- A call that returns a vector to be read. -/
def IsVI (V : List (Int × Int × List Iv)) (w : World) (e : Ending) (w' : World) : Prop := ∃ u, e = .returned u ∧ VecI w' u V ∧ Below w.heap.size w w'
set_option maxRecDepth 100000 in
set_option maxHeartbeats 2000000 in
theorem refCount10_any (V : List (Int × Int × List Iv)) (v : Value) (w : World) (hv : VecI w v V) (hg : GoodV V) (hs : ∀ x ∈ V, x.2.2.length ≤ 5000) : Calls Try.prog 15 #[v] w (IsCP (cntV V) w) := by
  obtain ⟨p, cap, rfl⟩ := hv.shape
  have hlen := hv.len
  have HV := Lib.hid hv; clear hv
  have HG := Lib.hid hg; clear hg
  have HSM := Lib.hid hs; clear hs
  have KK := Lib.hid refKnown_any
  have KC := Lib.hid refCnt_any
  have KP := Lib.hid w_refPlus_any
  go_enter Try.func15, Try.ntmps15
  go_wp2_with fail
  go_loopw [4, 5, 6] (fun h n i wr => ∃ (k : Nat) (t : Int), i = .int .i64 k ∧ h = .int .u64 (t / 18446744073709551616) ∧ n = .int .u64 (t % 18446744073709551616) ∧ k ≤ V.length ∧ t = cntV (V.take k) ∧ Below w.heap.size w wr) (fun _ _ i _ => V.length - (intOf i).toNat)
  case atStart => exact ⟨0, 0, rfl, rfl, rfl, Nat.zero_le _, rfl, Below.refl _ _⟩
  case round =>
    obtain ⟨k, t, rfl, rfl, rfl, hk, ht, hb⟩ := hrel
    have hbd := cntV_bound (V := V.take k) fun x hx => HG.out.ent x (List.mem_of_mem_take hx)
    rw [← ht, List.length_take] at hbd
    have htm : 0 ≤ t ∧ t ≤ 100000 * 18446744073709551616 := ⟨hbd.1, by omega⟩
    clear hbd
    obtain ⟨q, hq⟩ : ∃ q, t / 18446744073709551616 = q := ⟨_, rfl⟩
    obtain ⟨r, hr⟩ : ∃ r, t % 18446744073709551616 = r := ⟨_, rfl⟩
    rw [hq, hr]
    have HQ := Lib.hid (And.intro hq hr); clear hq hr
    have HB := Lib.hid hb; clear hb
    have HT := Lib.hid (And.intro ht htm); clear ht htm
    by_cases hlt : k < V.length
    · obtain ⟨⟨x, m, H⟩, hx⟩ : ∃ x, V[k]? = some x := ⟨V[k], by simp [hlt]⟩
      obtain ⟨b, o, cp, q', n, c, e, c0, c1, c2, ha⟩ := (HV.out.call HB.out).elem hx
      cases e
      have hmem := List.mem_iff_getElem?.2 ⟨k, hx⟩
      have hge := HG.out.ent _ hmem
      have hhl := HSM.out _ hmem
      dsimp only at hge hhl
      have KA := Lib.hid (KK.out x m H (.slice q' n c) _ (opAt_ent ha hge hhl) hge)
      have hkc := known_count hge
      have hkg := known_good hge
      have hcm := cnt_max hkg
      have hsn : cntV (V.take (k + 1)) = t + cntL (knownL m H) := by
        unfold cntV
        rw [take_snoc9 hx, List.map_append, List.sum_append, HT.out.1]
        unfold cntV
        simp
      have HKG := Lib.hid (And.intro hkg (show (knownL m H).length ≤ 20000 by omega))
      have i1 : (0 : Int) ≤ (k : Int) := by omega
      have i2 : (k : Int) < (V.length : Int) := by omega
      clear hkc hkg hge hhl hmem hx ha
      generalize knownL m H = KN at *
      obtain ⟨z, hz⟩ : ∃ z, cntL KN = z := ⟨_, rfl⟩
      rw [hz] at hcm hsn
      obtain ⟨lw, hlw⟩ : ∃ lw, z % 18446744073709551616 = lw := ⟨_, rfl⟩
      obtain ⟨kw, hkw⟩ : ∃ kw, z / 18446744073709551616 = kw := ⟨_, rfl⟩
      have hUM : UM = 18446744073709551615 := rfl
      have KP1 := Lib.hid (fun W => KP.out q r kw lw ((r + lw) % 18446744073709551616) (q + kw + (r + lw) / 18446744073709551616) W (by have := HQ.out; have := HT.out.2; omega) (by have := HQ.out; have := HT.out.2; omega) (by have := HQ.out; have := HT.out.2; omega) (by have := HQ.out; have := HT.out.2; omega) (by have := HQ.out; have := HT.out.2; omega) (by have := HQ.out; have := HT.out.2; omega) (by have := HQ.out; have := HT.out.2; omega) (by have := HQ.out; have := HT.out.2; omega) (by omega) (by omega))
      obtain ⟨t', ht'⟩ : ∃ t', t + z = t' := ⟨_, rfl⟩
      have e1 : (r + lw) % 18446744073709551616 = t' % 18446744073709551616 := by have := HQ.out; omega
      have e2 : q + kw + (r + lw) / 18446744073709551616 = t' / 18446744073709551616 := by have := HQ.out; have := HT.out.2; omega
      rw [e1, e2] at KP1
      have KC1 := Lib.hid (fun s W h => (by have k := KC.out KN s W h; unfold IsCP at k; rw [hz, hkw, hlw] at k; exact k : Calls Try.prog 34 #[s, .int .u64 0, .bool true] W (fun e w' => e = .returned (.tuple #[.int .u64 kw, .int .u64 lw]) ∧ Below W.heap.size W w')))
      have HE := Lib.hid (And.intro hsn ht'); clear e1 e2 hlw hkw hz hsn ht' hcm hUM KP KC
      go_wp2_with fail
      refine KA.out.mono ?_
      rintro e w1 ⟨u, rfl, hu, h⟩
      have HU := Lib.hid (OwnL.ivs hu (by have := HKG.out.2; omega)); clear hu
      have H1 := Lib.hid (below_call HB.out h); clear h c0 c1 c2
      go_wp2_with fail
      refine (KC1.out _ _ ⟨HU.out, HKG.out.1, HKG.out.2⟩).mono ?_
      rintro e w2 ⟨rfl, h⟩
      have H2 := Lib.hid (below_call H1.out h); clear h
      go_wp2_with fail
      refine (KP1.out _).mono ?_
      rintro e w3 ⟨rfl, hw⟩
      obtain rfl := hw
      go_wp2_with fail
      go_roundw
      case rel => exact ⟨k + 1, t', by go_num, rfl, rfl, by omega, by have := HE.out; omega, H2.out⟩
      case measure => simp [intOf]; omega
    · obtain rfl : k = V.length := by omega
      have HZ : Hid (t = cntV V) := Lib.hid (by have := HT.out.1; rwa [List.take_of_length_le (Nat.le_refl _)] at this)
      go_wp2_with fail
      go_ret2
      exact ⟨by rw [← HZ.out, HQ.out.1, HQ.out.2]; rfl, HB.out⟩
/-- A vector that the laws take; one that they turn away. -/
def okV10 (w : World) (v : Value) : Prop := ∃ V, VecS w v V ∧ GoodV V ∧ smallV 20 30 V
theorem okV10.call {w w' : World} {v : Value} (h : okV10 w v) (hb : Below w.heap.size w w') : okV10 w' v := by
  obtain ⟨V, h1, h2, h3⟩ := h
  exact ⟨V, h1.call hb, h2, h3⟩
/-- What the look says of a vector that came in: (Few, Right). -/
structure Look10 (w : World) (v : Value) (b c : Bool) : Prop where
  sh : ∃ p n c, v = .slice p n c
  few : ∀ W, Below w.heap.size w W → Calls Try.prog 19 #[v] W (IsEnd b W)
  right : b = true → ∀ W, Below w.heap.size w W → Calls Try.prog 20 #[v] W (IsEnd c W)
  ok : b = true → c = true → okV10 w v
theorem vecArg.look {w : World} {v : Value} (h : vecArg w v) : ∃ b c, Look10 w v b c := by
  obtain ⟨hsh, b, hf, hv⟩ := h.few
  cases b with
  | false => exact ⟨false, false, hsh, hf, (fun e => by cases e), fun e => by cases e⟩
  | true =>
    obtain ⟨V, h1, h2, h3⟩ := hv rfl
    exact ⟨true, rightV V, hsh, hf, fun _ W hb => refRight9_any V v W (h1.m.call hb), fun _ e => ⟨V, h1, good_of_right h1.m.all64 e, h2, h3⟩⟩
set_option maxRecDepth 100000 in
set_option maxHeartbeats 4000000 in
/-- The look at a literal list of vectors: the first m are right, the next one is not, if there is one. -/
theorem rights10_upto (n bl cp : Nat) (vs : Nat → Value) (bs cs : Nat → Bool) (w W0 : World) (m : Nat) (hm : m ≤ n) (hn : n ≤ 100) (hW : Below W0.heap.size W0 w) (hcell : ∀ i, i < n → w.cell? ⟨bl, i, none⟩ = some (vs i))
    (hl : ∀ i, i < n → Look10 W0 (vs i) (bs i) (cs i)) (hok : ∀ i, i < m → bs i = true ∧ cs i = true) (hbad : m < n → bs m = false ∨ cs m = false) :
    Calls Try.prog 7 #[.slice (some ⟨bl, 0, none⟩) n cp] w (IsEnd (decide (m = n)) w) := by
  have HC := Lib.hid hcell; have HK := Lib.hid hok; have HD := Lib.hid hbad; have HL := Lib.hid hl; have HW := Lib.hid hW
  clear hcell hok hbad hl hW
  go_enter Try.func7, Try.ntmps7
  go_wp2_with fail
  go_loopw [7] (fun i wr => ∃ k : Nat, k ≤ m ∧ i = .int .i64 k ∧ Below w.heap.size w wr) (fun i _ => n - (intOf i).toNat)
  case atStart => exact ⟨0, Nat.zero_le _, rfl, Below.refl _ _⟩
  case round =>
    obtain ⟨k, hk, rfl, hb⟩ := hrel
    have HB := Lib.hid hb; clear hb
    have HBW := Lib.hid (below_call HW.out HB.out)
    by_cases hlt : k < n
    · have c0 := keep_cell (HC.out k hlt) HB.out
      obtain ⟨⟨pv, nv, cv, hv⟩, hf, hr, _⟩ := HL.out k hlt
      have i1 : (0 : Int) ≤ (k : Int) := by omega
      have i2 : (k : Int) < (n : Int) := by omega
      have c1 : wr.cell? ⟨bl, 0 + k, none⟩ = some (.slice pv nv cv) := by rw [Nat.zero_add, ← hv]; simpa using c0
      have c2 : wr.cell? ⟨bl, k, none⟩ = some (.slice pv nv cv) := by rw [← hv]; simpa using c0
      rw [hv] at hf hr
      have KF := Lib.hid hf; have KR := Lib.hid hr
      clear hf hr c0 hv
      have hkb : k < m → bs k = true ∧ cs k = true := HK.out k
      have hkd : ¬ k < m → (bs k = false ∨ cs k = false) ∧ k = m := fun h => by
        obtain rfl : k = m := by omega
        exact ⟨HD.out hlt, rfl⟩
      obtain ⟨b, hbk⟩ : ∃ b, bs k = b := ⟨_, rfl⟩
      obtain ⟨c, hck⟩ : ∃ c, cs k = c := ⟨_, rfl⟩
      rw [hbk] at KF KR
      rw [hck] at KR
      rw [hbk, hck] at hkb hkd
      have HKB := Lib.hid hkb; have HKD := Lib.hid hkd
      clear hkb hkd hbk hck
      go_wp2_with fail
      refine (KF.out _ HBW.out).mono ?_
      rintro e w1 ⟨rfl, h⟩
      have H1 := Lib.hid (below_call HB.out h)
      have H1W := Lib.hid (below_call HBW.out h); clear h c1 c2
      cases b with
      | false =>
        have hnm : ¬ k < m := fun h => by have := (HKB.out h).1; cases this
        obtain ⟨_, rfl⟩ := HKD.out hnm
        have hd : decide (k = n) = false := by simp; omega
        go_wp2_with fail
        go_ret
        exact ⟨by rw [hd]; rfl, H1.out⟩
      | true =>
        go_wp2_with fail
        refine (KR.out (by trivial) _ H1W.out).mono ?_
        rintro e w2 ⟨rfl, h⟩
        have H2 := Lib.hid (below_call H1.out h); clear h
        cases c with
        | false =>
          have hnm : ¬ k < m := fun h => by have := (HKB.out h).2; cases this
          obtain ⟨_, rfl⟩ := HKD.out hnm
          have hd : decide (k = n) = false := by simp; omega
          go_wp2_with fail
          go_ret
          exact ⟨by rw [hd]; rfl, H2.out⟩
        | true =>
          have hkm : k < m := Nat.lt_of_not_le fun h => by
            rcases (HKD.out (by omega)).1 with e | e <;> cases e
          go_wp2_with fail
          go_roundw
          case rel => exact ⟨k + 1, by omega, by go_num, H2.out⟩
          case measure => simp [intOf]; omega
    · obtain rfl : k = n := by omega
      obtain rfl : k = m := by omega
      rw [decide_eq_true rfl]
      go_wp2_with fail
      go_ret
      exact ⟨rfl, HB.out⟩
theorem rights10_any (n bl cp : Nat) (vs : Nat → Value) (w W0 : World) (hn : n ≤ 100) (hW : Below W0.heap.size W0 w) (hcell : ∀ i, i < n → w.cell? ⟨bl, i, none⟩ = some (vs i)) (ha : ∀ i, i < n → vecArg W0 (vs i)) :
    ∃ b : Bool, (b = true → ∀ i, i < n → okV10 W0 (vs i)) ∧ Calls Try.prog 7 #[.slice (some ⟨bl, 0, none⟩) n cp] w (IsEnd b w) := by
  have hex : ∃ (bs cs : Nat → Bool), ∀ i, i < n → Look10 W0 (vs i) (bs i) (cs i) := by
    refine ⟨fun i => if h : i < n then Classical.choose (ha i h).look else false, fun i => if h : i < n then Classical.choose (Classical.choose_spec (ha i h).look) else false, fun i h => ?_⟩
    simp only [dif_pos h]
    exact Classical.choose_spec (Classical.choose_spec (ha i h).look)
  obtain ⟨bs, cs, hl⟩ := hex
  have first : ∀ d, d ≤ n → (∀ i, i < d → bs i = true ∧ cs i = true) ∨ ∃ m, m < d ∧ (∀ i, i < m → bs i = true ∧ cs i = true) ∧ (bs m = false ∨ cs m = false) := by
    intro d
    induction d with
    | zero => intro _; exact .inl fun i hi => absurd hi (Nat.not_lt_zero i)
    | succ d ih =>
      intro hd
      rcases ih (by omega) with h | ⟨m, h1, h2, h3⟩
      · cases hb : bs d with
        | false => exact .inr ⟨d, Nat.lt_succ_self d, h, .inl hb⟩
        | true =>
          cases hc : cs d with
          | false => exact .inr ⟨d, Nat.lt_succ_self d, h, .inr hc⟩
          | true =>
            refine .inl fun i hi => ?_
            rcases Nat.lt_or_eq_of_le (Nat.le_of_lt_succ hi) with h' | h'
            · exact h i h'
            · subst h'; exact ⟨hb, hc⟩
      · exact .inr ⟨m, by omega, h2, h3⟩
  rcases first n (Nat.le_refl _) with h | ⟨m, h1, h2, h3⟩
  · refine ⟨true, fun _ i hi => (hl i hi).ok (h i hi).1 (h i hi).2, ?_⟩
    have k := rights10_upto n bl cp vs bs cs w W0 n (Nat.le_refl _) hn hW hcell hl h (fun e => absurd e (Nat.lt_irrefl _))
    rwa [decide_eq_true rfl] at k
  · refine ⟨false, (fun e => by cases e), ?_⟩
    have k := rights10_upto n bl cp vs bs cs w W0 m (by omega) hn hW hcell hl h2 (fun _ => h3)
    rwa [show decide (m = n) = false from by simp; omega] at k
end Go.Proofs.Ytefiobfljhmkkaa

/- What the laws of layer 10 ask of package lattice, and of the reference's operations. Conditions: as each theorem says. -/
namespace Go.Proofs.Ytefiobfljhmkkaa
open Go.RowKit
theorem small_op {n n' h h' : Nat} {f : List Iv → List Iv → List Iv} (hf : ∀ K L, GoodL K → GoodL L → GoodL (f K L)) (hc : ∀ K L, GoodL K → GoodL L → (f K L).length ≤ K.length + L.length) {A B : List (Int × Int × List Iv)} (gA : GoodV A) (gB : GoodV B) (sA : smallV n h A) (sB : smallV n' h' B) : smallV (n + n') (h + h' + 3) (opV f A B) := by
  refine ⟨Nat.le_trans (opV_len f A B) (by have := sA.1; have := sB.1; omega), fun y hy => ?_⟩
  obtain ⟨r, _, e⟩ := List.mem_filterMap.1 hy
  obtain ⟨_, _, e2⟩ := opE_some e
  have key : ∀ {n h : Nat} {V : List (Int × Int × List Iv)}, GoodV V → smallV n h V → (knV V r).length ≤ h + 1 := fun g s => by
    rcases knV_cases g.asc r with ⟨x, hx, _, e⟩ | ⟨_, e⟩
    · rw [e]; have := known_count (g.ent x hx); have := s.2 x hx; omega
    · rw [e]; exact Nat.zero_le _
  have h1 := key gA sA
  have h2 := key gB sB
  have h3 := hc _ _ (knV_good gA r) (knV_good gB r)
  have h4 := holes_count (hf _ _ (knV_good gA r) (knV_good gB r))
  rw [e2]
  dsimp only
  omega
theorem small_or {n n' h h' : Nat} {A B : List (Int × Int × List Iv)} (gA : GoodV A) (gB : GoodV B) (sA : smallV n h A) (sB : smallV n' h' B) : smallV (n + n') (h + h' + 3) (opV orL A B) := small_op (fun _ _ h h' => orL_good h h') (fun _ _ h h' => or_count h h') gA gB sA sB
theorem small_and {n n' h h' : Nat} {A B : List (Int × Int × List Iv)} (gA : GoodV A) (gB : GoodV B) (sA : smallV n h A) (sB : smallV n' h' B) : smallV (n + n') (h + h' + 3) (opV andL A B) := small_op (fun _ _ h h' => andL_good h h') (fun _ _ h h' => and_count h h') gA gB sA sB
theorem smallV.mono {n h n' h' : Nat} {V : List (Int × Int × List Iv)} (s : smallV n h V) (hn : n ≤ n') (hh : h ≤ h') : smallV n' h' V := ⟨Nat.le_trans s.1 hn, fun x hx => Nat.le_trans (s.2 x hx) hh⟩
theorem or_good {A B : List (Int × Int × List Iv)} (gA : GoodV A) (gB : GoodV B) : GoodV (opV orL A B) := (opV_good (fun _ _ h h' => orL_good h h') gA gB).1
theorem and_good {A B : List (Int × Int × List Iv)} (gA : GoodV A) (gB : GoodV B) : GoodV (opV andL A B) := (opV_good (fun _ _ h h' => andL_good h h') gA gB).1
theorem or_kn {A B : List (Int × Int × List Iv)} (gA : GoodV A) (gB : GoodV B) (r : Int) : knV (opV orL A B) r = orL (knV A r) (knV B r) := opV_kn (fun _ _ h h' => orL_good h h') rfl gA gB r
theorem and_kn {A B : List (Int × Int × List Iv)} (gA : GoodV A) (gB : GoodV B) (r : Int) : knV (opV andL A B) r = andL (knV A r) (knV B r) := opV_kn (fun _ _ h h' => andL_good h h') rfl gA gB r
/-- A result is what it is known by. -/
theorem op_is {f : List Iv → List Iv → List Iv} (hf : ∀ K L, GoodL K → GoodL L → GoodL (f K L)) (f0 : f [] [] = []) {A B W : List (Int × Int × List Iv)} (gA : GoodV A) (gB : GoodV B) (gW : GoodV W) (cW : ∀ y ∈ W, canonB y.2.1 y.2.2 = true) (h : ∀ r, f (knV A r) (knV B r) = knV W r) : opV f A B = W :=
  canV_eq (opV_good hf gA gB).1 (opV_good hf gA gB).2 gW cW fun r => by rw [opV_kn hf f0 gA gB, h r]
theorem or_comm10 {A B : List (Int × Int × List Iv)} (gA : GoodV A) (gB : GoodV B) : opV orL A B = opV orL B A := opV_ext (fun _ _ h h' => orL_good h h') (fun _ _ h h' => orL_good h h') rfl rfl gA gB gB gA fun r => or_comm' (knV_good gA r) (knV_good gB r)
theorem and_comm10 {A B : List (Int × Int × List Iv)} (gA : GoodV A) (gB : GoodV B) : opV andL A B = opV andL B A := opV_ext (fun _ _ h h' => andL_good h h') (fun _ _ h h' => andL_good h h') rfl rfl gA gB gB gA fun r => and_comm' (knV_good gA r) (knV_good gB r)
theorem or_self10 {A : List (Int × Int × List Iv)} (gA : GoodV A) : opV orL A A = canonV A := op_is (fun _ _ h h' => orL_good h h') rfl gA gA (canonV_good gA).1 (canonV_good gA).2 fun r => by rw [or_self' (knV_good gA r), canonV_kn gA]
theorem and_self10 {A : List (Int × Int × List Iv)} (gA : GoodV A) : opV andL A A = canonV A := op_is (fun _ _ h h' => andL_good h h') rfl gA gA (canonV_good gA).1 (canonV_good gA).2 fun r => by rw [and_self' (knV_good gA r), canonV_kn gA]
theorem or_assoc10 {A B C : List (Int × Int × List Iv)} (gA : GoodV A) (gB : GoodV B) (gC : GoodV C) : opV orL (opV orL A B) C = opV orL A (opV orL B C) := opV_ext (fun _ _ h h' => orL_good h h') (fun _ _ h h' => orL_good h h') rfl rfl (or_good gA gB) gC gA (or_good gB gC) fun r => by rw [or_kn gA gB, or_kn gB gC]; exact or_assoc' (knV_good gA r) (knV_good gB r) (knV_good gC r)
theorem and_assoc10 {A B C : List (Int × Int × List Iv)} (gA : GoodV A) (gB : GoodV B) (gC : GoodV C) : opV andL (opV andL A B) C = opV andL A (opV andL B C) := opV_ext (fun _ _ h h' => andL_good h h') (fun _ _ h h' => andL_good h h') rfl rfl (and_good gA gB) gC gA (and_good gB gC) fun r => by rw [and_kn gA gB, and_kn gB gC]; exact and_assoc' (knV_good gA r) (knV_good gB r) (knV_good gC r)
theorem and_or10 {A B C : List (Int × Int × List Iv)} (gA : GoodV A) (gB : GoodV B) (gC : GoodV C) : opV andL (opV orL A B) C = opV orL (opV andL A C) (opV andL B C) := opV_ext (fun _ _ h h' => andL_good h h') (fun _ _ h h' => orL_good h h') rfl rfl (or_good gA gB) gC (and_good gA gC) (and_good gB gC) fun r => by rw [or_kn gA gB, and_kn gA gC, and_kn gB gC]; exact and_or' (knV_good gA r) (knV_good gB r) (knV_good gC r)
theorem sub_nil_of {K L : List Iv} (hK : GoodL K) (hL : GoodL L) (h : ∀ x, hasL K x = true → hasL L x = true) : subL K L = [] := good_eq (subL_good hK hL) good_nil fun x => by
  rw [sub_has hK hL]
  cases hk : hasL K x with
  | false => rfl
  | true => rw [h x hk]; rfl
theorem sub_or10 {A B : List (Int × Int × List Iv)} (gA : GoodV A) (gB : GoodV B) : opV subL A (opV orL A B) = [] := (opV_nil (fun _ _ h h' => subL_good h h') rfl gA (or_good gA gB)).2 fun r => by
  rw [or_kn gA gB]
  exact sub_nil_of (knV_good gA r) (orL_good (knV_good gA r) (knV_good gB r)) fun x hx => by rw [or_has (knV_good gA r) (knV_good gB r), hx]; rfl
theorem and_sub10 {A B : List (Int × Int × List Iv)} (gA : GoodV A) (gB : GoodV B) : opV subL (opV andL A B) A = [] := (opV_nil (fun _ _ h h' => subL_good h h') rfl (and_good gA gB) gA).2 fun r => by
  rw [and_kn gA gB]
  exact sub_nil_of (andL_good (knV_good gA r) (knV_good gB r)) (knV_good gA r) fun x hx => by
    rw [and_has (knV_good gA r) (knV_good gB r), Bool.and_eq_true] at hx
    exact hx.1
theorem small_one (r c : Int) : smallV 1 6 (oneV r c) := ⟨by simp [oneV], fun x hx => by
  rw [List.mem_singleton.1 hx]
  have := holes_len (L := [(c, c)])
  simp at this
  dsimp only
  omega⟩
/-- A call that returns a count. -/
def IsCt (n : Int) (w : World) (e : Ending) (w' : World) : Prop := e = .returned (.agg #[.int .u64 (n / 18446744073709551616), .int .u64 (n % 18446744073709551616)]) ∧ Below w.heap.size w w'
/-- The contracts of package lattice. -/
structure LatC : Prop where
  uni : ∀ (A B : List (Int × Int × List Iv)) (a b : Value) (w : World), VecS w a A → VecS w b B → GoodV A → GoodV B → smallV 1000 1000 A → smallV 1000 1000 B → Calls Try.prog 10 #[a, b] w (IsVN (opV orL A B) w)
  meet : ∀ (A B : List (Int × Int × List Iv)) (a b : Value) (w : World), VecS w a A → VecS w b B → GoodV A → GoodV B → smallV 1000 1000 A → smallV 1000 1000 B → Calls Try.prog 12 #[a, b] w (IsVN (opV andL A B) w)
  minus : ∀ (A B : List (Int × Int × List Iv)) (a b : Value) (w : World), VecS w a A → VecS w b B → GoodV A → GoodV B → smallV 1000 1000 A → smallV 1000 1000 B → Calls Try.prog 13 #[a, b] w (IsVN (opV subL A B) w)
  sub : ∀ (A B : List (Int × Int × List Iv)) (a b : Value) (w : World), VecS w a A → VecS w b B → GoodV A → GoodV B → smallV 1000 1000 A → smallV 1000 1000 B → Calls Try.prog 14 #[a, b] w (IsEnd (decide (opV subL A B = [])) w)
  add : ∀ (V : List (Int × Int × List Iv)) (v : Value) (r c : Int) (w : World), VecS w v V → GoodV V → smallV 1000 1000 V → 0 ≤ r → r ≤ 18446744073709551615 → 0 ≤ c → c ≤ 18446744073709551615 → Calls Try.prog 21 #[v, .int .u64 r, .int .u64 c] w (IsVN (opV orL V (oneV r c)) w)
  cnt : ∀ (V : List (Int × Int × List Iv)) (v : Value) (w : World), VecS w v V → GoodV V → smallV 1000 1000 V → Calls Try.prog 17 #[v] w (IsCt (cntV V) w)
def VCanonC : Prop := ∀ (V : List (Int × Int × List Iv)) (v : Value) (w : World), VecS w v V → GoodV V → Calls Try.prog 18 #[v] w (IsVN (canonV V) w)
/-- The reference's operations. -/
def RefDo10 : Prop := ∀ (o : Int) (f : List Iv → List Iv → List Iv), (∀ (a b : List Iv) (s t : Value) (w : World), OpAt w s a → OpAt w t b → Calls Try.prog 27 #[s, t, .int .i64 o] w (IsOwnR (f a b) w)) →
  (∀ K L, GoodL K → GoodL L → GoodL (f K L) ∧ (f K L).length ≤ K.length + L.length) → ∀ (A B : List (Int × Int × List Iv)) (a b : Value) (w : World), VecI w a A → VecI w b B → GoodV A → GoodV B → smallV 1000 1000 A → smallV 1000 1000 B →
  Calls Try.prog 11 #[a, b, .int .i64 o] w (IsVI (opV f A B) w)
end Go.Proofs.Ytefiobfljhmkkaa

/- The example of chapter 10, in every state. Conditions: the contracts of package lattice. -/
namespace Go.Proofs.Ytefiobfljhmkkaa
open Go.RowKit
theorem known_nil {m : Int} (h0 : 0 ≤ m) (h1 : m ≤ 18446744073709551615) : knownL m [] = [(0, m)] := by
  have g : GoodE m [] := ⟨good_nil, h0, h1, fun y hy => by cases hy⟩
  refine good_ext (known_good g) (good_one h0 (Int.le_refl _) h1) fun c hc => ?_
  rw [known_has g hc, one_has hc]
  unfold hasE
  simp [hasL]
def aV10 : List (Int × Int × List Iv) := [(1, 4, [])]
def bV10 : List (Int × Int × List Iv) := [(2, 3, [])]
def uV10 : List (Int × Int × List Iv) := [(1, 4, []), (2, 3, [])]
theorem ent10 {m : Int} (h0 : 0 ≤ m) (h1 : m ≤ 18446744073709551615) : GoodE m [] := ⟨good_nil, h0, h1, fun y hy => by cases hy⟩
theorem aG10 : GoodV aV10 := ⟨fun x hx => by rw [List.mem_singleton.1 hx]; exact ent10 (by decide) (by decide), List.pairwise_singleton _ _⟩
theorem bG10 : GoodV bV10 := ⟨fun x hx => by rw [List.mem_singleton.1 hx]; exact ent10 (by decide) (by decide), List.pairwise_singleton _ _⟩
theorem uG10 : GoodV uV10 := ⟨fun x hx => by
  simp [uV10] at hx
  rcases hx with rfl | rfl
  · exact ent10 (by decide) (by decide)
  · exact ent10 (by decide) (by decide), by
  unfold uV10
  exact List.pairwise_cons.2 ⟨fun y hy => by rw [List.mem_singleton.1 hy]; decide, List.pairwise_singleton _ _⟩⟩
theorem bC10 : ∀ y ∈ bV10, canonB y.2.1 y.2.2 = true := fun y hy => by rw [List.mem_singleton.1 hy]; rfl
theorem uC10 : ∀ y ∈ uV10, canonB y.2.1 y.2.2 = true := fun y hy => by
  simp [uV10] at hy
  rcases hy with rfl | rfl <;> rfl
theorem aK10 (r : Int) : knV aV10 r = if r = 1 then [(0, 4)] else [] := by
  by_cases h : r = 1
  · subst h
    rw [if_pos rfl, ← known_nil (m := 4) (by decide) (by decide)]
    exact knV_mem aG10.asc (x := (1, 4, [])) (by simp [aV10])
  · rw [if_neg h]
    exact knV_none fun x hx e => by rw [List.mem_singleton.1 hx] at e; exact h e.symm
theorem bK10 (r : Int) : knV bV10 r = if r = 2 then [(0, 3)] else [] := by
  by_cases h : r = 2
  · subst h
    rw [if_pos rfl, ← known_nil (m := 3) (by decide) (by decide)]
    exact knV_mem bG10.asc (x := (2, 3, [])) (by simp [bV10])
  · rw [if_neg h]
    exact knV_none fun x hx e => by rw [List.mem_singleton.1 hx] at e; exact h e.symm
theorem uK10 (r : Int) : knV uV10 r = if r = 1 then [(0, 4)] else if r = 2 then [(0, 3)] else [] := by
  by_cases h : r = 1
  · subst h
    rw [if_pos rfl, ← known_nil (m := 4) (by decide) (by decide)]
    exact knV_mem uG10.asc (x := (1, 4, [])) (by simp [uV10])
  · rw [if_neg h]
    by_cases h2 : r = 2
    · subst h2
      rw [if_pos rfl, ← known_nil (m := 3) (by decide) (by decide)]
      exact knV_mem uG10.asc (x := (2, 3, [])) (by simp [uV10])
    · rw [if_neg h2]
      exact knV_none fun x hx e => by
        simp [uV10] at hx
        rcases hx with rfl | rfl
        · exact h e.symm
        · exact h2 e.symm
theorem g04 : GoodL [((0 : Int), (4 : Int))] := good_one (by decide) (by decide) (by decide)
theorem g03 : GoodL [((0 : Int), (3 : Int))] := good_one (by decide) (by decide) (by decide)
theorem and_nil10 {K : List Iv} (hK : GoodL K) : andL K [] = [] := good_eq (andL_good hK good_nil) good_nil fun x => by rw [and_has hK good_nil]; simp [hasL]
theorem nil_and10 {K : List Iv} (hK : GoodL K) : andL [] K = [] := good_eq (andL_good good_nil hK) good_nil fun x => by rw [and_has good_nil hK]; simp [hasL]
theorem sub_nil10 {K : List Iv} (hK : GoodL K) : subL K [] = K := good_eq (subL_good hK good_nil) hK fun x => by rw [sub_has hK good_nil]; simp [hasL]
theorem ex10_or : opV orL aV10 bV10 = uV10 := op_is (fun _ _ h h' => orL_good h h') rfl aG10 bG10 uG10 uC10 fun r => by
  rw [aK10, bK10, uK10]
  by_cases h : r = 1
  · subst h; rw [if_pos rfl, if_neg (by decide), if_pos rfl, or_nil8' g04]
  · rw [if_neg h, if_neg h]
    by_cases h2 : r = 2
    · rw [if_pos h2, or_nil8 g03]
    · rw [if_neg h2]; rfl
theorem ex10_and : opV andL aV10 bV10 = [] := (opV_nil (fun _ _ h h' => andL_good h h') rfl aG10 bG10).2 fun r => by
  rw [aK10, bK10]
  by_cases h : r = 1
  · subst h; rw [if_pos rfl, if_neg (by decide), and_nil10 g04]
  · rw [if_neg h]
    by_cases h2 : r = 2
    · rw [if_pos h2, nil_and10 g03]
    · rw [if_neg h2]; rfl
theorem ex10_sub : opV subL uV10 aV10 = bV10 := op_is (fun _ _ h h' => subL_good h h') rfl uG10 aG10 bG10 bC10 fun r => by
  rw [aK10, bK10, uK10]
  by_cases h : r = 1
  · subst h; rw [if_pos rfl, if_pos rfl, if_neg (by decide), sub_self' g04]
  · rw [if_neg h, if_neg h]
    by_cases h2 : r = 2
    · rw [if_pos h2, sub_nil10 g03]
    · rw [if_neg h2]; rfl
theorem ex10_in : decide (opV subL aV10 uV10 = []) = true := by
  rw [← ex10_or, sub_or10 aG10 bG10]; rfl
theorem ex10_out : decide (opV subL uV10 aV10 = []) = false := by rw [ex10_sub]; rfl
theorem ex10_cnt : cntV uV10 = 9 := by
  unfold cntV uV10
  simp only [List.map_cons, List.map_nil]
  rw [known_nil (m := 4) (by decide) (by decide), known_nil (m := 3) (by decide) (by decide)]
  rfl
theorem nilG10 : GoodV [] := ⟨(fun x hx => by cases hx), List.Pairwise.nil⟩
theorem oneH10 : holesL [((0 : Int), (0 : Int))] = [] := by
  unfold holesL
  rw [if_neg (by simp)]
  exact sub_self' (single_good (by decide) (by decide))
theorem ex10_add : opV orL [] (oneV 3 0) = [(3, 0, [])] := by
  have g1 := oneV_good (r := 3) (c := 0) (by decide) (by decide)
  have e : oneV 3 0 = [(3, 0, [])] := by unfold oneV; rw [oneH10]; rfl
  have c : ∀ y ∈ oneV 3 0, canonB y.2.1 y.2.2 = true := fun y hy => by rw [e] at hy; rw [List.mem_singleton.1 hy]; rfl
  rw [op_is (fun _ _ h h' => orL_good h h') rfl nilG10 g1 g1 c fun r => by rw [show knV [] r = [] from rfl, or_nil8 (knV_good g1 r)], e]
theorem small10 {V : List (Int × Int × List Iv)} (h : V.length ≤ 2) (h' : ∀ x ∈ V, x.2.2 = []) : smallV 1000 1000 V := ⟨by omega, fun x hx => by rw [h' x hx]; simp⟩
theorem aS10 : smallV 1000 1000 aV10 := small10 (by decide) fun x hx => by rw [List.mem_singleton.1 hx]
theorem bS10 : smallV 1000 1000 bV10 := small10 (by decide) fun x hx => by rw [List.mem_singleton.1 hx]
theorem uS10 : smallV 1000 1000 uV10 := small10 (by decide) fun x hx => by
  simp [uV10] at hx
  rcases hx with rfl | rfl <;> rfl
theorem any10 (w : World) (m : Int) (h0 : 0 ≤ m) (h1 : m ≤ 18446744073709551615) : AnyAt w (.slice none 0 0) m [] := ⟨ivs_nil _, (fun x hx => by cases hx), sane_nil, h0, h1, by simp⟩
set_option maxRecDepth 100000 in
set_option maxHeartbeats 4000000 in
theorem alive10_any (C : LatC) (w : World) : Calls Try.prog 8 #[] w (IsEnd true w) := by
  have K1 := Lib.hid (fun a b W ha hb => (by have k := C.uni aV10 bV10 a b W ha hb aG10 bG10 aS10 bS10; rw [ex10_or] at k; exact k : Calls Try.prog 10 #[a, b] W (IsVN uV10 W)))
  have K2 := Lib.hid (fun a b W ha hb => (by have k := C.meet aV10 bV10 a b W ha hb aG10 bG10 aS10 bS10; rw [ex10_and] at k; exact k : Calls Try.prog 12 #[a, b] W (IsVN [] W)))
  have K3 := Lib.hid (fun a b W ha hb => (by have k := C.minus uV10 aV10 a b W ha hb uG10 aG10 uS10 aS10; rw [ex10_sub] at k; exact k : Calls Try.prog 13 #[a, b] W (IsVN bV10 W)))
  have K4 := Lib.hid (fun a b W ha hb => (by have k := C.sub aV10 uV10 a b W ha hb aG10 uG10 aS10 uS10; rw [ex10_in] at k; exact k : Calls Try.prog 14 #[a, b] W (IsEnd true W)))
  have K5 := Lib.hid (fun a b W ha hb => (by have k := C.sub uV10 aV10 a b W ha hb uG10 aG10 uS10 aS10; rw [ex10_out] at k; exact k : Calls Try.prog 14 #[a, b] W (IsEnd false W)))
  have K6 := Lib.hid (fun a W ha => (by have k := C.cnt uV10 a W ha uG10 uS10; rw [ex10_cnt] at k; exact k : Calls Try.prog 17 #[a] W (fun e w' => e = .returned (.agg #[.int .u64 0, .int .u64 9]) ∧ Below W.heap.size W w')))
  have K7 := Lib.hid (fun W => (by have k := C.add [] (.slice none 0 0) 3 0 W (vec_nil9 W) nilG10 (small10 (by decide) fun x hx => by cases hx) (by decide) (by decide) (by decide) (by decide); rw [ex10_add] at k; exact k : Calls Try.prog 21 #[.slice none 0 0, .int .u64 3, .int .u64 0] W (IsVN [(3, 0, [])] W)))
  have KS := Lib.hid (fun V v v' W h h2 => same9_self V v v' W h h2)
  clear C
  obtain ⟨w1, hw1⟩ : ∃ w', w.alloc (.cells #[.int .u64 1, .int .u64 4, .slice none 0 0] 43) = w' := ⟨_, rfl⟩
  have h : Below w.heap.size w w1 := hw1 ▸ below_new w _
  have HB_1 := Lib.hid h
  clear h
  have hA : VecS w1 (.slice (some ⟨w.heap.size, 0, none⟩) 1 1) aV10 := vec_one9 (by rw [← hw1]; simp) (by rw [← hw1]; simp) (by rw [← hw1]; simp) (any10 _ 4 (by decide) (by decide)) (by decide)
  have HVA_1 := Lib.hid (hA)
  clear hA
  obtain ⟨w2, hw2⟩ : ∃ w', w1.alloc (.cells #[.int .u64 2, .int .u64 3, .slice none 0 0] 43) = w' := ⟨_, rfl⟩
  have h : Below w1.heap.size w1 w2 := hw2 ▸ below_new w1 _
  have HVA_2 := Lib.hid (HVA_1.out.call h)
  clear HVA_1
  have HB_2 := Lib.hid (below_call HB_1.out h)
  clear h
  have hB : VecS w2 (.slice (some ⟨w1.heap.size, 0, none⟩) 1 1) bV10 := vec_one9 (by rw [← hw2]; simp) (by rw [← hw2]; simp) (by rw [← hw2]; simp) (any10 _ 3 (by decide) (by decide)) (by decide)
  have HVB_2 := Lib.hid (hB)
  clear hB
  go_enter Try.func8, Try.ntmps8
  go_wp2_with fail
  clear hw1 hw2
  refine (K1.out _ _ _ HVA_2.out HVB_2.out).mono ?_
  rintro e w3 ⟨u, rfl, hu, _, h⟩
  obtain ⟨pu, cu, eu⟩ := hu.m.shape
  subst eu
  have HVA_3 := Lib.hid (HVA_2.out.call h)
  clear HVA_2
  have HVB_3 := Lib.hid (HVB_2.out.call h)
  clear HVB_2
  have HB_3 := Lib.hid (below_call HB_2.out h)
  clear h
  have HU_3 := Lib.hid (hu)
  clear hu
  obtain ⟨w4, hw4⟩ : ∃ w', w3.alloc (.cells #[.int .u64 1, .int .u64 4, .slice none 0 0, .int .u64 2, .int .u64 3, .slice none 0 0] 43) = w' := ⟨_, rfl⟩
  have h : Below w3.heap.size w3 w4 := hw4 ▸ below_new w3 _
  have HVA_4 := Lib.hid (HVA_3.out.call h)
  clear HVA_3
  have HVB_4 := Lib.hid (HVB_3.out.call h)
  clear HVB_3
  have HU_4 := Lib.hid (HU_3.out.call h)
  clear HU_3
  have HB_4 := Lib.hid (below_call HB_3.out h)
  clear h
  have hT : VecS w4 (.slice (some ⟨w3.heap.size, 0, none⟩) 2 2) uV10 := vec_two9 (by rw [← hw4]; simp) (by rw [← hw4]; simp) (by rw [← hw4]; simp) (by rw [← hw4]; simp) (by rw [← hw4]; simp) (by rw [← hw4]; simp) (any10 _ 4 (by decide) (by decide)) (any10 _ 3 (by decide) (by decide)) (by decide) (by decide)
  have HT_4 := Lib.hid (hT)
  clear hT
  go_wp2_with fail
  clear hw4
  refine (KS.out uV10 _ _ _ HU_4.out.m.i HT_4.out.m.i).mono ?_
  rintro e w5 ⟨rfl, h⟩
  have HVA_5 := Lib.hid (HVA_4.out.call h)
  clear HVA_4
  have HVB_5 := Lib.hid (HVB_4.out.call h)
  clear HVB_4
  have HU_5 := Lib.hid (HU_4.out.call h)
  clear HU_4
  have HT_5 := Lib.hid (HT_4.out.call h)
  clear HT_4
  have HB_5 := Lib.hid (below_call HB_4.out h)
  clear h
  go_wp2_with fail
  refine (K2.out _ _ _ HVA_5.out HVB_5.out).mono ?_
  rintro e w6 ⟨u2, rfl, hu2, _, h⟩
  obtain ⟨p2, c2, eu⟩ := hu2.m.shape
  subst eu
  clear hu2
  have HVA_6 := Lib.hid (HVA_5.out.call h)
  clear HVA_5
  have HVB_6 := Lib.hid (HVB_5.out.call h)
  clear HVB_5
  have HU_6 := Lib.hid (HU_5.out.call h)
  clear HU_5
  have HB_6 := Lib.hid (below_call HB_5.out h)
  clear h
  go_wp2_with fail
  refine (K3.out _ _ _ HU_6.out HVA_6.out).mono ?_
  rintro e w7 ⟨u3, rfl, hu3, _, h⟩
  obtain ⟨p3, c3, eu⟩ := hu3.m.shape
  subst eu
  have HVA_7 := Lib.hid (HVA_6.out.call h)
  clear HVA_6
  have HVB_7 := Lib.hid (HVB_6.out.call h)
  clear HVB_6
  have HU_7 := Lib.hid (HU_6.out.call h)
  clear HU_6
  have HB_7 := Lib.hid (below_call HB_6.out h)
  clear h
  have HT_7 := Lib.hid (hu3)
  clear hu3
  go_wp2_with fail
  refine (KS.out bV10 _ _ _ HT_7.out.m.i HVB_7.out.m.i).mono ?_
  rintro e w8 ⟨rfl, h⟩
  have HVA_8 := Lib.hid (HVA_7.out.call h)
  clear HVA_7
  have HVB_8 := Lib.hid (HVB_7.out.call h)
  clear HVB_7
  have HU_8 := Lib.hid (HU_7.out.call h)
  clear HU_7
  have HT_8 := Lib.hid (HT_7.out.call h)
  clear HT_7
  have HB_8 := Lib.hid (below_call HB_7.out h)
  clear h
  go_wp2_with fail
  refine (K4.out _ _ _ HVA_8.out HU_8.out).mono ?_
  rintro e w9 ⟨rfl, h⟩
  have HVA_9 := Lib.hid (HVA_8.out.call h)
  clear HVA_8
  have HVB_9 := Lib.hid (HVB_8.out.call h)
  clear HVB_8
  have HU_9 := Lib.hid (HU_8.out.call h)
  clear HU_8
  have HB_9 := Lib.hid (below_call HB_8.out h)
  clear h
  go_wp2_with fail
  refine (K5.out _ _ _ HU_9.out HVA_9.out).mono ?_
  rintro e w10 ⟨rfl, h⟩
  have HVA_10 := Lib.hid (HVA_9.out.call h)
  clear HVA_9
  have HVB_10 := Lib.hid (HVB_9.out.call h)
  clear HVB_9
  have HU_10 := Lib.hid (HU_9.out.call h)
  clear HU_9
  have HB_10 := Lib.hid (below_call HB_9.out h)
  clear h
  go_wp2_with fail
  refine (K6.out _ _ HU_10.out).mono ?_
  rintro e w11 ⟨rfl, h⟩
  have HVA_11 := Lib.hid (HVA_10.out.call h)
  clear HVA_10
  have HVB_11 := Lib.hid (HVB_10.out.call h)
  clear HVB_10
  have HU_11 := Lib.hid (HU_10.out.call h)
  clear HU_10
  have HB_11 := Lib.hid (below_call HB_10.out h)
  clear h
  go_wp2_with fail
  refine (K7.out _).mono ?_
  rintro e w12 ⟨u4, rfl, hu4, _, h⟩
  obtain ⟨p4, c4, eu⟩ := hu4.m.shape
  subst eu
  have HVA_12 := Lib.hid (HVA_11.out.call h)
  clear HVA_11
  have HVB_12 := Lib.hid (HVB_11.out.call h)
  clear HVB_11
  have HU_12 := Lib.hid (HU_11.out.call h)
  clear HU_11
  have HB_12 := Lib.hid (below_call HB_11.out h)
  clear h
  have HT_12 := Lib.hid (hu4)
  clear hu4
  obtain ⟨w13, hw13⟩ : ∃ w', w12.alloc (.cells #[.int .u64 3, .int .u64 0, .slice none 0 0] 43) = w' := ⟨_, rfl⟩
  have h : Below w12.heap.size w12 w13 := hw13 ▸ below_new w12 _
  have HVA_13 := Lib.hid (HVA_12.out.call h)
  clear HVA_12
  have HVB_13 := Lib.hid (HVB_12.out.call h)
  clear HVB_12
  have HU_13 := Lib.hid (HU_12.out.call h)
  clear HU_12
  have HT_13 := Lib.hid (HT_12.out.call h)
  clear HT_12
  have HB_13 := Lib.hid (below_call HB_12.out h)
  clear h
  have hZ : VecS w13 (.slice (some ⟨w12.heap.size, 0, none⟩) 1 1) [(3, 0, [])] := vec_one9 (by rw [← hw13]; simp) (by rw [← hw13]; simp) (by rw [← hw13]; simp) (any10 _ 0 (by decide) (by decide)) (by decide)
  have HZ_13 := Lib.hid (hZ)
  clear hZ
  go_wp2_with fail
  clear hw13
  refine (KS.out [(3, 0, [])] _ _ _ HT_13.out.m.i HZ_13.out.m.i).mono ?_
  rintro e w14 ⟨rfl, h⟩
  have HVA_14 := Lib.hid (HVA_13.out.call h)
  clear HVA_13
  have HVB_14 := Lib.hid (HVB_13.out.call h)
  clear HVB_13
  have HU_14 := Lib.hid (HU_13.out.call h)
  clear HU_13
  have HT_14 := Lib.hid (HT_13.out.call h)
  clear HT_13
  have HZ_14 := Lib.hid (HZ_13.out.call h)
  clear HZ_13
  have HB_14 := Lib.hid (below_call HB_13.out h)
  clear h
  go_wp2_with fail
  go_ret
  exact ⟨rfl, HB_14.out⟩
end Go.Proofs.Ytefiobfljhmkkaa
