/- Find and Has of package ranges, for correct lists. Conditions: the ends are numbers of 64 bits, at most 1048576 intervals. -/
import Derived.Test.YtefiobfljhmkkaaGreatRIv
import Derived.Test.YtefiobfljhmkkaaGreatRSearch
import Derived.Deep.DrawnRows
import Derived.Test.YtefiobfljhmkkaaGreatROwn
import Derived.StillTailTactics
import Derived.RegionTactic
import Derived.Deep.RegionWith
namespace Go.Proofs.YtefiobfljhmkkaaGreat
open Go.RowKit Go.Shelf Go.Lib
open Go.Sort hiding Below
attribute [local go_sem ↓] Go.wp_at_zero Go.wp_at_succ
/-- Whether the interval at an index does not end in front of a number. -/
def upB (l : List Iv) (x : Int) (i : Nat) : Bool := match l[i]? with | some y => decide (x ≤ y.2) | none => true
theorem upB_at {l : List Iv} {i : Nat} {y : Iv} (x : Int) (h : l[i]? = some y) : upB l x i = decide (x ≤ y.2) := by unfold upB; rw [h]
theorem up_mono {l : List Iv} (h : canon l) (x : Int) : ∀ a b, a ≤ b → b < l.length → upB l x a = true → upB l x b = true := by
  intro a b hab hb ha
  have hya : l[a]? = some l[a] := by simp [show a < l.length by omega]
  have hyb : l[b]? = some l[b] := by simp [hb]
  rw [upB_at x hya] at ha
  rw [upB_at x hyb]
  rcases Nat.lt_or_eq_of_le hab with hlt | heq
  · have h1 := canon_up l h a b _ _ hlt hya hyb
    have h2 := canon_ok l h _ (List.getElem_mem hb)
    simp at ha ⊢; omega
  · subst heq; exact ha
theorem count_first {l : List Iv} (h : canon l) (x : Int) : (List.range l.length).countP (fun i => !upB l x i) = firstL l x := by
  have hle : firstL l x ≤ l.length := List.findIdx_le_length
  have h1 : ∀ i, i < firstL l x → upB l x i = false := by
    intro i hi
    have hy : l[i]? = some l[i] := by simp [show i < l.length by omega]
    rw [upB_at x hy]
    have := List.not_of_lt_findIdx (p := fun y : Iv => decide (x ≤ y.2)) (xs := l) (i := i) hi
    simpa using this
  have h2 : ∀ i, firstL l x ≤ i → i < l.length → upB l x i = true := by
    intro i hi hlt
    have hk : firstL l x < l.length := by omega
    refine up_mono h x (firstL l x) i hi hlt ?_
    have hy : l[firstL l x]? = some l[firstL l x] := by simp [hk]
    rw [upB_at x hy]
    exact List.findIdx_getElem (p := fun y : Iv => decide (x ≤ y.2)) (xs := l) (w := hk)
  obtain ⟨m, hm⟩ : ∃ m, l.length = firstL l x + m := ⟨l.length - firstL l x, by omega⟩
  rw [hm, List.range_add, List.countP_append]
  have e1 : (List.range (firstL l x)).countP (fun i => !upB l x i) = firstL l x := by
    have : (List.range (firstL l x)).countP (fun i => !upB l x i) = (List.range (firstL l x)).length := by
      rw [List.countP_eq_length]
      intro i hi
      rw [h1 i (by simpa using hi)]; rfl
    simpa using this
  have e2 : ((List.range m).map (firstL l x + ·)).countP (fun i => !upB l x i) = 0 := by
    rw [List.countP_eq_zero]
    intro i hi
    obtain ⟨j, hj, rfl⟩ := List.mem_map.1 hi
    rw [h2 (firstL l x + j) (by omega) (by have : j < m := by simpa using hj
                                           omega)]
    simp
  rw [e1, e2]; rfl
set_option maxRecDepth 100000 in
theorem up_any (l : List Iv) (s : Value) (x : Int) (i kl kx : Nat) (w : World) (hl : IvsAt w s l) (hi : i < l.length) (hcl : w.cell? ⟨kl, 0, none⟩ = some s) (hcx : w.cell? ⟨kx, 0, none⟩ = some (.int .u64 x)) :
    Calls Tryz.prog 75 #[.int .i64 i, .pointer (some ⟨kx, 0, none⟩), .pointer (some ⟨kl, 0, none⟩)] w fun e w' => e = .returned (.bool (upB l x i)) ∧ ∃ q, w' = w.drewN q := by
  have hy : l[i]? = some l[i] := by simp [hi]
  have hlen := hl.shape.choose_spec.choose_spec.2
  rw [upB_at x hy]
  obtain ⟨b, o, cap, rfl, c0, c1⟩ := hl.elem hy
  generalize l[i] = y at *
  obtain ⟨y1, y2⟩ := y
  dsimp only at c0 c1 ⊢
  have hj0 : (0 : Int) ≤ (i : Int) := by omega
  have hj1 : (i : Int) < (l.length : Int) := by omega
  clear hl hy
  go_enter Tryz.func75, Tryz.ntmps75
  go_wp2_with fail
  go_quiet (fail)
  go_wp2_with fail
  go_ret
  exact ⟨rfl, _, rfl⟩
theorem hasR (a b x : Int) (r : Bool) (w : World) (h : hasB a b x = r) :
    Calls Tryz.prog 76 #[.agg #[.int .u64 a, .int .u64 b], .int .u64 x] w (IsEnd r w) := by
  subst h; exact has_any a b x w
set_option maxRecDepth 100000 in
set_option maxHeartbeats 4000000 in
theorem find_any (l : List Iv) (s : Value) (x : Int) (w : World) (hl : IvsAt w s l) (hc : canon l) :
    Calls Tryz.prog 64 #[s, .int .u64 x] w (IsInt (findL l x) w) := by
  obtain ⟨p, cap, rfl, hlen⟩ := hl.shape
  have eg : ∀ args w, (callFunc 75 args).run Tryz.prog w = .ok (.enter 75 args) w := enters_of Tryz.func75 (by kernel_rfl) rfl
  have hA := (Kp.start w).new1 (.slice p l.length cap) 35 w.heap.size rfl
  have hB := hA.new1 (.int .u64 x) 24 (w.heap.size + 1) (by simp)
  obtain ⟨W0, hW0⟩ : ∃ W0, (w.alloc (.cells #[.slice p l.length cap] 35)).alloc (.cells #[.int .u64 x] 24) = W0 := ⟨_, rfl⟩
  rw [hW0] at hB
  have hsz0 : w.heap.size + 2 = W0.heap.size := by rw [← hW0]; simp
  have hcon := Any.sort_Search Tryz.search 75 #[.pointer (some ⟨w.heap.size + 1, 0, none⟩), .pointer (some ⟨w.heap.size, 0, none⟩)] l.length (upB l x) W0 eg (by omega)
    (fun m os i hi => by
      have hb : Below W0.heap.size W0 (grow (W0.drewN m) os) := below_grown_sl _ _ _ _ (Nat.le_refl _)
      refine (up_any l _ x i w.heap.size (w.heap.size + 1) _ (hl.call (below_call hB.1 hb)) hi (keep_cell hB.2.2.1 hb) (keep_cell hB.2.1 hb)).mono ?_
      rintro e w' ⟨rfl, q, rfl⟩
      exact ⟨rfl, q, #[], by simp⟩)
    (up_mono hc x)
  change Calls Tryz.prog 62 _ _ _ at hcon
  rw [count_first hc x] at hcon
  have hFL : firstL l x ≤ l.length := List.findIdx_le_length
  obtain ⟨k, hk⟩ : ∃ k, firstL l x = k := ⟨_, rfl⟩
  rw [hk] at hcon hFL
  have I := Lib.hid hl; clear hl
  have HC := Lib.hid hcon; clear hcon
  have HK := Lib.hid hk; clear hk
  have HBx := Lib.hid hB; clear hB hA
  have KH := Lib.hid hasR
  have HW0 := Lib.hid hW0; clear hW0
  clear eg hc
  go_enter Tryz.func64, Tryz.ntmps64
  go_wp2_with fail
  rw [HW0.out]
  refine HC.out.mono ?_
  rintro e w1 ⟨rfl, q, os, rfl⟩
  have hb1 : Below W0.heap.size W0 (grow (W0.drewN q) os) := below_grown_sl _ _ _ _ (Nat.le_refl _)
  generalize grow (W0.drewN q) os = w1 at *
  have S1 := Lib.hid (HBx.out.call hb1); clear hb1
  have hcx := S1.out.2.1
  have hcl := S1.out.2.2.1
  by_cases hlt : k < l.length
  · obtain ⟨y, hy⟩ : ∃ y, l[k]? = some y := ⟨l[k], by simp [hlt]⟩
    obtain ⟨b0, o0, cap0, e0, z0, z1⟩ := (I.out.call S1.out.1).elem hy
    cases e0
    have HF := Lib.hid (show findL l x = if inI y x then (k : Int) else -1 by unfold findL; rw [HK.out, hy])
    obtain ⟨r, hr⟩ : ∃ r, hasB y.1 y.2 x = r := ⟨_, rfl⟩
    have KX := Lib.hid (fun w => KH.out y.1 y.2 x r w hr)
    have HR := Lib.hid hr
    clear hr hy
    obtain ⟨y1, y2⟩ := y
    dsimp only at z0 z1
    have hj0 : (0 : Int) ≤ (k : Int) := by omega
    have hj1 : (k : Int) < (l.length : Int) := by omega
    have hs : Below w.heap.size w w1 ∧ w1.cell? ⟨w.heap.size, 0, none⟩ = some (.slice (some ⟨b0, o0, none⟩) l.length cap) ∧ w1.cell? ⟨w.heap.size + 1, 0, none⟩ = some (.int .u64 x) ∧ w1.cell? ⟨b0, o0 + k * 2, none⟩ = some (.int .u64 y1) ∧ w1.cell? ⟨b0, o0 + k * 2 + 1, none⟩ = some (.int .u64 y2) := ⟨S1.out.1, hcl, hcx, z0, z1⟩
    clear hcl hcx z0 z1
    go_wp2_with fail
    go_region_held3 (fun w' => Below w.heap.size w w' ∧ w'.cell? ⟨w.heap.size, 0, none⟩ = some (.slice (some ⟨b0, o0, none⟩) l.length cap) ∧ w'.cell? ⟨w.heap.size + 1, 0, none⟩ = some (.int .u64 x) ∧ w'.cell? ⟨b0, o0 + k * 2, none⟩ = some (.int .u64 y1) ∧ w'.cell? ⟨b0, o0 + k * 2 + 1, none⟩ = some (.int .u64 y2))
      (first
        | exact keep_four (by assumption) (by assumption)
        | exact keep_four_drew (by assumption)
        | exact hs
        | assumption)
      (first
        | (go_at_call 76; refine (KX.out _).mono ?_; rintro en w' ⟨rfl, hb4'⟩; have hb4 := Lib.hid hb4'; clear hb4'))
    all_goals
      rename_i hE
      have HE := Lib.hid hE.1
      clear hs hE
      cases r with
      | true =>
        go_wp2_with fail
        go_ret
        exact ⟨ret_num (by rw [HF.out]; exact (if_pos HR.out).symm), HE.out⟩
      | false =>
        go_wp2_with fail
        go_ret
        exact ⟨ret_num (by rw [HF.out]; exact (if_neg (by show ¬ hasB y1 y2 x = true; rw [HR.out]; simp)).symm), HE.out⟩
  · have HF := Lib.hid (show findL l x = -1 by unfold findL; rw [HK.out, List.getElem?_eq_none_iff.2 (by omega)])
    have hj1 : ¬ (k : Int) < (l.length : Int) := by omega
    have hd : decide ((k : Int) < (l.length : Int)) = false := by simpa using hj1
    go_wp2_with fail
    go_quiet (fail)
    go_wp2_with fail
    go_ret
    exact ⟨ret_num HF.out.symm, below_drewN S1.out.1 _⟩
theorem rhas_any (l : List Iv) (s : Value) (x : Int) (w : World) (hl : IvsAt w s l) (hc : canon l) :
    Calls Tryz.prog 49 #[s, .int .u64 x] w (IsEnd (hasL l x) w) := by
  have K := Lib.hid (find_any l s x w hl hc)
  have e := findL_has hc x
  have hlow := findL_low l x
  have HX := Lib.hid (show (findL l x != -1) = hasL l x by rw [← e, Bool.eq_iff_iff]; simp; omega)
  generalize findL l x = f at *
  clear hl hc e hlow
  go_enter Tryz.func49, Tryz.ntmps49
  go_wp2_with fail
  refine K.out.mono ?_
  rintro e w1 ⟨rfl, h1⟩
  have H1 := Lib.hid h1; clear h1
  go_wp2_with fail
  go_ret
  exact ⟨ret_bool HX.out, H1.out⟩
end Go.Proofs.YtefiobfljhmkkaaGreat

/- Piece and Max of the references; slices of numbers in memory. Conditions: none but the index in its range. -/
namespace Go.Proofs.YtefiobfljhmkkaaGreat
open Go.RowKit
attribute [local go_sem ↓] Go.wp_at_zero Go.wp_at_succ
/-- A slice of numbers in memory. -/
def NumsAt (w : World) (s : Value) (l : List Int) : Prop :=
  ∃ p cap, s = .slice p l.length cap ∧ l.length ≤ 4194304 ∧ (l ≠ [] → ∃ b o, p = some ⟨b, o, none⟩ ∧ ∀ i x, l[i]? = some x → w.cell? ⟨b, o + i, none⟩ = some (.int .u64 x))
theorem NumsAt.call {w w' : World} {s : Value} {l : List Int} (h : NumsAt w s l) (hb : Below w.heap.size w w') : NumsAt w' s l := by
  obtain ⟨p, cap, h1, h2, h3⟩ := h
  refine ⟨p, cap, h1, h2, fun hne => ?_⟩
  obtain ⟨b, o, h5, h6⟩ := h3 hne
  exact ⟨b, o, h5, fun i x hi => keep_cell (h6 i x hi) hb⟩
theorem NumsAt.elem {w : World} {s : Value} {l : List Int} (h : NumsAt w s l) {i : Nat} {x : Int} (hi : l[i]? = some x) :
    ∃ b o cap, s = .slice (some ⟨b, o, none⟩) l.length cap ∧ w.cell? ⟨b, o + i, none⟩ = some (.int .u64 x) := by
  obtain ⟨p, cap, rfl, _, h3⟩ := h
  obtain ⟨b, o, rfl, h6⟩ := h3 (by intro e; subst e; simp at hi)
  exact ⟨b, o, cap, rfl, h6 i x hi⟩
theorem NumsAt.cells {w : World} {b o n cap : Nat} {l : List Int} (h : NumsAt w (.slice (some ⟨b, o, none⟩) n cap) l) {i : Nat} {x : Int} (hi : l[i]? = some x) : w.cell? ⟨b, o + i, none⟩ = some (.int .u64 x) := by
  obtain ⟨b', o', cap', e, h1⟩ := h.elem hi
  cases e
  exact h1
theorem NumsAt.shape {w : World} {s : Value} {l : List Int} (h : NumsAt w s l) : ∃ p cap, s = .slice p l.length cap ∧ l.length ≤ 4194304 := by
  obtain ⟨p, cap, h1, h2, _⟩ := h; exact ⟨p, cap, h1, h2⟩
theorem max_any (w : World) : Calls Tryz.prog 59 #[] w fun e w' => e = .returned (.int .u64 18446744073709551615) ∧ w = w' := by
  go_enter Tryz.func59, Tryz.ntmps59
  go_wp2_with fail
  go_ret
  exact ⟨rfl, rfl⟩
def IsIvl (x : Iv) (w : World) (e : Ending) (w' : World) : Prop := e = .returned (.agg #[.int .u64 x.1, .int .u64 x.2]) ∧ Below w.heap.size w w'
set_option maxRecDepth 100000 in
set_option maxHeartbeats 2000000 in
theorem piece_any (S : List Int) (s : Value) (k : Nat) (w : World) (hS : NumsAt w s S) (hk : k < S.length) (ha : ∀ (i : Nat) (x : Int), S[i]? = some x → 0 ≤ x ∧ x ≤ 18446744073709551615) (hlo : ∀ x : Int, S[k + 1]? = some x → 1 ≤ x) :
    Calls Tryz.prog 44 #[s, .int .i64 k] w (IsIvl (pieceS 18446744073709551615 S k) w) := by
  have hx : S[k]? = some S[k] := by simp [hk]
  have hlen := hS.shape.choose_spec.choose_spec.2
  obtain ⟨b, o, cap, rfl, c0⟩ := hS.elem hx
  have hp1 : S.getD k 0 = S[k] := by simp [hk]
  have hj0 : (0 : Int) ≤ (k : Int) := by omega
  have hj1 : (k : Int) < (S.length : Int) := by omega
  have hw1 : IntKind.i64.wrap ((k : Int) + 1) = (k : Int) + 1 := IntWalk.i64_in _ (by omega)
  by_cases h2 : k + 1 < S.length
  · have hy : S[k + 1]? = some S[k + 1] := by simp [h2]
    have c1 := hS.cells hy
    have hb := ha _ _ hy
    have hlo := hlo _ hy
    have HP := Lib.hid (show pieceS 18446744073709551615 S k = (S[k], S[k + 1] - 1) by unfold pieceS boundS; rw [hp1, hy])
    clear hp1 hx hy
    generalize S[k] = x at *
    generalize S[k + 1] = y at *
    have hj2 : (0 : Int) ≤ (k : Int) + 1 := by omega
    have hj3 : (k : Int) + 1 < (S.length : Int) := by omega
    have hA := (Kp.start w).new2 (.int .u64 0) (.int .u64 0) 45 w.heap.size rfl
    have hF := (Free.new2 (w := w) (l := []) trivial (.int .u64 0) (.int .u64 0) 45 w.heap.size rfl)
    have d0 := keep_cell c0 (below_new w (.cells #[.int .u64 0, .int .u64 0] 45))
    have d1 := keep_cell c1 (below_new w (.cells #[.int .u64 0, .int .u64 0] 45))
    obtain ⟨W0, hW0⟩ : ∃ W0, w.alloc (.cells #[.int .u64 0, .int .u64 0] 45) = W0 := ⟨_, rfl⟩
    rw [hW0] at hA hF d0 d1
    have HW0 := Lib.hid hW0; clear hW0 c0 c1
    obtain ⟨HA0, ha0, ha1, _⟩ := hA
    obtain ⟨⟨hf0, _⟩, ⟨hf1, _⟩, _⟩ := hF
    have HA := Lib.hid HA0; clear HA0
    clear hS ha
    go_enter Tryz.func44, Tryz.ntmps44
    go_wp2_with fail
    rw [HW0.out]
    go_still_tail 11, (by kernel_rfl)
    change wpList _ _ _ _ _ W0.drew
    obtain ⟨W1, hW1⟩ : ∃ W1, W0.drew = W1 := ⟨_, rfl⟩
    have g0 : W1.cell? ⟨w.heap.size, 0, none⟩ = some (.int .u64 0) := by rw [← hW1]; simpa using ha0
    have g1 : W1.cell? ⟨w.heap.size, 1, none⟩ = some (.int .u64 0) := by rw [← hW1]; simpa using ha1
    have g2 : W1.frozen? ⟨w.heap.size, 0, none⟩ = false := by rw [← hW1]; simpa using hf0
    have g3 : W1.frozen? ⟨w.heap.size, 1, none⟩ = false := by rw [← hW1]; simpa using hf1
    have HD := Lib.hid (show Below w.heap.size w W1 by rw [← hW1]; exact HA.out.drew)
    rw [hW1]
    clear hW1 ha0 ha1 hf0 hf1 HW0
    go_wp2_with fail
    obtain ⟨q0, q1, _⟩ := At.set2 g0 g1 (l := []) trivial (by simp) (.int .u64 x) (.int .u64 (y - 1))
    refine bodyPost_ret (v := .agg #[.int .u64 x, .int .u64 (y - 1)]) (by simp [results, Tryz.results44, go_sem, q0, q1]) rfl ⟨by rw [HP.out], ?_⟩
    exact below_set (below_set HD.out (Nat.le_refl _) _ _) (Nat.le_refl _) _ _
  · have hn : S[k + 1]? = none := List.getElem?_eq_none_iff.2 (by omega)
    have HP := Lib.hid (show pieceS 18446744073709551615 S k = (S[k], 18446744073709551615) by unfold pieceS boundS; rw [hp1, hn]; rfl)
    clear hp1 hx hn
    generalize S[k] = x at *
    have hj3 : ¬ (k : Int) + 1 < (S.length : Int) := by omega
    have hA := (Kp.start w).new2 (.int .u64 0) (.int .u64 0) 45 w.heap.size rfl
    have hF := (Free.new2 (w := w) (l := []) trivial (.int .u64 0) (.int .u64 0) 45 w.heap.size rfl)
    have d0 := keep_cell c0 (below_new w (.cells #[.int .u64 0, .int .u64 0] 45))
    obtain ⟨W0, hW0⟩ : ∃ W0, w.alloc (.cells #[.int .u64 0, .int .u64 0] 45) = W0 := ⟨_, rfl⟩
    rw [hW0] at hA hF d0
    have HW0 := Lib.hid hW0; clear hW0 c0
    obtain ⟨HA0, ha0, ha1, _⟩ := hA
    obtain ⟨⟨hf0, _⟩, ⟨hf1, _⟩, _⟩ := hF
    have HA := Lib.hid HA0; clear HA0
    clear hS ha
    have KM := max_any
    go_enter Tryz.func44, Tryz.ntmps44
    go_wp2_with fail
    rw [HW0.out]
    go_region_with ((go_at_call 59; refine (KM _).mono ?_; rintro e w' ⟨rfl, rfl⟩))
    all_goals
      have q0 : (W0.setCell ⟨w.heap.size, 0, none⟩ (.int .u64 x)).cell? ⟨w.heap.size, 0, none⟩ = some (.int .u64 x) := World.cell?_setCell_same' _ _ _ (by rw [ha0]; rfl)
      have q1 : ((W0.setCell ⟨w.heap.size, 0, none⟩ (.int .u64 x)).setCell ⟨w.heap.size, 1, none⟩ (.int .u64 18446744073709551615)).cell? ⟨w.heap.size, 1, none⟩ = some (.int .u64 18446744073709551615) := World.cell?_setCell_same' _ _ _ (by rw [World.cell?_setCell_other _ _ _ _ (by simp), ha1]; rfl)
      go_wp2_with fail
      refine bodyPost_ret (v := .agg #[.int .u64 x, .int .u64 18446744073709551615]) (by simp [results, Tryz.results44, go_sem, q0, q1]) rfl ⟨by rw [HP.out], ?_⟩
      first
        | exact below_set (below_set HA.out (Nat.le_refl _) _ _) (Nat.le_refl _) _ _
        | exact (below_set (below_set HA.out (Nat.le_refl _) _ _) (Nat.le_refl _) _ _).drew
        | exact (below_set (below_set HA.out (Nat.le_refl _) _ _) (Nat.le_refl _) _ _).drew.drew
end Go.Proofs.YtefiobfljhmkkaaGreat
