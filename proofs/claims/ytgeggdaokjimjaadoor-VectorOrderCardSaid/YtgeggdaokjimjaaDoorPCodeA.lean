/- Package vector: an entry behind a key, the search for a replica, Find, Has. Conditions: as each theorem says. -/
import Derived.Test.YtgeggdaokjimjaaDoorPVec
import Derived.Test.YtgeggdaokjimjaaDoorNSetC
import Derived.Test.YtgeggdaokjimjaaDoorRSearch
import Derived.Test.YtgeggdaokjimjaaDoorCells
import Derived.Sort.Grow
namespace Go.Proofs.YtgeggdaokjimjaaDoor
open Go.RowKit Go.Shelf Go.Sort
/-- Blocks are made, nothing is stored. -/
def Grows (w w' : World) : Prop := ∃ q os, w' = grow (w.drewN q) os
theorem grow_drew (w : World) (os : Array Obj) (q : Nat) : (grow w os).drewN q = grow (w.drewN q) os := rfl
theorem Grows.refl (w : World) : Grows w w := ⟨0, #[], by rw [grow_empty]; rfl⟩
theorem Grows.drew {w w' : World} (h : Grows w w') : Grows w w'.drew := by
  obtain ⟨q, os, rfl⟩ := h
  exact ⟨q + 1, os, rfl⟩
theorem Grows.alloc {w w' : World} (h : Grows w w') (o : Obj) : Grows w (w'.alloc o) := by
  obtain ⟨q, os, rfl⟩ := h
  exact ⟨q, os ++ #[o], by rw [alloc_eq_grow, grow_grow]⟩
theorem Grows.below {w w' : World} (h : Grows w w') : Below w.heap.size w w' := by
  obtain ⟨q, os, rfl⟩ := h
  exact below_grown_sl _ _ _ _ (Nat.le_refl _)
set_option maxRecDepth 100000 in
theorem behind_any (k r m : Int) (p : Option Addr) (n c : Nat) (w : World) :
    Calls Tryd.prog 31 #[.int .u64 k, .agg #[.int .u64 r, .int .u64 m, .slice p n c]] w (fun e w' => e = .returned (.bool (decide (r < k))) ∧ w' = w.alloc (.cells #[.int .u64 r, .int .u64 m, .slice p n c] 47)) := by
  go_enter Tryd.func31, Tryd.ntmps31
  go_wp2_with fail
  go_ret
  exact ⟨by simp, by simp⟩
/-- The replica at an index is not less than r. -/
def notB (V : List (Int × Int × List Iv)) (r : Int) (i : Nat) : Bool := match V[i]? with | some x => !decide (x.1 < r) | none => false
theorem notB_at {V : List (Int × Int × List Iv)} {i : Nat} {x : Int × Int × List Iv} (r : Int) (h : V[i]? = some x) : notB V r i = !decide (x.1 < r) := by unfold notB; rw [h]
theorem notB_mono {V : List (Int × Int × List Iv)} (h : V.Pairwise fun x y => x.1 < y.1) (r : Int) : ∀ a b, a ≤ b → b < V.length → notB V r a = true → notB V r b = true := by
  intro a b hab hb ha
  have hy : V[a]? = some V[a] := by simp [show a < V.length by omega]
  have hz : V[b]? = some V[b] := by simp [hb]
  rw [notB_at r hy] at ha
  rw [notB_at r hz]
  rcases Nat.lt_or_eq_of_le hab with hlt | heq
  · have := List.pairwise_iff_getElem.1 h a b (by omega) hb hlt
    simp at ha ⊢; omega
  · subst heq; exact ha
/-- How many entries a replica is behind. -/
def firstV (V : List (Int × Int × List Iv)) (r : Int) : Nat := V.findIdx fun x => decide (r ≤ x.1)
theorem firstV_le (V : List (Int × Int × List Iv)) (r : Int) : firstV V r ≤ V.length := List.findIdx_le_length
theorem firstV_low {V : List (Int × Int × List Iv)} {r : Int} {j : Nat} {y : Int × Int × List Iv} (hj : j < firstV V r) (hy : V[j]? = some y) : y.1 < r := by
  obtain ⟨h1, rfl⟩ := List.getElem?_eq_some_iff.1 hy
  have := List.not_of_lt_findIdx (p := fun x : Int × Int × List Iv => decide (r ≤ x.1)) (xs := V) (i := j) hj
  simpa using this
theorem firstV_at {V : List (Int × Int × List Iv)} {r : Int} {y : Int × Int × List Iv} (hy : V[firstV V r]? = some y) : r ≤ y.1 := by
  obtain ⟨h1, rfl⟩ := List.getElem?_eq_some_iff.1 hy
  have := List.findIdx_getElem (p := fun x : Int × Int × List Iv => decide (r ≤ x.1)) (xs := V) (w := h1)
  exact of_decide_eq_true this
theorem count_firstV {V : List (Int × Int × List Iv)} (h : V.Pairwise fun x y => x.1 < y.1) (r : Int) : (List.range V.length).countP (fun i => !notB V r i) = firstV V r := by
  have hle := firstV_le V r
  have h1 : ∀ i, i < firstV V r → notB V r i = false := by
    intro i hi
    have hy : V[i]? = some V[i] := by simp [show i < V.length by omega]
    rw [notB_at r hy]
    have := firstV_low hi hy
    simpa using this
  have h2 : ∀ i, firstV V r ≤ i → i < V.length → notB V r i = true := by
    intro i hi hlt
    have hk : firstV V r < V.length := by omega
    refine notB_mono h r (firstV V r) i hi hlt ?_
    have hy : V[firstV V r]? = some V[firstV V r] := by simp [hk]
    rw [notB_at r hy]
    have := firstV_at hy
    simp; omega
  obtain ⟨m, hm⟩ : ∃ m, V.length = firstV V r + m := ⟨V.length - firstV V r, by omega⟩
  rw [hm, List.range_add, List.countP_append]
  have e1 : (List.range (firstV V r)).countP (fun i => !notB V r i) = firstV V r := by
    have : (List.range (firstV V r)).countP (fun i => !notB V r i) = (List.range (firstV V r)).length := by
      rw [List.countP_eq_length]
      intro i hi
      rw [h1 i (by simpa using hi)]; rfl
    simpa using this
  have e2 : ((List.range m).map (firstV V r + ·)).countP (fun i => !notB V r i) = 0 := by
    rw [List.countP_eq_zero]
    intro i hi
    obtain ⟨j, hj, rfl⟩ := List.mem_map.1 hi
    rw [h2 (firstV V r + j) (by omega) (by have : j < m := by simpa using hj
                                           omega)]
    simp
  rw [e1, e2]; rfl
theorem find_here {V : List (Int × Int × List Iv)} {r : Int} {y : Int × Int × List Iv} (hy : V[firstV V r]? = some y) (h : y.1 = r) : findV V r = (firstV V r : Int) :=
  findV_some hy h fun j z hj hz => by have := firstV_low hj hz; omega
theorem find_past {V : List (Int × Int × List Iv)} {r : Int} (hv : V.Pairwise fun x y => x.1 < y.1) (h : ∀ y, V[firstV V r]? = some y → y.1 ≠ r) : findV V r = -1 := by
  refine findV_none fun j y hy e => ?_
  have h1 : ¬ j < firstV V r := fun hj => by have := firstV_low hj hy; omega
  have hlt := (List.getElem?_eq_some_iff.1 hy).1
  have hk : firstV V r < V.length := by omega
  have hz : V[firstV V r]? = some V[firstV V r] := by simp [hk]
  have h2 := firstV_at hz
  have h3 := h _ hz
  rcases Nat.lt_or_eq_of_le (Nat.le_of_not_lt h1) with h4 | h4
  · have h5 := List.pairwise_iff_getElem.1 hv (firstV V r) j hk hlt h4
    obtain ⟨_, e2⟩ := List.getElem?_eq_some_iff.1 hy
    rw [e2] at h5
    omega
  · exact h y (by rw [h4]; exact hy) e
theorem g6_drew {w w' : World} {C : World → Prop} (h : Grows w w' ∧ C w') (hc : ∀ A B, C A → Below A.heap.size A B → C B) : Grows w w'.drew ∧ C w'.drew := ⟨h.1.drew, hc _ _ h.2 (Below.refl _ _).drew⟩
/-- The cells that the search's function reads. -/
def SrC (kb kk kl : Nat) (r : Int) (v : Value) (a0 a1 a2 : Addr) (x m : Int) (s : Value) (W : World) : Prop :=
  W.cell? ⟨kb, 0, none⟩ = some (.func (.func 31) #[] #[]) ∧ W.cell? ⟨kk, 0, none⟩ = some (.int .u64 r) ∧ W.cell? ⟨kl, 0, none⟩ = some v ∧ W.cell? a0 = some (.int .u64 x) ∧ W.cell? a1 = some (.int .u64 m) ∧ W.cell? a2 = some s
theorem SrC.call {kb kk kl : Nat} {r : Int} {v : Value} {a0 a1 a2 : Addr} {x m : Int} {s : Value} {A B : World} (h : SrC kb kk kl r v a0 a1 a2 x m s A) (hb : Below A.heap.size A B) : SrC kb kk kl r v a0 a1 a2 x m s B :=
  ⟨keep_cell h.1 hb, keep_cell h.2.1 hb, keep_cell h.2.2.1 hb, keep_cell h.2.2.2.1 hb, keep_cell h.2.2.2.2.1 hb, keep_cell h.2.2.2.2.2 hb⟩
theorem s7_drew {w : World} {kb kk kl : Nat} {r : Int} {v : Value} {a0 a1 a2 : Addr} {x m : Int} {s : Value} (h : SrC kb kk kl r v a0 a1 a2 x m s w) : Grows w w.drew ∧ SrC kb kk kl r v a0 a1 a2 x m s w.drew :=
  ⟨(Grows.refl w).drew, h.call (Below.refl _ _).drew⟩
theorem s7_alloc {w w1 : World} {kb kk kl : Nat} {r : Int} {v : Value} {a0 a1 a2 : Addr} {x m : Int} {s : Value} (h : Grows w w1 ∧ SrC kb kk kl r v a0 a1 a2 x m s w1) (o : Obj) : Grows w (w1.alloc o) ∧ SrC kb kk kl r v a0 a1 a2 x m s (w1.alloc o) :=
  ⟨h.1.alloc o, h.2.call (below_new _ _)⟩
set_option maxRecDepth 100000 in
set_option maxHeartbeats 2000000 in
theorem search1_any (V : List (Int × Int × List Iv)) (v : Value) (r : Int) (i kb kk kl : Nat) (w : World) (hv : VecM w v V) (hi : i < V.length)
    (hb : w.cell? ⟨kb, 0, none⟩ = some (.func (.func 31) #[] #[])) (hk : w.cell? ⟨kk, 0, none⟩ = some (.int .u64 r)) (hl : w.cell? ⟨kl, 0, none⟩ = some v) :
    Calls Tryd.prog 58 #[.int .i64 i, .pointer (some ⟨kb, 0, none⟩), .pointer (some ⟨kk, 0, none⟩), .pointer (some ⟨kl, 0, none⟩)] w fun e w' => e = .returned (.bool (notB V r i)) ∧ Grows w w' := by
  have hy : V[i]? = some V[i] := by simp [hi]
  have hlen := hv.len
  rw [notB_at r hy]
  generalize V[i] = y at *
  obtain ⟨x, m, H⟩ := y
  obtain ⟨b, o, cap, p, n, c, rfl, c0, c1, c2, _⟩ := hv.elem hy
  dsimp only
  have hj0 : (0 : Int) ≤ (i : Int) := by omega
  have hj1 : (i : Int) < (V.length : Int) := by omega
  have HS := Lib.hid (show SrC kb kk kl r (.slice (some ⟨b, o, none⟩) V.length cap) ⟨b, o + i * 3, none⟩ ⟨b, o + i * 3 + 1, none⟩ ⟨b, o + i * 3 + 2, none⟩ x m (.slice p n c) w from ⟨hb, hk, hl, c0, c1, c2⟩)
  have KB := Lib.hid behind_any
  have HD : Hid (∀ W, Grows w W → Grows w W) := Lib.hid fun _ h => h
  clear hv hy
  generalize V.length = ln at *
  obtain ⟨d, hd⟩ : ∃ d, decide (x < r) = d := ⟨_, rfl⟩
  rw [hd]
  have HDD := Lib.hid hd; clear hd
  go_enter Tryd.func58, Tryd.ntmps58
  go_wp2_with fail
  go_region_held3 (fun w' => Grows w w' ∧ w'.cell? ⟨kb, 0, none⟩ = some (.func (.func 31) #[] #[]) ∧ w'.cell? ⟨kk, 0, none⟩ = some (.int .u64 r) ∧ w'.cell? ⟨kl, 0, none⟩ = some (.slice (some ⟨b, o, none⟩) ln cap) ∧ w'.cell? ⟨b, o + i * 3, none⟩ = some (.int .u64 x) ∧ w'.cell? ⟨b, o + i * 3 + 1, none⟩ = some (.int .u64 m) ∧ w'.cell? ⟨b, o + i * 3 + 2, none⟩ = some (.slice p n c))
    (first
      | exact s7_drew HS.out
      | exact s7_alloc (by assumption) _)
    ((go_at_call 31; refine (KB.out _ _ _ _ _ _ _).mono ?_; rintro en w3 ⟨rfl, hw⟩; obtain rfl := hw; rw [HDD.out]; have hG := Lib.hid (s7_alloc (s7_drew HS.out) (.cells #[.int .u64 x, .int .u64 m, .slice p n c] 47)).1))
  go_wp2_with fail
  go_ret
  exact ⟨rfl, hG.out⟩
set_option maxRecDepth 100000 in
set_option maxHeartbeats 2000000 in
theorem search_any (V : List (Int × Int × List Iv)) (v : Value) (r : Int) (w : World) (hv : VecM w v V) (hg : V.Pairwise fun x y => x.1 < y.1) :
    Calls Tryd.prog 39 #[v, .int .u64 r, .func (.func 31) #[] #[]] w (IsInt (firstV V r) w) := by
  obtain ⟨p, cap, rfl⟩ := hv.shape
  have hlen := hv.len
  have eg : ∀ args w, (callFunc 58 args).run Tryd.prog w = .ok (.enter 58 args) w := enters_of Tryd.func58 (by kernel_rfl) rfl
  have hA := (Kp.start w).new1 (.slice p V.length cap) 22 w.heap.size rfl
  have hB := hA.new1 (.int .u64 r) 52 (w.heap.size + 1) (by simp)
  have hC := hB.new1 (.func (.func 31) #[] #[]) 63 (w.heap.size + 2) (by simp)
  obtain ⟨W0, hW0⟩ : ∃ W0, ((w.alloc (.cells #[.slice p V.length cap] 22)).alloc (.cells #[.int .u64 r] 52)).alloc (.cells #[.func (.func 31) #[] #[]] 63) = W0 := ⟨_, rfl⟩
  rw [hW0] at hC
  have hcon := Any.sort_Search Tryd.search 58 #[.pointer (some ⟨w.heap.size + 2, 0, none⟩), .pointer (some ⟨w.heap.size + 1, 0, none⟩), .pointer (some ⟨w.heap.size, 0, none⟩)] V.length (notB V r) W0 eg (by omega)
    (fun m os i hi => by
      have hb : Below W0.heap.size W0 (grow (W0.drewN m) os) := below_grown_sl _ _ _ _ (Nat.le_refl _)
      exact search1_any V _ r i (w.heap.size + 2) (w.heap.size + 1) w.heap.size _ (hv.call (below_call hC.1 hb)) hi (keep_cell hC.2.1 hb) (keep_cell hC.2.2.1 hb) (keep_cell hC.2.2.2.1 hb))
    (notB_mono hg r)
  change Calls Tryd.prog 57 _ _ _ at hcon
  rw [count_firstV hg r] at hcon
  obtain ⟨k, hk⟩ : ∃ k, firstV V r = k := ⟨_, rfl⟩
  rw [hk] at hcon ⊢
  have HC := Lib.hid hcon; clear hcon
  have HBx := Lib.hid hC.1; clear hC hB hA
  have HW0 := Lib.hid hW0; clear hW0
  clear eg hv hg hk
  go_enter Tryd.func39, Tryd.ntmps39
  go_wp2_with fail
  rw [HW0.out]
  refine HC.out.mono ?_
  rintro e w1 ⟨rfl, q, os, rfl⟩
  have hb1 : Below W0.heap.size W0 (grow (W0.drewN q) os) := below_grown_sl _ _ _ _ (Nat.le_refl _)
  generalize grow (W0.drewN q) os = w1 at *
  have H1 := Lib.hid (below_call HBx.out hb1); clear hb1
  go_wp2_with fail
  go_ret
  exact ⟨rfl, H1.out⟩
set_option maxRecDepth 100000 in
set_option maxHeartbeats 2000000 in
theorem vFind_any (V : List (Int × Int × List Iv)) (v : Value) (r : Int) (w : World) (hv : VecM w v V) (hg : V.Pairwise fun x y => x.1 < y.1) : Calls Tryd.prog 17 #[v, .int .u64 r] w (IsInt (findV V r) w) := by
  obtain ⟨p, cap, rfl⟩ := hv.shape
  have hlen := hv.len
  have K := Lib.hid (search_any V _ r w hv hg)
  have HV := Lib.hid hv; clear hv
  have hle := firstV_le V r
  by_cases hlt : firstV V r < V.length
  · have hy : V[firstV V r]? = some V[firstV V r] := by simp [hlt]
    generalize V[firstV V r] = y at *
    obtain ⟨x, m, H⟩ := y
    have h1 := find_here hy
    have h2 : x ≠ r → findV V r = -1 := fun hne => find_past hg fun z hz => by rw [hy] at hz; obtain rfl := Option.some.inj hz; exact hne
    generalize firstV V r = k at *
    obtain ⟨b, o, cap', q, n, c, e, _⟩ := HV.out.elem hy
    cases e
    have HY := Lib.hid hy; clear hy
    have i1 : (0 : Int) ≤ (k : Int) := by omega
    have i2 : (k : Int) < (V.length : Int) := by omega
    have e0 : decide ((k : Int) < (V.length : Int)) = true := by simpa using hlt
    by_cases hr : x = r
    · have HZ := Lib.hid (h1 hr); clear h1 h2
      have e1 : (x == r) = true := by simpa using hr
      go_enter Tryd.func17, Tryd.ntmps17
      go_wp2_with fail
      refine K.out.mono ?_
      rintro e w1 ⟨rfl, h⟩
      have H1 := Lib.hid h; clear h
      obtain ⟨b', o', cap2, q', n', c', ee, c0, _⟩ := (HV.out.call H1.out).elem HY.out
      cases ee
      subst hr
      go_wp2_with fail
      go_ret
      exact ⟨by rw [HZ.out]; rfl, H1.out⟩
    · have HZ := Lib.hid (h2 hr); clear h1 h2
      have e1 : (x == r) = false := by simpa using hr
      clear hr
      go_enter Tryd.func17, Tryd.ntmps17
      go_wp2_with fail
      refine K.out.mono ?_
      rintro e w1 ⟨rfl, h⟩
      have H1 := Lib.hid h; clear h
      obtain ⟨b', o', cap2, q', n', c', ee, c0, _⟩ := (HV.out.call H1.out).elem HY.out
      cases ee
      go_wp2_with fail
      go_ret
      exact ⟨by rw [HZ.out]; rfl, H1.out⟩
  · have h2 : findV V r = -1 := find_past hg fun z hz => absurd (List.getElem?_eq_some_iff.1 hz).1 hlt
    have HZ := Lib.hid h2; clear h2
    generalize firstV V r = k at *
    have e0 : decide ((k : Int) < (V.length : Int)) = false := by simp; omega
    go_enter Tryd.func17, Tryd.ntmps17
    go_wp2_with fail
    refine K.out.mono ?_
    rintro e w1 ⟨rfl, h⟩
    have H1 := Lib.hid h; clear h
    go_wp2_with fail
    go_ret
    exact ⟨by rw [HZ.out]; rfl, H1.out⟩
end Go.Proofs.YtgeggdaokjimjaaDoor
