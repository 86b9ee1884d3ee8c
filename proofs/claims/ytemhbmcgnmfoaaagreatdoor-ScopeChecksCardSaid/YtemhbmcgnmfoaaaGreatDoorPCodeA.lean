/- Package vector: an entry behind a key, the search for a replica, Find, Has. Conditions: as each theorem says. -/
import Derived.Test.YtemhbmcgnmfoaaaGreatDoorPMath
import Derived.Test.YtemhbmcgnmfoaaaGreatDoorNKeeps
import Derived.Test.YtemhbmcgnmfoaaaGreatDoorRSearch
import Derived.Test.YtemhbmcgnmfoaaaGreatDoorLaw
import Derived.Sort.Grow
namespace Go.Proofs.YtemhbmcgnmfoaaaGreatDoor
open Go.RowKit Go.Shelf Go.Sort
/-- Blocks are made, nothing is stored. -/
def Grows (w w' : World) : Prop := ∃ q os, w' = grow (w.drewN q) os
theorem Grows.refl (w : World) : Grows w w := ⟨0, #[], by rw [grow_empty]; rfl⟩
theorem Grows.drew {w w' : World} (h : Grows w w') : Grows w w'.drew := by
  obtain ⟨q, os, rfl⟩ := h
  exact ⟨q + 1, os, rfl⟩
theorem Grows.alloc {w w' : World} (h : Grows w w') (o : Obj) : Grows w (w'.alloc o) := by
  obtain ⟨q, os, rfl⟩ := h
  exact ⟨q, os ++ #[o], by rw [alloc_eq_grow, grow_grow]⟩
theorem Grows.below {w w' : World} (h : Grows w w') : Below w.heap.size w w' := by
  obtain ⟨q, os, rfl⟩ := h
  exact below_grown_sl _ _ _ _ (Nat.le_refl _)
set_option maxRecDepth 100000 in
theorem behind_any (k r m : Int) (p : Option Addr) (n c : Nat) (w : World) :
    Calls Tryz.prog 83 #[.int .u64 k, .agg #[.int .u64 r, .int .u64 m, .slice p n c]] w (fun e w' => e = .returned (.bool (decide (r < k))) ∧ w' = w.alloc (.cells #[.int .u64 r, .int .u64 m, .slice p n c] 61)) := by
  go_enter Tryz.func83, Tryz.ntmps83
  go_wp2_with fail
  go_ret
  exact ⟨by simp, by simp⟩
/-- The replica at an index is not less than r. -/
def notB (V : List (Int × Int × List Iv)) (r : Int) (i : Nat) : Bool := match V[i]? with | some x => !decide (x.1 < r) | none => false
theorem notB_at {V : List (Int × Int × List Iv)} {i : Nat} {x : Int × Int × List Iv} (r : Int) (h : V[i]? = some x) : notB V r i = !decide (x.1 < r) := by unfold notB; rw [h]
theorem notB_mono {V : List (Int × Int × List Iv)} (h : V.Pairwise fun x y => x.1 < y.1) (r : Int) : ∀ a b, a ≤ b → b < V.length → notB V r a = true → notB V r b = true := by
  intro a b hab hb ha
  have hy : V[a]? = some V[a] := by simp [show a < V.length by omega]
  have hz : V[b]? = some V[b] := by simp [hb]
  rw [notB_at r hy] at ha
  rw [notB_at r hz]
  rcases Nat.lt_or_eq_of_le hab with hlt | heq
  · have := List.pairwise_iff_getElem.1 h a b (by omega) hb hlt
    simp at ha ⊢; omega
  · subst heq; exact ha
/-- How many entries a replica is behind. -/
def firstR9 (V : List (Int × Int × List Iv)) (r : Int) : Nat := V.findIdx fun x => decide (r ≤ x.1)
theorem firstR9_le (V : List (Int × Int × List Iv)) (r : Int) : firstR9 V r ≤ V.length := List.findIdx_le_length
theorem firstR9_low {V : List (Int × Int × List Iv)} {r : Int} {j : Nat} {y : Int × Int × List Iv} (hj : j < firstR9 V r) (hy : V[j]? = some y) : y.1 < r := by
  obtain ⟨h1, rfl⟩ := List.getElem?_eq_some_iff.1 hy
  have := List.not_of_lt_findIdx (p := fun x : Int × Int × List Iv => decide (r ≤ x.1)) (xs := V) (i := j) hj
  simpa using this
theorem firstR9_at {V : List (Int × Int × List Iv)} {r : Int} {y : Int × Int × List Iv} (hy : V[firstR9 V r]? = some y) : r ≤ y.1 := by
  obtain ⟨h1, rfl⟩ := List.getElem?_eq_some_iff.1 hy
  have := List.findIdx_getElem (p := fun x : Int × Int × List Iv => decide (r ≤ x.1)) (xs := V) (w := h1)
  exact of_decide_eq_true this
theorem count_firstR9 {V : List (Int × Int × List Iv)} (h : V.Pairwise fun x y => x.1 < y.1) (r : Int) : (List.range V.length).countP (fun i => !notB V r i) = firstR9 V r := by
  have hle := firstR9_le V r
  have h1 : ∀ i, i < firstR9 V r → notB V r i = false := by
    intro i hi
    have hy : V[i]? = some V[i] := by simp [show i < V.length by omega]
    rw [notB_at r hy]
    have := firstR9_low hi hy
    simpa using this
  have h2 : ∀ i, firstR9 V r ≤ i → i < V.length → notB V r i = true := by
    intro i hi hlt
    have hk : firstR9 V r < V.length := by omega
    refine notB_mono h r (firstR9 V r) i hi hlt ?_
    have hy : V[firstR9 V r]? = some V[firstR9 V r] := by simp [hk]
    rw [notB_at r hy]
    have := firstR9_at hy
    simp; omega
  obtain ⟨m, hm⟩ : ∃ m, V.length = firstR9 V r + m := ⟨V.length - firstR9 V r, by omega⟩
  rw [hm, List.range_add, List.countP_append]
  have e1 : (List.range (firstR9 V r)).countP (fun i => !notB V r i) = firstR9 V r := by
    have : (List.range (firstR9 V r)).countP (fun i => !notB V r i) = (List.range (firstR9 V r)).length := by
      rw [List.countP_eq_length]
      intro i hi
      rw [h1 i (by simpa using hi)]; rfl
    simpa using this
  have e2 : ((List.range m).map (firstR9 V r + ·)).countP (fun i => !notB V r i) = 0 := by
    rw [List.countP_eq_zero]
    intro i hi
    obtain ⟨j, hj, rfl⟩ := List.mem_map.1 hi
    rw [h2 (firstR9 V r + j) (by omega) (by have hjm : j < m := (by simpa using hj); omega)]
    simp
  rw [e1, e2]; rfl
theorem find_here {V : List (Int × Int × List Iv)} {r : Int} {y : Int × Int × List Iv} (hy : V[firstR9 V r]? = some y) (h : y.1 = r) : findV V r = (firstR9 V r : Int) :=
  findV_some hy h fun j z hj hz => by have := firstR9_low hj hz; omega
theorem find_past {V : List (Int × Int × List Iv)} {r : Int} (hv : V.Pairwise fun x y => x.1 < y.1) (h : ∀ y, V[firstR9 V r]? = some y → y.1 ≠ r) : findV V r = -1 := by
  refine findV_none fun j y hy e => ?_
  have h1 : ¬ j < firstR9 V r := fun hj => by have := firstR9_low hj hy; omega
  have hlt := (List.getElem?_eq_some_iff.1 hy).1
  have hk : firstR9 V r < V.length := by omega
  have hz : V[firstR9 V r]? = some V[firstR9 V r] := by simp [hk]
  have h2 := firstR9_at hz
  have h3 := h _ hz
  rcases Nat.lt_or_eq_of_le (Nat.le_of_not_lt h1) with h4 | h4
  · have h5 := List.pairwise_iff_getElem.1 hv (firstR9 V r) j hk hlt h4
    obtain ⟨_, e2⟩ := List.getElem?_eq_some_iff.1 hy
    rw [e2] at h5
    omega
  · exact h y (by rw [h4]; exact hy) e
/-- The cells that the search's function reads. -/
def SrC (kb kk kl : Nat) (r : Int) (v : Value) (a0 a1 a2 : Addr) (x m : Int) (s : Value) (W : World) : Prop :=
  W.cell? ⟨kb, 0, none⟩ = some (.func (.func 83) #[] #[]) ∧ W.cell? ⟨kk, 0, none⟩ = some (.int .u64 r) ∧ W.cell? ⟨kl, 0, none⟩ = some v ∧ W.cell? a0 = some (.int .u64 x) ∧ W.cell? a1 = some (.int .u64 m) ∧ W.cell? a2 = some s
theorem SrC.call {kb kk kl : Nat} {r : Int} {v : Value} {a0 a1 a2 : Addr} {x m : Int} {s : Value} {A B : World} (h : SrC kb kk kl r v a0 a1 a2 x m s A) (hb : Below A.heap.size A B) : SrC kb kk kl r v a0 a1 a2 x m s B :=
  ⟨keep_cell h.1 hb, keep_cell h.2.1 hb, keep_cell h.2.2.1 hb, keep_cell h.2.2.2.1 hb, keep_cell h.2.2.2.2.1 hb, keep_cell h.2.2.2.2.2 hb⟩
theorem s7_drew {w : World} {kb kk kl : Nat} {r : Int} {v : Value} {a0 a1 a2 : Addr} {x m : Int} {s : Value} (h : SrC kb kk kl r v a0 a1 a2 x m s w) : Grows w w.drew ∧ SrC kb kk kl r v a0 a1 a2 x m s w.drew :=
  ⟨(Grows.refl w).drew, h.call (Below.refl _ _).drew⟩
theorem s7_alloc {w w1 : World} {kb kk kl : Nat} {r : Int} {v : Value} {a0 a1 a2 : Addr} {x m : Int} {s : Value} (h : Grows w w1 ∧ SrC kb kk kl r v a0 a1 a2 x m s w1) (o : Obj) : Grows w (w1.alloc o) ∧ SrC kb kk kl r v a0 a1 a2 x m s (w1.alloc o) :=
  ⟨h.1.alloc o, h.2.call (below_new _ _)⟩
set_option maxRecDepth 100000 in
set_option maxHeartbeats 2000000 in
theorem search1_any (V : List (Int × Int × List Iv)) (v : Value) (r : Int) (i kb kk kl : Nat) (w : World) (hv : VecM w v V) (hi : i < V.length)
    (hb : w.cell? ⟨kb, 0, none⟩ = some (.func (.func 83) #[] #[])) (hk : w.cell? ⟨kk, 0, none⟩ = some (.int .u64 r)) (hl : w.cell? ⟨kl, 0, none⟩ = some v) :
    Calls Tryz.prog 115 #[.int .i64 i, .pointer (some ⟨kb, 0, none⟩), .pointer (some ⟨kk, 0, none⟩), .pointer (some ⟨kl, 0, none⟩)] w fun e w' => e = .returned (.bool (notB V r i)) ∧ Grows w w' := by
  have hy : V[i]? = some V[i] := by simp [hi]
  have hlen := hv.len
  rw [notB_at r hy]
  generalize V[i] = y at *
  obtain ⟨x, m, H⟩ := y
  obtain ⟨b, o, cap, p, n, c, rfl, c0, c1, c2, _⟩ := hv.elem hy
  dsimp only
  have hj0 : (0 : Int) ≤ (i : Int) := by omega
  have hj1 : (i : Int) < (V.length : Int) := by omega
  have HS := Lib.hid (show SrC kb kk kl r (.slice (some ⟨b, o, none⟩) V.length cap) ⟨b, o + i * 3, none⟩ ⟨b, o + i * 3 + 1, none⟩ ⟨b, o + i * 3 + 2, none⟩ x m (.slice p n c) w from ⟨hb, hk, hl, c0, c1, c2⟩)
  have KB := Lib.hid behind_any
  have HD : Hid (∀ W, Grows w W → Grows w W) := Lib.hid fun _ h => h
  clear hv hy
  generalize V.length = ln at *
  obtain ⟨d, hd⟩ : ∃ d, decide (x < r) = d := ⟨_, rfl⟩
  rw [hd]
  have HDD := Lib.hid hd; clear hd
  go_enter Tryz.func115, Tryz.ntmps115
  go_wp2_with fail
  go_region_held3 (fun w' => Grows w w' ∧ w'.cell? ⟨kb, 0, none⟩ = some (.func (.func 83) #[] #[]) ∧ w'.cell? ⟨kk, 0, none⟩ = some (.int .u64 r) ∧ w'.cell? ⟨kl, 0, none⟩ = some (.slice (some ⟨b, o, none⟩) ln cap) ∧ w'.cell? ⟨b, o + i * 3, none⟩ = some (.int .u64 x) ∧ w'.cell? ⟨b, o + i * 3 + 1, none⟩ = some (.int .u64 m) ∧ w'.cell? ⟨b, o + i * 3 + 2, none⟩ = some (.slice p n c))
    (first
      | exact s7_drew HS.out
      | exact s7_alloc (by assumption) _)
    ((go_at_call 83; refine (KB.out _ _ _ _ _ _ _).mono ?_; rintro en w3 ⟨rfl, hw⟩; obtain rfl := hw; rw [HDD.out]; have hG := Lib.hid (s7_alloc (s7_drew HS.out) (.cells #[.int .u64 x, .int .u64 m, .slice p n c] 61)).1))
  go_wp2_with fail
  go_ret
  exact ⟨rfl, hG.out⟩
set_option maxRecDepth 100000 in
set_option maxHeartbeats 2000000 in
theorem search_any (V : List (Int × Int × List Iv)) (v : Value) (r : Int) (w : World) (hv : VecM w v V) (hg : V.Pairwise fun x y => x.1 < y.1) :
    Calls Tryz.prog 85 #[v, .int .u64 r, .func (.func 83) #[] #[]] w (IsInt (firstR9 V r) w) := by
  obtain ⟨p, cap, rfl⟩ := hv.shape
  have hlen := hv.len
  have eg : ∀ args w, (callFunc 115 args).run Tryz.prog w = .ok (.enter 115 args) w := enters_of Tryz.func115 (by kernel_rfl) rfl
  have hA := (Kp.start w).new1 (.slice p V.length cap) 39 w.heap.size rfl
  have hB := hA.new1 (.int .u64 r) 114 (w.heap.size + 1) (by simp)
  have hC := hB.new1 (.func (.func 83) #[] #[]) 117 (w.heap.size + 2) (by simp)
  obtain ⟨W0, hW0⟩ : ∃ W0, ((w.alloc (.cells #[.slice p V.length cap] 39)).alloc (.cells #[.int .u64 r] 114)).alloc (.cells #[.func (.func 83) #[] #[]] 117) = W0 := ⟨_, rfl⟩
  rw [hW0] at hC
  have hcon := Any.sort_Search Tryz.search 115 #[.pointer (some ⟨w.heap.size + 2, 0, none⟩), .pointer (some ⟨w.heap.size + 1, 0, none⟩), .pointer (some ⟨w.heap.size, 0, none⟩)] V.length (notB V r) W0 eg (by omega)
    (fun m os i hi => by
      have hb : Below W0.heap.size W0 (grow (W0.drewN m) os) := below_grown_sl _ _ _ _ (Nat.le_refl _)
      exact search1_any V _ r i (w.heap.size + 2) (w.heap.size + 1) w.heap.size _ (hv.call (below_call hC.1 hb)) hi (keep_cell hC.2.1 hb) (keep_cell hC.2.2.1 hb) (keep_cell hC.2.2.2.1 hb))
    (notB_mono hg r)
  change Calls Tryz.prog 114 _ _ _ at hcon
  rw [count_firstR9 hg r] at hcon
  obtain ⟨k, hk⟩ : ∃ k, firstR9 V r = k := ⟨_, rfl⟩
  rw [hk] at hcon ⊢
  have HC := Lib.hid hcon; clear hcon
  have HBx := Lib.hid hC.1; clear hC hB hA
  have HW0 := Lib.hid hW0; clear hW0
  clear eg hv hg hk
  go_enter Tryz.func85, Tryz.ntmps85
  go_wp2_with fail
  rw [HW0.out]
  refine HC.out.mono ?_
  rintro e w1 ⟨rfl, q, os, rfl⟩
  have hb1 : Below W0.heap.size W0 (grow (W0.drewN q) os) := below_grown_sl _ _ _ _ (Nat.le_refl _)
  generalize grow (W0.drewN q) os = w1 at *
  have H1 := Lib.hid (below_call HBx.out hb1); clear hb1
  go_wp2_with fail
  go_ret
  exact ⟨rfl, H1.out⟩
set_option maxRecDepth 100000 in
set_option maxHeartbeats 2000000 in
theorem vFind_any (V : List (Int × Int × List Iv)) (v : Value) (r : Int) (w : World) (hv : VecM w v V) (hg : V.Pairwise fun x y => x.1 < y.1) : Calls Tryz.prog 51 #[v, .int .u64 r] w (IsInt (findV V r) w) := by
  obtain ⟨p, cap, rfl⟩ := hv.shape
  have hlen := hv.len
  have K := Lib.hid (search_any V _ r w hv hg)
  have HV := Lib.hid hv; clear hv
  have hle := firstR9_le V r
  by_cases hlt : firstR9 V r < V.length
  · have hy : V[firstR9 V r]? = some V[firstR9 V r] := by simp [hlt]
    generalize V[firstR9 V r] = y at *
    obtain ⟨x, m, H⟩ := y
    have h1 := find_here hy
    have h2 : x ≠ r → findV V r = -1 := fun hne => find_past hg fun z hz => by rw [hy] at hz; obtain rfl := Option.some.inj hz; exact hne
    generalize firstR9 V r = k at *
    obtain ⟨b, o, cap', q, n, c, e, _⟩ := HV.out.elem hy
    cases e
    have HY := Lib.hid hy; clear hy
    have i1 : (0 : Int) ≤ (k : Int) := by omega
    have i2 : (k : Int) < (V.length : Int) := by omega
    have e0 : decide ((k : Int) < (V.length : Int)) = true := by simpa using hlt
    by_cases hr : x = r
    · have HZ := Lib.hid (h1 hr); clear h1 h2
      have e1 : (x == r) = true := by simpa using hr
      go_enter Tryz.func51, Tryz.ntmps51
      go_wp2_with fail
      refine K.out.mono ?_
      rintro e w1 ⟨rfl, h⟩
      have H1 := Lib.hid h; clear h
      obtain ⟨b', o', cap2, q', n', c', ee, c0, _⟩ := (HV.out.call H1.out).elem HY.out
      cases ee
      subst hr
      go_wp2_with fail
      go_ret
      exact ⟨by rw [HZ.out]; rfl, H1.out⟩
    · have HZ := Lib.hid (h2 hr); clear h1 h2
      have e1 : (x == r) = false := by simpa using hr
      clear hr
      go_enter Tryz.func51, Tryz.ntmps51
      go_wp2_with fail
      refine K.out.mono ?_
      rintro e w1 ⟨rfl, h⟩
      have H1 := Lib.hid h; clear h
      obtain ⟨b', o', cap2, q', n', c', ee, c0, _⟩ := (HV.out.call H1.out).elem HY.out
      cases ee
      go_wp2_with fail
      go_ret
      exact ⟨by rw [HZ.out]; rfl, H1.out⟩
  · have h2 : findV V r = -1 := find_past hg fun z hz => absurd (List.getElem?_eq_some_iff.1 hz).1 hlt
    have HZ := Lib.hid h2; clear h2
    generalize firstR9 V r = k at *
    have e0 : decide ((k : Int) < (V.length : Int)) = false := by simp; omega
    go_enter Tryz.func51, Tryz.ntmps51
    go_wp2_with fail
    refine K.out.mono ?_
    rintro e w1 ⟨rfl, h⟩
    have H1 := Lib.hid h; clear h
    go_wp2_with fail
    go_ret
    exact ⟨by rw [HZ.out]; rfl, H1.out⟩
end Go.Proofs.YtemhbmcgnmfoaaaGreatDoor

/- Package vector: Has, Check, Canonical. Conditions: as each theorem says. -/
namespace Go.Proofs.YtemhbmcgnmfoaaaGreatDoor
open Go.RowKit
theorem has_none9 {V : List (Int × Int × List Iv)} {r : Int} (c : Int) (h : findV V r = -1) : hasV V r c = false := by
  unfold findV at h
  unfold hasV
  cases hf : V.findIdx? (fun x => decide (x.1 = r)) with
  | none => rfl
  | some k => rw [hf] at h; simp only at h; omega
theorem has_some9 {V : List (Int × Int × List Iv)} {r : Int} {k : Nat} {x : Int × Int × List Iv} (c : Int) (h : findV V r = (k : Int)) (hx : V[k]? = some x) : hasV V r c = hasE x.2.1 x.2.2 c := by
  unfold findV at h
  unfold hasV
  cases hf : V.findIdx? (fun x => decide (x.1 = r)) with
  | none => rw [hf] at h; simp only at h; omega
  | some j =>
    rw [hf] at h
    simp only at h
    obtain rfl : j = k := by omega
    simp only [hx]
theorem find_ways (V : List (Int × Int × List Iv)) (r : Int) : findV V r = -1 ∨ ∃ (k : Nat) (x : Int × Int × List Iv), findV V r = (k : Int) ∧ V[k]? = some x := by
  unfold findV
  cases hf : V.findIdx? (fun x => decide (x.1 = r)) with
  | none => exact .inl rfl
  | some k =>
    obtain ⟨hlt, _⟩ := List.findIdx?_eq_some_iff_getElem.1 hf
    exact .inr ⟨k, V[k], rfl, by simp [hlt]⟩
set_option maxRecDepth 100000 in
set_option maxHeartbeats 2000000 in
theorem vHas_any (V : List (Int × Int × List Iv)) (v : Value) (r c : Int) (w : World) (hv : VecM w v V) (hg : GoodV V) (h0 : 0 ≤ c) (h1 : c ≤ 18446744073709551615) : Calls Tryz.prog 22 #[v, .int .u64 r, .int .u64 c] w (IsEnd (hasV V r c) w) := by
  obtain ⟨p, cap, rfl⟩ := hv.shape
  have K := Lib.hid (vFind_any V _ r w hv hg.asc)
  have hlen := hv.len
  have HV := Lib.hid hv; clear hv
  rcases find_ways V r with hf | ⟨k, ⟨x, m, H⟩, hf, hx⟩
  · rw [has_none9 c hf]
    rw [hf] at K
    clear hf hg h0 h1
    go_enter Tryz.func22, Tryz.ntmps22
    go_wp2_with fail
    refine K.out.mono ?_
    rintro e w1 ⟨rfl, h⟩
    have H1 := Lib.hid h; clear h
    go_wp2_with fail
    go_ret
    exact ⟨rfl, H1.out⟩
  · rw [has_some9 c hf hx]
    rw [hf] at K
    obtain ⟨b, o, cp, q, n, ce, e, _⟩ := HV.out.elem hx
    cases e
    have hlt := (List.getElem?_eq_some_iff.1 hx).1
    have HX := Lib.hid hx
    have HGE := Lib.hid (hg.ent _ (List.mem_iff_getElem?.2 ⟨k, hx⟩)); clear hg hx hf
    have HC := Lib.hid (And.intro h0 h1); clear h0 h1
    have KH := Lib.hid eHas_any
    have i1 : (0 : Int) ≤ (k : Int) := by omega
    have i2 : (k : Int) < (V.length : Int) := by omega
    have e1 : ((k : Int) != -1) = true := bne_iff_ne.2 (by omega)
    dsimp only
    obtain ⟨bb, hbb⟩ : ∃ bb, hasE m H c = bb := ⟨_, rfl⟩
    rw [hbb]
    have HBB := Lib.hid hbb; clear hbb
    clear hlt
    go_enter Tryz.func22, Tryz.ntmps22
    go_wp2_with fail
    refine K.out.mono ?_
    rintro e w1 ⟨rfl, h⟩
    have H1 := Lib.hid h; clear h
    obtain ⟨b', o', cp', q', n', ce', ee, c0, c1, c2, ha⟩ := (HV.out.call H1.out).elem HX.out
    cases ee
    have HE := Lib.hid (show EntAt w1 (.slice q' n' ce') m H from ⟨ha, HGE.out⟩); clear ha
    go_wp2_with fail
    refine (KH.out x m H _ c _ HE.out HC.out.1 HC.out.2).mono ?_
    rintro e w2 ⟨rfl, h⟩
    have H2 := Lib.hid (below_call H1.out h); clear h
    rw [HBB.out]
    go_wp2_with fail
    go_ret
    exact ⟨rfl, H2.out⟩
theorem code_of {m : Int} {H : List Iv} {e : Int × Option Int} (h : chkN m H = some e) : codeE (some e) = codeE (chkN m H) := by rw [h]
theorem chkE_at9 {V : List (Int × Int × List Iv)} {k : Nat} (hk : k < V.length) (h : ∀ j, j < k → badV V j = 0) {c : Int} (hb : badV V k = c) (hc : c ≠ 0) : chkE9 V = some (c, some (k : Int)) := by
  unfold chkE9
  rw [chkVec_some hk h (by rw [hb]; exact hc), hb]
  rfl
theorem chkE_none9 {V : List (Int × Int × List Iv)} (h : ∀ j, j < V.length → badV V j = 0) : chkE9 V = none := by unfold chkE9; rw [chkVec_none h]; rfl
theorem bef_snoc {V : List (Int × Int × List Iv)} {k : Nat} (h : ∀ j, j < k → badV V j = 0) (hk : badV V k = 0) : ∀ j, j < k + 1 → badV V j = 0 := fun j hj => by
  rcases Nat.lt_or_eq_of_le (Nat.le_of_lt_succ hj) with h1 | h1
  · exact h j h1
  · rw [h1]; exact hk
theorem k5_call {W w1 w2 : World} {a0 b0 b1 b2 : Addr} {u0 v0 v1 v2 : Value} (h : Below W.heap.size W w1 ∧ w1.cell? a0 = some u0 ∧ w1.cell? b0 = some v0 ∧ w1.cell? b1 = some v1 ∧ w1.cell? b2 = some v2) (hb : Below w1.heap.size w1 w2) :
    Below W.heap.size W w2 ∧ w2.cell? a0 = some u0 ∧ w2.cell? b0 = some v0 ∧ w2.cell? b1 = some v1 ∧ w2.cell? b2 = some v2 :=
  ⟨below_call h.1 hb, keep_cell h.2.1 hb, keep_cell h.2.2.1 hb, keep_cell h.2.2.2.1 hb, keep_cell h.2.2.2.2 hb⟩
set_option maxRecDepth 100000 in
set_option maxHeartbeats 4000000 in
theorem vCheck_any (V : List (Int × Int × List Iv)) (v : Value) (w : World) (hg : ErrT w) (hv : VecM w v V) : Calls Tryz.prog 49 #[v] w (IsErr (chkE9 V) w) := by
  obtain ⟨p, cap, rfl⟩ := hv.shape
  have hlen := hv.len
  have HV := Lib.hid hv; clear hv
  have HG := Lib.hid hg; clear hg
  have KC := Lib.hid eCheck_any
  have KF := Lib.hid Code_any
  have KN := Lib.hid new_ok
  have KB := Lib.hid behind_any
  go_enter Tryz.func49, Tryz.ntmps49
  go_wp2_with fail
  go_loopw [8] (fun i wr => ∃ k : Nat, i = .int .i64 k ∧ k ≤ V.length ∧ (∀ j, j < k → badV V j = 0) ∧ Below w.heap.size w wr) (fun i _ => V.length - (intOf i).toNat)
  case atStart => exact ⟨0, rfl, Nat.zero_le _, fun j hj => absurd hj (Nat.not_lt_zero j), Below.refl _ _⟩
  case round =>
    obtain ⟨k, rfl, hk, hbef, hb⟩ := hrel
    have HBF := Lib.hid hbef; clear hbef
    have HB := Lib.hid hb; clear hb
    by_cases hlt : k < V.length
    · obtain ⟨⟨x, m, H⟩, hx⟩ : ∃ x, V[k]? = some x := ⟨V[k], by simp [hlt]⟩
      obtain ⟨b, o, cap', q, n, c, e, c0, c1, c2, ha⟩ := (HV.out.call HB.out).elem hx
      cases e
      have hbw := below_new wr (.cells #[.int .u64 x, .int .u64 m, .slice q n c] 61)
      have t0 : (wr.alloc (.cells #[.int .u64 x, .int .u64 m, .slice q n c] 61)).cell? ⟨wr.heap.size, 0, none⟩ = some (.int .u64 x) := by simp
      have HT := Lib.hid t0; clear t0
      have HA := Lib.hid (And.intro (HG.out.here (below_call HB.out hbw)) (ha.call hbw)); clear ha
      have HBW := Lib.hid (below_call HB.out hbw); clear hbw
      have HX := Lib.hid hx; clear hx
      have i1 : (0 : Int) ≤ (k : Int) := by omega
      have i2 : (k : Int) < (V.length : Int) := by omega
      have HLT := Lib.hid hlt
      cases hc : chkN m H with
      | some x1 =>
        have hcd : codeE (chkN m H) ≠ 0 := by rw [hc]; exact code_some hc
        have HZ := Lib.hid (chkE_at9 hlt HBF.out (badV_code HX.out hcd) hcd)
        obtain ⟨t, u, hu⟩ := errV_some (x := some x1) (by simp)
        have HCD := Lib.hid (code_of hc)
        have h00 : (codeE (chkN m H) == 0) = false := by simpa using hcd
        have H00 := Lib.hid h00; clear h00
        have kc := KC.out x m H _ _ HA.out.1 HA.out.2
        have kf := fun W h => KF.out (some x1) W h
        rw [hc] at kc
        unfold IsErr at kc
        rw [hu] at kc kf
        rw [code_of hc] at kf
        have K := Lib.hid kc; clear kc
        have KF1 := Lib.hid kf; clear kf hcd hu HCD
        generalize codeE (chkN m H) = cd at *
        go_wp2_with fail
        refine K.out.mono ?_
        rintro e w1 ⟨rfl, h⟩
        have H1 := Lib.hid (below_call HBW.out h); clear h
        go_wp2_with fail
        refine (KF1.out _ (HG.out.here H1.out)).mono ?_
        rintro e w2 ⟨rfl, h⟩
        have H2 := Lib.hid (below_call H1.out h); clear h
        go_wp2_with fail
        refine (KN.out cd (k : Int) _ H00.out).mono ?_
        rintro e w3 ⟨rfl, rfl⟩
        go_wp2_with fail
        go_ret
        exact ⟨by rw [HZ.out]; rfl, H2.out⟩
      | none =>
        have hcd : codeE (chkN m H) = 0 := by rw [hc]; rfl
        have kc := KC.out x m H _ _ HA.out.1 HA.out.2
        rw [hc] at kc
        have K := Lib.hid kc; clear kc hc
        by_cases hk0 : k = 0
        · subst hk0
          simp only [Nat.zero_mul, Nat.add_zero] at c0 c1 c2
          have HN := Lib.hid (bef_snoc HBF.out (badV_first HX.out hcd)); clear hcd
          go_wp2_with fail
          refine K.out.mono ?_
          rintro e w1 ⟨rfl, h⟩
          have H1 := Lib.hid (below_call HBW.out h); clear h
          rw [show errV none = .nilIface from rfl]
          go_wp2_with fail
          go_quiet (fail)
          go_wp2_with fail
          go_roundw
          case rel => exact ⟨1, by go_num, by omega, HN.out, below_drewN H1.out _⟩
          case measure => simp [intOf]; omega
        · obtain ⟨j, rfl⟩ : ∃ j, k = j + 1 := ⟨k - 1, by omega⟩
          obtain ⟨⟨y, my, Hy⟩, hy⟩ : ∃ y, V[j]? = some y := ⟨V[j], by simp [show j < V.length by omega]⟩
          have HN := Lib.hid (badV_next HX.out hy hcd); clear hcd
          have HY := Lib.hid hy; clear hy
          have j1 : (0 : Int) ≤ (j : Int) := by omega
          have j2 : (j : Int) < (V.length : Int) := by omega
          have j3 : IntKind.i64.wrap ((j : Int) + 1 - 1) = (j : Int) := (IntWalk.i64_in _ (by omega)).trans (by omega)
          have j6 : IntKind.i64.wrap (j : Int) = (j : Int) := IntWalk.i64_in _ (by omega)
          have j4 : decide ((0 : Int) < (j : Int) + 1) = true := decide_eq_true (by omega)
          have j5 : ((j + 1 : Nat) : Int) = (j : Int) + 1 := by omega
          rw [j5] at i1 i2
          obtain ⟨d, hd⟩ : ∃ d, decide (y < x) = d := ⟨_, rfl⟩
          have KB1 := Lib.hid (show ∀ (p : Option Addr) (n c : Nat) (w : World), Calls Tryz.prog 83 #[.int .u64 x, .agg #[.int .u64 y, .int .u64 my, .slice p n c]] w (fun e w' => e = .returned (.bool d) ∧ w' = w.alloc (.cells #[.int .u64 y, .int .u64 my, .slice p n c] 61)) from fun p n c w => hd ▸ behind_any x y my p n c w)
          have HD := Lib.hid hd; clear hd hlt hk0
          rw [j5]
          go_wp2_with fail
          refine K.out.mono ?_
          rintro e w1 ⟨rfl, h⟩
          have T0 := keep_cell HT.out h
          have H1 := Lib.hid (below_call HBW.out h); clear h
          rw [show errV none = .nilIface from rfl]
          obtain ⟨b', o', cp', q', n', ce', ee, d0, d1, d2, _⟩ := (HV.out.call H1.out).elem HY.out
          cases ee
          have HS := Lib.hid (show Below w1.heap.size w1 w1 ∧ _ ∧ _ ∧ _ ∧ _ from ⟨Below.refl _ _, T0, d0, d1, d2⟩)
          clear T0 d0 d1 d2 c0 c1 c2
          go_wp2_with fail
          go_region_held3 (fun w' => Below w1.heap.size w1 w' ∧ w'.cell? ⟨wr.heap.size, 0, none⟩ = some (.int .u64 x) ∧ w'.cell? ⟨b, o + j * 3, none⟩ = some (.int .u64 y) ∧ w'.cell? ⟨b, o + j * 3 + 1, none⟩ = some (.int .u64 my) ∧ w'.cell? ⟨b, o + j * 3 + 2, none⟩ = some (.slice q' n' ce'))
            (first
              | exact k5_call HS.out (Below.refl _ _).drew
              | exact k5_call (by assumption) (below_new _ _))
            ((go_at_call 83; refine (KB1.out _ _ _ _).mono ?_; rintro en w3 ⟨rfl, hw⟩; obtain rfl := hw; have HW3 := Lib.hid (below_call H1.out (below_call (Below.refl _ _).drew (below_new w1.drew (.cells #[.int .u64 y, .int .u64 my, .slice q' n' ce'] 61))))))
          by_cases hle : x ≤ y
          · have hdd : d = false := by rw [← HD.out]; exact decide_eq_false (by omega)
            subst hdd
            have HZ := Lib.hid (chkE_at9 HLT.out HBF.out (HN.out.trans (if_pos hle)) (by decide)); clear HN hle
            go_wp2_with fail
            refine (KN.out 3 _ _ (by decide)).mono ?_
            rintro e w4 ⟨rfl, rfl⟩
            go_wp2_with fail
            go_ret
            exact ⟨by rw [HZ.out]; rfl, HW3.out⟩
          · have hdd : d = true := by rw [← HD.out]; exact decide_eq_true (by omega)
            subst hdd
            have HZ := Lib.hid (bef_snoc HBF.out (HN.out.trans (if_neg hle))); clear HN hle
            go_wp2_with fail
            go_roundw
            case rel => exact ⟨j + 1 + 1, by go_num, by omega, HZ.out, HW3.out⟩
            case measure => simp [intOf]; omega
    · obtain rfl : k = V.length := by omega
      have HZ := Lib.hid (chkE_none9 HBF.out)
      go_wp2_with fail
      go_ret
      exact ⟨by rw [HZ.out]; rfl, HB.out⟩
end Go.Proofs.YtemhbmcgnmfoaaaGreatDoor

/- Package vector: Canonical, Canon. Conditions: as each theorem says. -/
namespace Go.Proofs.YtemhbmcgnmfoaaaGreatDoor
open Go.RowKit
def badE9 (x : Int × Int × List Iv) : Bool := !(okN x.2.1 x.2.2 && canonB x.2.1 x.2.2)
def idx9 (V : List (Int × Int × List Iv)) : Int := match V.findIdx? badE9 with | some k => (k : Int) | none => -1
theorem idx9_some {V : List (Int × Int × List Iv)} {k : Nat} {x : Int × Int × List Iv} (hx : V[k]? = some x) (hr : badE9 x = true) (h : ∀ j y, j < k → V[j]? = some y → badE9 y = false) : idx9 V = (k : Int) := by
  unfold idx9
  have : V.findIdx? badE9 = some k := by
    rw [List.findIdx?_eq_some_iff_getElem]
    obtain ⟨hlt, he⟩ := List.getElem?_eq_some_iff.1 hx
    refine ⟨hlt, by rw [he]; exact hr, fun j hj => ?_⟩
    have := h j V[j] hj (by simp [show j < V.length by omega])
    simpa using this
  rw [this]
theorem idx9_none {V : List (Int × Int × List Iv)} (h : ∀ (j : Nat) y, V[j]? = some y → badE9 y = false) : idx9 V = -1 := by
  unfold idx9
  have : V.findIdx? badE9 = none := by
    rw [List.findIdx?_eq_none_iff]
    intro x hx
    obtain ⟨i, hi⟩ := List.mem_iff_getElem?.1 hx
    exact h i x hi
  rw [this]
theorem idx9_can (V : List (Int × Int × List Iv)) : decide ((0 : Int) ≤ idx9 V) = !canV V := by
  unfold idx9
  cases hf : V.findIdx? badE9 with
  | none =>
    have : canV V = true := by
      unfold canV
      rw [List.all_eq_true]
      intro x hx
      have := List.findIdx?_eq_none_iff.1 hf x hx
      unfold badE9 at this
      simpa using this
    rw [this]; decide
  | some k =>
    obtain ⟨hlt, hb, _⟩ := List.findIdx?_eq_some_iff_getElem.1 hf
    have : canV V = false := by
      unfold canV
      rw [List.all_eq_false]
      refine ⟨V[k], List.getElem_mem hlt, ?_⟩
      unfold badE9 at hb
      show ¬ (okN V[k].2.1 V[k].2.2 && canonB V[k].2.1 V[k].2.2) = true
      intro hh
      rw [hh] at hb
      cases hb
    rw [this]
    exact decide_eq_true (by simp)
set_option maxRecDepth 100000 in
theorem not1_any (x m : Int) (H : List Iv) (s : Value) (w : World) (hg : ErrT w) (ha : AnyAt w s m H) :
    Calls Tryz.prog 47 #[.agg #[.int .u64 x, .int .u64 m, s]] w (IsEnd (badE9 (x, m, H)) w) := by
  obtain ⟨p, cap, rfl, _⟩ := ha.at'.shape
  have hb := below_new w (.cells #[.int .u64 x, .int .u64 m, .slice p H.length cap] 61)
  have K := Lib.hid (eCanonical_any x m H _ _ (hg.here hb) (ha.call hb)); clear hg ha
  have HB := Lib.hid hb; clear hb
  obtain ⟨d, hd⟩ : ∃ d, (okN m H && canonB m H) = d := ⟨_, rfl⟩
  have HD : Hid (badE9 (x, m, H) = !d) := Lib.hid (by unfold badE9; rw [hd])
  rw [hd] at K; clear hd
  go_enter Tryz.func47, Tryz.ntmps47
  go_wp2_with fail
  refine K.out.mono ?_
  rintro e w1 ⟨rfl, h⟩
  have H1 := Lib.hid (below_call HB.out h); clear h
  go_wp2_with fail
  go_ret
  exact ⟨by rw [HD.out]; rfl, H1.out⟩
set_option maxRecDepth 100000 in
set_option maxHeartbeats 2000000 in
theorem index9_any (V : List (Int × Int × List Iv)) (v : Value) (w : World) (hg : ErrT w) (hv : VecM w v V) :
    Calls Tryz.prog 84 #[v, .func (.func 47) #[] #[]] w (IsInt (idx9 V) w) := by
  obtain ⟨p, cap, rfl⟩ := hv.shape
  have hlen := hv.len
  have HV := Lib.hid hv; clear hv
  have HG := Lib.hid hg; clear hg
  have K := Lib.hid not1_any
  go_enter Tryz.func84, Tryz.ntmps84
  go_wp2_with fail
  go_loopw [8] (fun i wr => ∃ k : Nat, i = .int .i64 k ∧ k ≤ V.length ∧ (∀ j y, j < k → V[j]? = some y → badE9 y = false) ∧ Below w.heap.size w wr) (fun i _ => V.length - (intOf i).toNat)
  case atStart => exact ⟨0, rfl, Nat.zero_le _, fun j z hj => absurd hj (Nat.not_lt_zero j), Below.refl _ _⟩
  case round =>
    obtain ⟨k, rfl, hk, hbef, hb⟩ := hrel
    have HBF := Lib.hid hbef; clear hbef
    have HB := Lib.hid hb; clear hb
    by_cases hlt : k < V.length
    · obtain ⟨⟨x, m, H⟩, hx⟩ : ∃ x, V[k]? = some x := ⟨V[k], by simp [hlt]⟩
      obtain ⟨b, o, cap', q, n, c, e, c0, c1, c2, ha⟩ := (HV.out.call HB.out).elem hx
      cases e
      have HA := Lib.hid ha; clear ha
      have HX := Lib.hid hx; clear hx
      have i1 : (0 : Int) ≤ (k : Int) := by omega
      have i2 : (k : Int) < (V.length : Int) := by omega
      cases hd : badE9 (x, m, H) with
      | true =>
        have HZ := Lib.hid (idx9_some HX.out hd HBF.out)
        go_wp2_with fail
        refine (K.out x m H _ _ (HG.out.here HB.out) HA.out).mono ?_
        rintro e w1 ⟨rfl, h⟩
        have H1 := Lib.hid (below_call HB.out h); clear h
        rw [hd]
        clear hd
        go_wp2_with fail
        go_ret
        exact ⟨by rw [HZ.out]; rfl, H1.out⟩
      | false =>
        have HD := Lib.hid hd
        go_wp2_with fail
        refine (K.out x m H _ _ (HG.out.here HB.out) HA.out).mono ?_
        rintro e w1 ⟨rfl, h⟩
        have H1 := Lib.hid (below_call HB.out h); clear h
        rw [hd]
        clear hd
        go_wp2_with fail
        go_roundw
        case rel => exact ⟨k + 1, by go_num, by omega, fun j y hj hy => by
          rcases Nat.lt_or_eq_of_le (Nat.le_of_lt_succ hj) with h | h
          · exact HBF.out j y h hy
          · subst h
            obtain rfl := Option.some.inj (HX.out.symm.trans hy)
            exact HD.out, H1.out⟩
        case measure => simp [intOf]; omega
    · obtain rfl : k = V.length := by omega
      have HZ := Lib.hid (idx9_none (V := V) fun j y hy => HBF.out j y (List.getElem?_eq_some_iff.1 hy).1 hy)
      go_wp2_with fail
      go_ret
      exact ⟨by rw [HZ.out]; rfl, HB.out⟩
set_option maxRecDepth 100000 in
theorem contains9_any (V : List (Int × Int × List Iv)) (v : Value) (w : World) (hg : ErrT w) (hv : VecM w v V) :
    Calls Tryz.prog 50 #[v, .func (.func 47) #[] #[]] w (IsEnd (!canV V) w) := by
  obtain ⟨p, cap, rfl⟩ := hv.shape
  have K := Lib.hid (index9_any V _ w hg hv); clear hg hv
  have HZ := Lib.hid (idx9_can V)
  generalize idx9 V = j at *
  generalize canV V = d at *
  go_enter Tryz.func50, Tryz.ntmps50
  go_wp2_with fail
  refine K.out.mono ?_
  rintro e w1 ⟨rfl, h⟩
  have H1 := Lib.hid h; clear h
  go_wp2_with fail
  go_ret
  exact ⟨by rw [← HZ.out]; rfl, H1.out⟩
set_option maxRecDepth 100000 in
set_option maxHeartbeats 2000000 in
theorem vCanonical_any (V : List (Int × Int × List Iv)) (v : Value) (w : World) (hg : ErrT w) (hv : VecM w v V) : Calls Tryz.prog 21 #[v] w (IsEnd (canV V && rightV V) w) := by
  obtain ⟨p, cap, rfl⟩ := hv.shape
  have kc := vCheck_any V _ w hg hv
  have HV := Lib.hid hv; clear hv
  have HG := Lib.hid hg; clear hg
  have KX := Lib.hid (fun W h h2 => contains9_any V (.slice p V.length cap) W h h2)
  cases hc : chkVec V with
  | some x =>
    have hr : rightV V = false := by unfold rightV; rw [hc]; rfl
    have he : chkE9 V = some (x.1, some (x.2 : Int)) := by unfold chkE9; rw [hc]; rfl
    obtain ⟨t, u, hu⟩ := errV_some (x := some (x.1, some (x.2 : Int))) (by simp)
    rw [he] at kc
    unfold IsErr at kc
    rw [hu] at kc
    rw [hr, Bool.and_false]
    have K := Lib.hid kc; clear kc he hu hr hc KX
    go_enter Tryz.func21, Tryz.ntmps21
    go_wp2_with fail
    refine K.out.mono ?_
    rintro e w1 ⟨rfl, h⟩
    have H1 := Lib.hid h; clear h
    go_wp2_with fail
    go_ret
    exact ⟨rfl, H1.out⟩
  | none =>
    have hr : rightV V = true := by unfold rightV; rw [hc]; rfl
    have he : chkE9 V = none := by unfold chkE9; rw [hc]; rfl
    rw [he] at kc
    rw [hr, Bool.and_true]
    have K := Lib.hid kc; clear kc he hr hc
    generalize canV V = d at *
    go_enter Tryz.func21, Tryz.ntmps21
    go_wp2_with fail
    refine K.out.mono ?_
    rintro e w1 ⟨rfl, h⟩
    have H1 := Lib.hid h; clear h
    rw [show errV none = .nilIface from rfl]
    go_wp2_with fail
    refine (KX.out _ (HG.out.here H1.out) (HV.out.call H1.out)).mono ?_
    rintro e w2 ⟨rfl, h⟩
    have H2 := Lib.hid (below_call H1.out h); clear h
    cases d <;>
    · go_wp2_with fail
      go_ret
      exact ⟨rfl, H2.out⟩
theorem soft_low9 {w : World} {B B' : Nat} {v : Value} {n : Nat} (h : SoftE w B v n) (hB : B' ≤ B) : SoftE w B' v n := by
  obtain ⟨p, cap, h1, h2, h3⟩ := h
  refine ⟨p, cap, h1, h2, fun hn => ?_⟩
  obtain ⟨g, o, h4, h5, h6⟩ := h3 hn
  exact ⟨g, o, h4, Nat.le_trans hB h5, h6⟩
/-- What a call has made so far of a vector: an own row of entries, their lists sane. -/
def OutS (w : World) (B : Nat) (v : Value) (V : List (Int × Int × List Iv)) : Prop :=
  ∃ es : List (Int × Int × Value), es.length = V.length ∧ w.ownsRow B 61 3 v es.length (entC es) ∧ (∀ (i : Nat) (e : Int × Int × Value) (x : Int × Int × List Iv), es[i]? = some e → V[i]? = some x → e.1 = x.1 ∧ e.2.1 = x.2.1 ∧ HolE w B v.ownBlock e.2.2 x.2.2) ∧ ∀ e ∈ es, SaneE e.2.2
theorem OutS.nil (w : World) (B : Nat) : OutS w B (.slice none 0 0) [] := ⟨[], rfl, World.ownsRow_nil w B _ 3, fun i e x h => by simp at h, fun e h => by simp at h⟩
theorem OutS.shape {w : World} {B : Nat} {v : Value} {V : List (Int × Int × List Iv)} (h : OutS w B v V) : ∃ p cap, v = .slice p V.length cap := by
  obtain ⟨es, h1, h2, _⟩ := h
  obtain ⟨p, cap, e, _⟩ := own_shape h2
  exact ⟨p, cap, by rw [e, h1]⟩
theorem OutS.call {w w' : World} {B : Nat} {v : Value} {V : List (Int × Int × List Iv)} (h : OutS w B v V) (hb : Below w.heap.size w w') : OutS w' B v V := by
  obtain ⟨es, h1, h2, h3, h4⟩ := h
  exact ⟨es, h1, own_below h2 hb, fun i e x he hx => ⟨(h3 i e x he hx).1, (h3 i e x he hx).2.1, (h3 i e x he hx).2.2.call hb⟩, h4⟩
theorem OutS.push {w w2 : World} {B : Nat} {v v2 : Value} {es : List (Int × Int × Value)} {V : List (Int × Int × List Iv)} {r m : Int} {s : Value} {H : List Iv} (hel : es.length = V.length)
    (hall : ∀ (i : Nat) (e : Int × Int × Value) (x : Int × Int × List Iv), es[i]? = some e → V[i]? = some x → e.1 = x.1 ∧ e.2.1 = x.2.1 ∧ HolE w B v.ownBlock e.2.2 x.2.2)
    (hrow : w2.ownsRow B 61 3 v2 (es.length + 1) (entC es ++ [.int .u64 r, .int .u64 m, s])) (hg : w.grownBy w2 v.ownBlock) (hat : v2.ownBlock = v.ownBlock ∨ v2.ownBlock = some w.heap.size) (hx : HolE w B v.ownBlock s H) (hs : ∀ e ∈ es, SaneE e.2.2) (hss : SaneE s) : OutS w2 B v2 (V ++ [(r, m, H)]) := by
  refine ⟨es ++ [(r, m, s)], by rw [List.length_append, List.length_append, hel]; rfl, ?_, fun i e x he hx' => ?_, fun e he => ?_⟩
  · rw [List.length_append, entC_app]; exact hrow
  · by_cases hi : i < es.length
    · rw [List.getElem?_append_left hi] at he
      rw [List.getElem?_append_left (by omega)] at hx'
      obtain ⟨h1, h2, h3⟩ := hall i e x he hx'
      exact ⟨h1, h2, h3.grown hg hat⟩
    · rw [List.getElem?_append_right (by omega)] at he
      rw [List.getElem?_append_right (by omega)] at hx'
      have h0 : i - es.length = 0 := by
        have := (List.getElem?_eq_some_iff.1 he).1
        simpa using this
      have h0' : i - V.length = 0 := by omega
      rw [h0] at he; rw [h0'] at hx'
      obtain rfl : (r, m, s) = e := by simpa using he
      obtain rfl : (r, m, H) = x := by simpa using hx'
      exact ⟨rfl, rfl, hx.grown hg hat⟩
  · rcases List.mem_append.1 he with h | h
    · exact hs e h
    · obtain rfl := List.mem_singleton.1 h
      exact hss
theorem sane_own {W : World} {B n sz : Nat} {t : TypeId} {v : Value} {xs : List Value} (h : W.ownsRow B t sz v n xs) : SaneE v := by
  rcases h.2 with ⟨h1, _⟩ | ⟨g, cap, cur, h1, _, _, hnc, _⟩
  · refine ⟨fun n c e => ?_, fun a n c e => ?_⟩
    · rw [e] at h1; cases h1; exact ⟨rfl, rfl⟩
    · rw [e] at h1; cases h1
  · refine ⟨fun n c e => ?_, fun a n c e => ?_⟩
    · rw [e] at h1; cases h1
    · rw [e] at h1; cases h1; exact hnc
/-- A finished vector of a call's own. -/
theorem OutS.done {w : World} {B : Nat} {v : Value} {V : List (Int × Int × List Iv)} (h : OutS w B v V) (hl : V.length ≤ 100000) (hg : ∀ x ∈ V, (0 ≤ x.1 ∧ x.1 ≤ 18446744073709551615) ∧ All64 x.2.2 ∧ (0 ≤ x.2.1 ∧ x.2.1 ≤ 18446744073709551615) ∧ x.2.2.length ≤ 5000) :
    VecS w v V ∧ SoftW w B v (nsV V) := by
  obtain ⟨es, h1, h2, h3, h4⟩ := h
  refine ⟨⟨⟨⟨es, OutV.vecAt h2, h1, fun i e x he hx => ?_⟩, hl⟩, sane_own h2, fun x hx => (hg x hx).1⟩, ?_⟩
  · obtain ⟨k1, k2, k3⟩ := h3 i e x he hx
    obtain ⟨g1, g2, g3, g4⟩ := hg x (List.mem_of_getElem? hx)
    exact ⟨k1, k2, k3.ivs, g2, h4 e (List.mem_of_getElem? he), g3.1, g3.2, g4⟩
  · have hnl : (nsV V).length = es.length := by unfold nsV; rw [List.length_map, h1]
    have hrow := h2
    rcases h2.2 with ⟨rfl, h0⟩ | ⟨g, cap, cur, rfl, hbg, hgg, hnc, hcm, _⟩
    · exact ⟨none, 0, by rw [hnl, h0], by rw [hnl, h0]; exact Nat.zero_le _, fun hne => absurd (List.eq_nil_of_length_eq_zero (by rw [hnl, h0])) hne⟩
    · refine ⟨_, cap, by rw [hnl], by rw [hnl]; exact Nat.le_trans hnc hcm, fun _ => ⟨g, 0, rfl, hbg, fun i n hi => ?_⟩⟩
      have hilt : i < V.length := by have := (List.getElem?_eq_some_iff.1 hi).1; rw [hnl] at this; omega
      have hx : V[i]? = some V[i] := by simp [hilt]
      have he : es[i]? = some es[i] := by simp [show i < es.length by omega]
      obtain ⟨c0, c1, c2⟩ := own_cells3 hrow rfl i _ he
      obtain ⟨k1, k2, k3⟩ := h3 i _ _ he hx
      have hn : n = V[i].2.2.length := by unfold nsV at hi; rw [List.getElem?_map, hx] at hi; exact (Option.some.inj hi).symm
      subst hn
      exact ⟨⟨_, c0⟩, ⟨_, c1⟩, hrow.frozenAt _, hrow.frozenAt _, _, c2, k3.soft⟩
end Go.Proofs.YtemhbmcgnmfoaaaGreatDoor
