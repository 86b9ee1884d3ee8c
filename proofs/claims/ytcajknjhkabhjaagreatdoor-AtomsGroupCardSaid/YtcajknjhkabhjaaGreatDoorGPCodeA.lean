/- Package vector: an entry behind a key, the search for a replica, Find, Has. Conditions: as each theorem says. -/
import Derived.Test.YtcajknjhkabhjaaGreatDoorGPMath
import Derived.Test.YtcajknjhkabhjaaGreatDoorGNKeeps
import Derived.Sort.Grow
namespace Go.Proofs.YtcajknjhkabhjaaGreatDoor
open Go.RowKit Go.Shelf Go.Sort
def Grows (w w' : World) : Prop := ∃ q os, w' = grow (w.drewN q) os
theorem Grows.refl (w : World) : Grows w w := ⟨0, #[], by rw [grow_empty]; rfl⟩
theorem Grows.drew {w w' : World} (h : Grows w w') : Grows w w'.drew := by
 obtain ⟨q, os, rfl⟩ := h
 exact ⟨q + 1, os, rfl⟩
theorem Grows.alloc {w w' : World} (h : Grows w w') (o : Obj) : Grows w (w'.alloc o) := by
 obtain ⟨q, os, rfl⟩ := h
 exact ⟨q, os ++ #[o], by rw [alloc_eq_grow, grow_grow]⟩
theorem Grows.below {w w' : World} (h : Grows w w') : Below w.heap.size w w' := by
 obtain ⟨q, os, rfl⟩ := h
 exact below_grown_sl _ _ _ _ (Nat.le_refl _)
set_option maxRecDepth 100000 in
theorem behind_any (k r m : Int) (p : Option Addr) (n c : Nat) (w : World) :
 Calls Tryz.prog 164 #[.int .u64 k, .agg #[.int .u64 r, .int .u64 m, .slice p n c]] w (fun e w' => e = .returned (.bool (decide (r < k))) ∧ w' = w.alloc (.cells #[.int .u64 r, .int .u64 m, .slice p n c] 51)) := by
 go_enter Tryz.func164, Tryz.ntmps164
 go_wp2_with fail
 go_ret
 exact ⟨by simp, by simp⟩
def notB (V : List (Int × Int × List Iv)) (r : Int) (i : Nat) : Bool := match V[i]? with | some x => !decide (x.1 < r) | none => false
theorem notB_at {V : List (Int × Int × List Iv)} {i : Nat} {x : Int × Int × List Iv} (r : Int) (h : V[i]? = some x) : notB V r i = !decide (x.1 < r) := by unfold notB; rw [h]
theorem notB_mono {V : List (Int × Int × List Iv)} (h : V.Pairwise fun x y => x.1 < y.1) (r : Int) : ∀ a b, a ≤ b → b < V.length → notB V r a = true → notB V r b = true := by
 intro a b hab hb ha
 have hy : V[a]? = some V[a] := by simp [show a < V.length by omega]
 have hz : V[b]? = some V[b] := by simp [hb]
 rw [notB_at r hy] at ha
 rw [notB_at r hz]
 rcases Nat.lt_or_eq_of_le hab with hlt | heq
 ·have := List.pairwise_iff_getElem.1 h a b (by omega) hb hlt
  simp at ha ⊢; omega
 ·subst heq; exact ha
def firstR9 (V : List (Int × Int × List Iv)) (r : Int) : Nat := V.findIdx fun x => decide (r ≤ x.1)
theorem firstR9_le (V : List (Int × Int × List Iv)) (r : Int) : firstR9 V r ≤ V.length := List.findIdx_le_length
theorem firstR9_low {V : List (Int × Int × List Iv)} {r : Int} {j : Nat} {y : Int × Int × List Iv} (hj : j < firstR9 V r) (hy : V[j]? = some y) : y.1 < r := by
 obtain ⟨h1, rfl⟩ := List.getElem?_eq_some_iff.1 hy
 have := List.not_of_lt_findIdx (p := fun x : Int × Int × List Iv => decide (r ≤ x.1)) (xs := V) (i := j) hj
 simpa using this
theorem firstR9_at {V : List (Int × Int × List Iv)} {r : Int} {y : Int × Int × List Iv} (hy : V[firstR9 V r]? = some y) : r ≤ y.1 := by
 obtain ⟨h1, rfl⟩ := List.getElem?_eq_some_iff.1 hy
 have := List.findIdx_getElem (p := fun x : Int × Int × List Iv => decide (r ≤ x.1)) (xs := V) (w := h1)
 exact of_decide_eq_true this
theorem count_firstR9 {V : List (Int × Int × List Iv)} (h : V.Pairwise fun x y => x.1 < y.1) (r : Int) : (List.range V.length).countP (fun i => !notB V r i) = firstR9 V r := by
 have hle := firstR9_le V r
 have h1 : ∀ i, i < firstR9 V r → notB V r i = false := by
  intro i hi
  have hy : V[i]? = some V[i] := by simp [show i < V.length by omega]
  rw [notB_at r hy]
  have := firstR9_low hi hy
  simpa using this
 have h2 : ∀ i, firstR9 V r ≤ i → i < V.length → notB V r i = true := by
  intro i hi hlt
  have hk : firstR9 V r < V.length := by omega
  refine notB_mono h r (firstR9 V r) i hi hlt ?_
  have hy : V[firstR9 V r]? = some V[firstR9 V r] := by simp [hk]
  rw [notB_at r hy]
  have := firstR9_at hy
  simp; omega
 obtain ⟨m, hm⟩ : ∃ m, V.length = firstR9 V r + m := ⟨V.length - firstR9 V r, by omega⟩
 rw [hm, List.range_add, List.countP_append]
 have e1 : (List.range (firstR9 V r)).countP (fun i => !notB V r i) = firstR9 V r := by
  have : (List.range (firstR9 V r)).countP (fun i => !notB V r i) = (List.range (firstR9 V r)).length := by
   rw [List.countP_eq_length]
   intro i hi
   rw [h1 i (by simpa using hi)]; rfl
  simpa using this
 have e2 : ((List.range m).map (firstR9 V r + ·)).countP (fun i => !notB V r i) = 0 := by
  rw [List.countP_eq_zero]
  intro i hi
  obtain ⟨j, hj, rfl⟩ := List.mem_map.1 hi
  rw [h2 (firstR9 V r + j) (by omega) (by have hjm : j < m := (by simpa using hj); omega)]
  simp
 rw [e1, e2]; rfl
theorem find_here {V : List (Int × Int × List Iv)} {r : Int} {y : Int × Int × List Iv} (hy : V[firstR9 V r]? = some y) (h : y.1 = r) : findV V r = (firstR9 V r : Int) :=
 findV_some hy h fun j z hj hz => by have := firstR9_low hj hz; omega
theorem find_past {V : List (Int × Int × List Iv)} {r : Int} (hv : V.Pairwise fun x y => x.1 < y.1) (h : ∀ y, V[firstR9 V r]? = some y → y.1 ≠ r) : findV V r = -1 := by
 refine findV_none fun j y hy e => ?_
 have h1 : ¬ j < firstR9 V r := fun hj => by have := firstR9_low hj hy; omega
 have hlt := (List.getElem?_eq_some_iff.1 hy).1
 have hk : firstR9 V r < V.length := by omega
 have hz : V[firstR9 V r]? = some V[firstR9 V r] := by simp [hk]
 have h2 := firstR9_at hz
 have h3 := h _ hz
 rcases Nat.lt_or_eq_of_le (Nat.le_of_not_lt h1) with h4 | h4
 ·have h5 := List.pairwise_iff_getElem.1 hv (firstR9 V r) j hk hlt h4
  obtain ⟨_, e2⟩ := List.getElem?_eq_some_iff.1 hy
  rw [e2] at h5
  omega
 ·exact h y (by rw [h4]; exact hy) e
def SrC (kb kk kl : Nat) (r : Int) (v : Value) (a0 a1 a2 : Addr) (x m : Int) (s : Value) (W : World) : Prop :=
 W.cell? ⟨kb, 0, none⟩ = some (.func (.func 164) #[] #[]) ∧ W.cell? ⟨kk, 0, none⟩ = some (.int .u64 r) ∧ W.cell? ⟨kl, 0, none⟩ = some v ∧ W.cell? a0 = some (.int .u64 x) ∧ W.cell? a1 = some (.int .u64 m) ∧ W.cell? a2 = some s
theorem SrC.call {kb kk kl : Nat} {r : Int} {v : Value} {a0 a1 a2 : Addr} {x m : Int} {s : Value} {A B : World} (h : SrC kb kk kl r v a0 a1 a2 x m s A) (hb : Below A.heap.size A B) : SrC kb kk kl r v a0 a1 a2 x m s B :=
 ⟨keep_cell h.1 hb, keep_cell h.2.1 hb, keep_cell h.2.2.1 hb, keep_cell h.2.2.2.1 hb, keep_cell h.2.2.2.2.1 hb, keep_cell h.2.2.2.2.2 hb⟩
theorem s7_drew {w : World} {kb kk kl : Nat} {r : Int} {v : Value} {a0 a1 a2 : Addr} {x m : Int} {s : Value} (h : SrC kb kk kl r v a0 a1 a2 x m s w) : Grows w w.drew ∧ SrC kb kk kl r v a0 a1 a2 x m s w.drew :=
 ⟨(Grows.refl w).drew, h.call (Below.refl _ _).drew⟩
theorem s7_alloc {w w1 : World} {kb kk kl : Nat} {r : Int} {v : Value} {a0 a1 a2 : Addr} {x m : Int} {s : Value} (h : Grows w w1 ∧ SrC kb kk kl r v a0 a1 a2 x m s w1) (o : Obj) : Grows w (w1.alloc o) ∧ SrC kb kk kl r v a0 a1 a2 x m s (w1.alloc o) :=
 ⟨h.1.alloc o, h.2.call (below_new _ _)⟩
set_option maxRecDepth 100000 in
set_option maxHeartbeats 2000000 in
theorem search1_any (V : List (Int × Int × List Iv)) (v : Value) (r : Int) (i kb kk kl : Nat) (w : World) (hv : VecM w v V) (hi : i < V.length)
 (hb : w.cell? ⟨kb, 0, none⟩ = some (.func (.func 164) #[] #[])) (hk : w.cell? ⟨kk, 0, none⟩ = some (.int .u64 r)) (hl : w.cell? ⟨kl, 0, none⟩ = some v) :
 Calls Tryz.prog 229 #[.int .i64 i, .pointer (some ⟨kb, 0, none⟩), .pointer (some ⟨kk, 0, none⟩), .pointer (some ⟨kl, 0, none⟩)] w fun e w' => e = .returned (.bool (notB V r i)) ∧ Grows w w' := by
 have hy : V[i]? = some V[i] := by simp [hi]
 have hlen := hv.len
 rw [notB_at r hy]
 generalize V[i] = y at *
 obtain ⟨x, m, H⟩ := y
 obtain ⟨b, o, cap, p, n, c, rfl, c0, c1, c2, _⟩ := hv.elem hy
 dsimp only
 have hj0 : (0 : Int) ≤ (i : Int) := by omega
 have hj1 : (i : Int) < (V.length : Int) := by omega
 have HS := Lib.hid (show SrC kb kk kl r (.slice (some ⟨b, o, none⟩) V.length cap) ⟨b, o + i * 3, none⟩ ⟨b, o + i * 3 + 1, none⟩ ⟨b, o + i * 3 + 2, none⟩ x m (.slice p n c) w from ⟨hb, hk, hl, c0, c1, c2⟩)
 have KB := Lib.hid behind_any
 have HD : Hid (∀ W, Grows w W → Grows w W) := Lib.hid fun _ h => h
 clear hv hy
 generalize V.length = ln at *
 obtain ⟨d, hd⟩ : ∃ d, decide (x < r) = d := ⟨_, rfl⟩
 rw [hd]
 have HDD := Lib.hid hd; clear hd
 go_enter Tryz.func229, Tryz.ntmps229
 go_wp2_with fail
 go_region_held3 (fun w' => Grows w w' ∧ w'.cell? ⟨kb, 0, none⟩ = some (.func (.func 164) #[] #[]) ∧ w'.cell? ⟨kk, 0, none⟩ = some (.int .u64 r) ∧ w'.cell? ⟨kl, 0, none⟩ = some (.slice (some ⟨b, o, none⟩) ln cap) ∧ w'.cell? ⟨b, o + i * 3, none⟩ = some (.int .u64 x) ∧ w'.cell? ⟨b, o + i * 3 + 1, none⟩ = some (.int .u64 m) ∧ w'.cell? ⟨b, o + i * 3 + 2, none⟩ = some (.slice p n c))
  (first
    | exact s7_drew HS.out
    | exact s7_alloc (by assumption) _)
  ((go_at_call 164; refine (KB.out _ _ _ _ _ _ _).mono ?_; rintro en w3 ⟨rfl, hw⟩; obtain rfl := hw; rw [HDD.out]; have hG := Lib.hid (s7_alloc (s7_drew HS.out) (.cells #[.int .u64 x, .int .u64 m, .slice p n c] 51)).1))
 go_wp2_with fail
 go_ret
 exact ⟨rfl, hG.out⟩
set_option maxRecDepth 100000 in
set_option maxHeartbeats 2000000 in
theorem search_any (V : List (Int × Int × List Iv)) (v : Value) (r : Int) (w : World) (hv : VecM w v V) (hg : V.Pairwise fun x y => x.1 < y.1) :
 Calls Tryz.prog 163 #[v, .int .u64 r, .func (.func 164) #[] #[]] w (IsInt (firstR9 V r) w) := by
 obtain ⟨p, cap, rfl⟩ := hv.shape
 have hlen := hv.len
 have eg : ∀ args w, (callFunc 229 args).run Tryz.prog w = .ok (.enter 229 args) w := enters_of Tryz.func229 (by kernel_rfl) rfl
 have hA := (Kp.start w).new1 (.slice p V.length cap) 46 w.heap.size rfl
 have hB := hA.new1 (.int .u64 r) 185 (w.heap.size + 1) (by simp)
 have hC := hB.new1 (.func (.func 164) #[] #[]) 186 (w.heap.size + 2) (by simp)
 obtain ⟨W0, hW0⟩ : ∃ W0, ((w.alloc (.cells #[.slice p V.length cap] 46)).alloc (.cells #[.int .u64 r] 185)).alloc (.cells #[.func (.func 164) #[] #[]] 186) = W0 := ⟨_, rfl⟩
 rw [hW0] at hC
 have hcon := Any.sort_Search Tryz.search 229 #[.pointer (some ⟨w.heap.size + 2, 0, none⟩), .pointer (some ⟨w.heap.size + 1, 0, none⟩), .pointer (some ⟨w.heap.size, 0, none⟩)] V.length (notB V r) W0 eg (by omega)
  (fun m os i hi => by
    have hb : Below W0.heap.size W0 (grow (W0.drewN m) os) := below_grown_sl _ _ _ _ (Nat.le_refl _)
    exact search1_any V _ r i (w.heap.size + 2) (w.heap.size + 1) w.heap.size _ (hv.call (below_call hC.1 hb)) hi (keep_cell hC.2.1 hb) (keep_cell hC.2.2.1 hb) (keep_cell hC.2.2.2.1 hb))
  (notB_mono hg r)
 change Calls Tryz.prog 76 _ _ _ at hcon
 rw [count_firstR9 hg r] at hcon
 obtain ⟨k, hk⟩ : ∃ k, firstR9 V r = k := ⟨_, rfl⟩
 rw [hk] at hcon ⊢
 have HC := Lib.hid hcon; clear hcon
 have HBx := Lib.hid hC.1; clear hC hB hA
 have HW0 := Lib.hid hW0; clear hW0
 clear eg hv hg hk
 go_enter Tryz.func163, Tryz.ntmps163
 go_wp2_with fail
 rw [HW0.out]
 refine HC.out.mono ?_
 rintro e w1 ⟨rfl, q, os, rfl⟩
 have hb1 : Below W0.heap.size W0 (grow (W0.drewN q) os) := below_grown_sl _ _ _ _ (Nat.le_refl _)
 generalize grow (W0.drewN q) os = w1 at *
 have H1 := Lib.hid (below_call HBx.out hb1); clear hb1
 go_wp2_with fail
 go_ret
 exact ⟨rfl, H1.out⟩
set_option maxRecDepth 100000 in
set_option maxHeartbeats 2000000 in
theorem vFind_any (V : List (Int × Int × List Iv)) (v : Value) (r : Int) (w : World) (hv : VecM w v V) (hg : V.Pairwise fun x y => x.1 < y.1) : Calls Tryz.prog 114 #[v, .int .u64 r] w (IsInt (findV V r) w) := by
 obtain ⟨p, cap, rfl⟩ := hv.shape
 have hlen := hv.len
 have K := Lib.hid (search_any V _ r w hv hg)
 have HV := Lib.hid hv; clear hv
 have hle := firstR9_le V r
 by_cases hlt : firstR9 V r < V.length
 ·have hy : V[firstR9 V r]? = some V[firstR9 V r] := by simp [hlt]
  generalize V[firstR9 V r] = y at *
  obtain ⟨x, m, H⟩ := y
  have h1 := find_here hy
  have h2 : x ≠ r → findV V r = -1 := fun hne => find_past hg fun z hz => by rw [hy] at hz; obtain rfl := Option.some.inj hz; exact hne
  generalize firstR9 V r = k at *
  obtain ⟨b, o, cap', q, n, c, e, _⟩ := HV.out.elem hy
  cases e
  have HY := Lib.hid hy; clear hy
  have i1 : (0 : Int) ≤ (k : Int) := by omega
  have i2 : (k : Int) < (V.length : Int) := by omega
  have e0 : decide ((k : Int) < (V.length : Int)) = true := by simpa using hlt
  by_cases hr : x = r
  ·have HZ := Lib.hid (h1 hr); clear h1 h2
   have e1 : (x == r) = true := by simpa using hr
   go_enter Tryz.func114, Tryz.ntmps114
   go_wp2_with fail
   refine K.out.mono ?_
   rintro e w1 ⟨rfl, h⟩
   have H1 := Lib.hid h; clear h
   obtain ⟨b', o', cap2, q', n', c', ee, c0, _⟩ := (HV.out.call H1.out).elem HY.out
   cases ee
   subst hr
   go_wp2_with fail
   go_ret
   exact ⟨by rw [HZ.out]; rfl, H1.out⟩
  ·have HZ := Lib.hid (h2 hr); clear h1 h2
   have e1 : (x == r) = false := by simpa using hr
   clear hr
   go_enter Tryz.func114, Tryz.ntmps114
   go_wp2_with fail
   refine K.out.mono ?_
   rintro e w1 ⟨rfl, h⟩
   have H1 := Lib.hid h; clear h
   obtain ⟨b', o', cap2, q', n', c', ee, c0, _⟩ := (HV.out.call H1.out).elem HY.out
   cases ee
   go_wp2_with fail
   go_ret
   exact ⟨by rw [HZ.out]; rfl, H1.out⟩
 ·have h2 : findV V r = -1 := find_past hg fun z hz => absurd (List.getElem?_eq_some_iff.1 hz).1 hlt
  have HZ := Lib.hid h2; clear h2
  generalize firstR9 V r = k at *
  have e0 : decide ((k : Int) < (V.length : Int)) = false := by simp; omega
  go_enter Tryz.func114, Tryz.ntmps114
  go_wp2_with fail
  refine K.out.mono ?_
  rintro e w1 ⟨rfl, h⟩
  have H1 := Lib.hid h; clear h
  go_wp2_with fail
  go_ret
  exact ⟨by rw [HZ.out]; rfl, H1.out⟩
end Go.Proofs.YtcajknjhkabhjaaGreatDoor
namespace Go.Proofs.YtcajknjhkabhjaaGreatDoor
open Go.RowKit
theorem has_none9 {V : List (Int × Int × List Iv)} {r : Int} (c : Int) (h : findV V r = -1) : hasV V r c = false := by
 unfold findV at h
 unfold hasV
 cases hf : V.findIdx? (fun x => decide (x.1 = r)) with
 | none => rfl
 | some k => rw [hf] at h; simp only at h; omega
theorem has_some9 {V : List (Int × Int × List Iv)} {r : Int} {k : Nat} {x : Int × Int × List Iv} (c : Int) (h : findV V r = (k : Int)) (hx : V[k]? = some x) : hasV V r c = hasE x.2.1 x.2.2 c := by
 unfold findV at h
 unfold hasV
 cases hf : V.findIdx? (fun x => decide (x.1 = r)) with
 | none => rw [hf] at h; simp only at h; omega
 | some j =>
   rw [hf] at h
   simp only at h
   obtain rfl : j = k := by omega
   simp only [hx]
theorem find_ways (V : List (Int × Int × List Iv)) (r : Int) : findV V r = -1 ∨ ∃ (k : Nat) (x : Int × Int × List Iv), findV V r = (k : Int) ∧ V[k]? = some x := by
 unfold findV
 cases hf : V.findIdx? (fun x => decide (x.1 = r)) with
 | none => exact .inl rfl
 | some k =>
   obtain ⟨hlt, _⟩ := List.findIdx?_eq_some_iff_getElem.1 hf
   exact .inr ⟨k, V[k], rfl, by simp [hlt]⟩
set_option maxRecDepth 100000 in
set_option maxHeartbeats 2000000 in
theorem vHas_any (V : List (Int × Int × List Iv)) (v : Value) (r c : Int) (w : World) (hv : VecM w v V) (hg : GoodV V) (h0 : 0 ≤ c) (h1 : c ≤ 18446744073709551615) : Calls Tryz.prog 70 #[v, .int .u64 r, .int .u64 c] w (IsEnd (hasV V r c) w) := by
 obtain ⟨p, cap, rfl⟩ := hv.shape
 have K := Lib.hid (vFind_any V _ r w hv hg.asc)
 have hlen := hv.len
 have HV := Lib.hid hv; clear hv
 rcases find_ways V r with hf | ⟨k, ⟨x, m, H⟩, hf, hx⟩
 ·rw [has_none9 c hf]
  rw [hf] at K
  clear hf hg h0 h1
  go_enter Tryz.func70, Tryz.ntmps70
  go_wp2_with fail
  refine K.out.mono ?_
  rintro e w1 ⟨rfl, h⟩
  have H1 := Lib.hid h; clear h
  go_wp2_with fail
  go_ret
  exact ⟨rfl, H1.out⟩
 ·rw [has_some9 c hf hx]
  rw [hf] at K
  obtain ⟨b, o, cp, q, n, ce, e, _⟩ := HV.out.elem hx
  cases e
  have hlt := (List.getElem?_eq_some_iff.1 hx).1
  have HX := Lib.hid hx
  have HGE := Lib.hid (hg.ent _ (List.mem_iff_getElem?.2 ⟨k, hx⟩)); clear hg hx hf
  have HC := Lib.hid (And.intro h0 h1); clear h0 h1
  have KH := Lib.hid eHas_any
  have i1 : (0 : Int) ≤ (k : Int) := by omega
  have i2 : (k : Int) < (V.length : Int) := by omega
  have e1 : ((k : Int) != -1) = true := bne_iff_ne.2 (by omega)
  dsimp only
  obtain ⟨bb, hbb⟩ : ∃ bb, hasE m H c = bb := ⟨_, rfl⟩
  rw [hbb]
  have HBB := Lib.hid hbb; clear hbb
  clear hlt
  go_enter Tryz.func70, Tryz.ntmps70
  go_wp2_with fail
  refine K.out.mono ?_
  rintro e w1 ⟨rfl, h⟩
  have H1 := Lib.hid h; clear h
  obtain ⟨b', o', cp', q', n', ce', ee, c0, c1, c2, ha⟩ := (HV.out.call H1.out).elem HX.out
  cases ee
  have HE := Lib.hid (show EntAt w1 (.slice q' n' ce') m H from ⟨ha, HGE.out⟩); clear ha
  go_wp2_with fail
  refine (KH.out x m H _ c _ HE.out HC.out.1 HC.out.2).mono ?_
  rintro e w2 ⟨rfl, h⟩
  have H2 := Lib.hid (below_call H1.out h); clear h
  rw [HBB.out]
  go_wp2_with fail
  go_ret
  exact ⟨rfl, H2.out⟩
end Go.Proofs.YtcajknjhkabhjaaGreatDoor
namespace Go.Proofs.YtcajknjhkabhjaaGreatDoor
open Go.RowKit
theorem soft_low9 {w : World} {B B' : Nat} {v : Value} {n : Nat} (h : SoftE w B v n) (hB : B' ≤ B) : SoftE w B' v n := by
 obtain ⟨p, cap, h1, h2, h3⟩ := h
 refine ⟨p, cap, h1, h2, fun hn => ?_⟩
 obtain ⟨g, o, h4, h5, h6⟩ := h3 hn
 exact ⟨g, o, h4, Nat.le_trans hB h5, h6⟩
theorem holes_le : ∀ (n : Nat) (m : Int) (H : List Iv), H.length = n → GoodE m H → (holesL (knownL m H)).length ≤ H.length
 | n, m, H, hn, hg => by
   rcases List.eq_nil_or_concat H with rfl | ⟨G, y, rfl⟩
   ·rw [(fin_of (m := m) (H := []) hg rfl rfl 0).2.2.1]
    exact Nat.le_refl _
   ·rw [List.concat_eq_append] at *
    by_cases hy : y.2 < m
    ·rw [(fin_of hg (trim_done hg hy) rfl 0).2.2.1]
     exact Nat.le_refl _
    ·by_cases h0 : y.1 = 0
     ·rw [trim_none hg hy h0]
      simp [holesL]
     ·obtain ⟨h1, h2⟩ := trim_step hg hy h0
      rw [← h2]
      have := holes_le G.length _ G rfl h1
      rw [List.length_append]
      omega
termination_by n => n
decreasing_by simp at hn; omega
def OutS (w : World) (B : Nat) (v : Value) (V : List (Int × Int × List Iv)) : Prop :=
 ∃ es : List (Int × Int × Value), es.length = V.length ∧ w.ownsRow B 51 3 v es.length (entC es) ∧ (∀ (i : Nat) (e : Int × Int × Value) (x : Int × Int × List Iv), es[i]? = some e → V[i]? = some x → e.1 = x.1 ∧ e.2.1 = x.2.1 ∧ HolE w B v.ownBlock e.2.2 x.2.2) ∧ ∀ e ∈ es, SaneE e.2.2
theorem OutS.nil (w : World) (B : Nat) : OutS w B (.slice none 0 0) [] := ⟨[], rfl, World.ownsRow_nil w B _ 3, fun i e x h => by simp at h, fun e h => by simp at h⟩
theorem OutS.shape {w : World} {B : Nat} {v : Value} {V : List (Int × Int × List Iv)} (h : OutS w B v V) : ∃ p cap, v = .slice p V.length cap := by
 obtain ⟨es, h1, h2, _⟩ := h
 obtain ⟨p, cap, e, _⟩ := own_shape h2
 exact ⟨p, cap, by rw [e, h1]⟩
theorem OutS.call {w w' : World} {B : Nat} {v : Value} {V : List (Int × Int × List Iv)} (h : OutS w B v V) (hb : Below w.heap.size w w') : OutS w' B v V := by
 obtain ⟨es, h1, h2, h3, h4⟩ := h
 exact ⟨es, h1, own_below h2 hb, fun i e x he hx => ⟨(h3 i e x he hx).1, (h3 i e x he hx).2.1, (h3 i e x he hx).2.2.call hb⟩, h4⟩
theorem OutS.push {w w2 : World} {B : Nat} {v v2 : Value} {es : List (Int × Int × Value)} {V : List (Int × Int × List Iv)} {r m : Int} {s : Value} {H : List Iv} (hel : es.length = V.length)
 (hall : ∀ (i : Nat) (e : Int × Int × Value) (x : Int × Int × List Iv), es[i]? = some e → V[i]? = some x → e.1 = x.1 ∧ e.2.1 = x.2.1 ∧ HolE w B v.ownBlock e.2.2 x.2.2)
 (hrow : w2.ownsRow B 51 3 v2 (es.length + 1) (entC es ++ [.int .u64 r, .int .u64 m, s])) (hg : w.grownBy w2 v.ownBlock) (hat : v2.ownBlock = v.ownBlock ∨ v2.ownBlock = some w.heap.size) (hx : HolE w B v.ownBlock s H) (hs : ∀ e ∈ es, SaneE e.2.2) (hss : SaneE s) : OutS w2 B v2 (V ++ [(r, m, H)]) := by
 refine ⟨es ++ [(r, m, s)], by rw [List.length_append, List.length_append, hel]; rfl, ?_, fun i e x he hx' => ?_, fun e he => ?_⟩
 ·rw [List.length_append, entC_app]; exact hrow
 ·by_cases hi : i < es.length
  ·rw [List.getElem?_append_left hi] at he
   rw [List.getElem?_append_left (by omega)] at hx'
   obtain ⟨h1, h2, h3⟩ := hall i e x he hx'
   exact ⟨h1, h2, h3.grown hg hat⟩
  ·rw [List.getElem?_append_right (by omega)] at he
   rw [List.getElem?_append_right (by omega)] at hx'
   have h0 : i - es.length = 0 := by
    have := (List.getElem?_eq_some_iff.1 he).1
    simpa using this
   have h0' : i - V.length = 0 := by omega
   rw [h0] at he; rw [h0'] at hx'
   obtain rfl : (r, m, s) = e := by simpa using he
   obtain rfl : (r, m, H) = x := by simpa using hx'
   exact ⟨rfl, rfl, hx.grown hg hat⟩
 ·rcases List.mem_append.1 he with h | h
  ·exact hs e h
  ·obtain rfl := List.mem_singleton.1 h
   exact hss
theorem sane_own {W : World} {B n sz : Nat} {t : TypeId} {v : Value} {xs : List Value} (h : W.ownsRow B t sz v n xs) : SaneE v := by
 rcases h.2 with ⟨h1, _⟩ | ⟨g, cap, cur, h1, _, _, hnc, _⟩
 ·refine ⟨fun n c e => ?_, fun a n c e => ?_⟩
  ·rw [e] at h1; cases h1; exact ⟨rfl, rfl⟩
  ·rw [e] at h1; cases h1
 ·refine ⟨fun n c e => ?_, fun a n c e => ?_⟩
  ·rw [e] at h1; cases h1
  ·rw [e] at h1; cases h1; exact hnc
theorem OutS.done {w : World} {B : Nat} {v : Value} {V : List (Int × Int × List Iv)} (h : OutS w B v V) (hl : V.length ≤ 100000) (hg : ∀ x ∈ V, (0 ≤ x.1 ∧ x.1 ≤ 18446744073709551615) ∧ All64 x.2.2 ∧ (0 ≤ x.2.1 ∧ x.2.1 ≤ 18446744073709551615) ∧ x.2.2.length ≤ 5000) :
 VecS w v V ∧ SoftW w B v (nsV V) := by
 obtain ⟨es, h1, h2, h3, h4⟩ := h
 refine ⟨⟨⟨⟨es, OutV.vecAt h2, h1, fun i e x he hx => ?_⟩, hl⟩, sane_own h2, fun x hx => (hg x hx).1⟩, ?_⟩
 ·obtain ⟨k1, k2, k3⟩ := h3 i e x he hx
  obtain ⟨g1, g2, g3, g4⟩ := hg x (List.mem_of_getElem? hx)
  exact ⟨k1, k2, k3.ivs, g2, h4 e (List.mem_of_getElem? he), g3.1, g3.2, g4⟩
 ·have hnl : (nsV V).length = es.length := by unfold nsV; rw [List.length_map, h1]
  have hrow := h2
  rcases h2.2 with ⟨rfl, h0⟩ | ⟨g, cap, cur, rfl, hbg, hgg, hnc, hcm, _⟩
  ·exact ⟨none, 0, by rw [hnl, h0], by rw [hnl, h0]; exact Nat.zero_le _, fun hne => absurd (List.eq_nil_of_length_eq_zero (by rw [hnl, h0])) hne⟩
  ·refine ⟨_, cap, by rw [hnl], by rw [hnl]; exact Nat.le_trans hnc hcm, fun _ => ⟨g, 0, rfl, hbg, fun i n hi => ?_⟩⟩
   have hilt : i < V.length := by have := (List.getElem?_eq_some_iff.1 hi).1; rw [hnl] at this; omega
   have hx : V[i]? = some V[i] := by simp [hilt]
   have he : es[i]? = some es[i] := by simp [show i < es.length by omega]
   obtain ⟨c0, c1, c2⟩ := own_cells3 hrow rfl i _ he
   obtain ⟨k1, k2, k3⟩ := h3 i _ _ he hx
   have hn : n = V[i].2.2.length := by unfold nsV at hi; rw [List.getElem?_map, hx] at hi; exact (Option.some.inj hi).symm
   subst hn
   exact ⟨⟨_, c0⟩, ⟨_, c1⟩, hrow.frozenAt _, hrow.frozenAt _, _, c2, k3.soft⟩
theorem canon_low {V : List (Int × Int × List Iv)} (hg : GoodV V) (h : ∀ x ∈ V, (0 ≤ x.1 ∧ x.1 ≤ 18446744073709551615) ∧ x.2.2.length ≤ 5000) : ∀ y ∈ canonV V, (0 ≤ y.1 ∧ y.1 ≤ 18446744073709551615) ∧ All64 y.2.2 ∧ (0 ≤ y.2.1 ∧ y.2.1 ≤ 18446744073709551615) ∧ y.2.2.length ≤ 5000 := by
 intro y hy
 obtain ⟨x, hx, hc⟩ := List.mem_filterMap.1 hy
 have hgx := hg.ent x hx
 obtain ⟨h1, h2, _⟩ := canE_some hgx hc
 have hlen : y.2.2.length ≤ x.2.2.length := by
  unfold canE at hc
  split at hc
  ·cases hc
  ·obtain rfl := Option.some.inj hc
   exact holes_le _ _ _ rfl hgx
 have := (h x hx).2
 refine ⟨by rw [h1]; exact (h x hx).1, ?_, ?_, by omega⟩
 ·exact h2.good.all
 ·exact ⟨h2.low, h2.top⟩
set_option maxRecDepth 100000 in
set_option maxHeartbeats 4000000 in
theorem vCanon_any (V : List (Int × Int × List Iv)) (v : Value) (w : World) (hv : VecS w v V) (hg : GoodV V) : Calls Tryz.prog 119 #[v] w (IsVN (canonV V) w) := by
 obtain ⟨i0, hi', hz0, hz1, hz2⟩ := info_parts infoE
 obtain ⟨p, cap, rfl⟩ := hv.m.shape
 have hlen := hv.m.len
 have hlow : ∀ x ∈ V, (0 ≤ x.1 ∧ x.1 ≤ 18446744073709551615) ∧ x.2.2.length ≤ 5000 := fun x hx => ⟨hv.rng x hx, by
  obtain ⟨i, hi⟩ := List.mem_iff_getElem?.1 hx
  obtain ⟨_, _, _, _, _, _, _, _, _, _, ha⟩ := hv.m.elem hi
  exact ha.len⟩
 have HFIN : Hid (∀ y ∈ canonV V, (0 ≤ y.1 ∧ y.1 ≤ 18446744073709551615) ∧ All64 y.2.2 ∧ (0 ≤ y.2.1 ∧ y.2.1 ≤ 18446744073709551615) ∧ y.2.2.length ≤ 5000) := Lib.hid (canon_low hg hlow)
 have HV := Lib.hid hv.m; clear hv hlow
 have HG := Lib.hid hg; clear hg
 have KE := Lib.hid eCanon_any
 go_enter Tryz.func119, Tryz.ntmps119
 go_wp2_with fail
 go_loopw [3, 10] (fun vo i wr => ∃ k : Nat, i = .int .i64 k ∧ k ≤ V.length ∧ OutS wr w.heap.size vo (canonV (V.take k)) ∧ Below w.heap.size w wr) (fun _ i _ => V.length - (intOf i).toNat)
 case atStart => exact ⟨0, rfl, Nat.zero_le _, OutS.nil _ _, Below.refl _ _⟩
 case round =>
  obtain ⟨k, rfl, hk, hout, hb⟩ := hrel
  obtain ⟨pv, cv, rfl⟩ := hout.shape
  have HB := Lib.hid hb; clear hb
  have hszw := HB.out.size
  by_cases hlt : k < V.length
  ·obtain ⟨⟨r, m, H⟩, hx⟩ : ∃ x, V[k]? = some x := ⟨V[k], by simp [hlt]⟩
   obtain ⟨b, o, cp, q, n, c, e, c0, c1, c2, ha⟩ := (HV.out.call HB.out).elem hx
   cases e
   obtain ⟨_, _, es, _⟩ := ha.at'.shape
   cases es
   have hge := HG.out.ent _ (List.mem_iff_getElem?.2 ⟨k, hx⟩)
   have hbn := below_new wr (.cells #[.int .u64 r, .int .u64 m, .slice q H.length c] 51)
   have K := Lib.hid (KE.out r m H (.slice q H.length c) _ ⟨ha.call hbn, hge⟩)
   have HBN := Lib.hid hbn; clear hbn
   have hcl := canonV_len (V.take k)
   rw [List.length_take] at hcl
   have HC := Lib.hid (And.intro (canonV_snoc hx) (show (canonV (V.take k)).length ≤ 100000 by omega))
   have i1 : (0 : Int) ≤ (k : Int) := by omega
   have i2 : (k : Int) < (V.length : Int) := by omega
   clear ha hge hx hcl
   generalize knownL m H = KK at *
   generalize canonV (V.take k) = P at *
   go_wp2_with fail
   refine K.out.mono ?_
   rintro e w1 ⟨vc, rfl, hvc, hsa, hso, h⟩
   obtain ⟨pc, cc, rfl, _⟩ := hvc.shape
   have HH := Lib.hid (And.intro hvc (And.intro hsa (soft_low9 hso HBN.out.size))); clear hvc hso hsa
   have H1 := Lib.hid (below_call HBN.out h); clear h c0 c1 c2
   by_cases hK : KK = []
   ·have e1 : someE KK = false := by rw [hK]; rfl
    rw [e1]
    have hb2 := below_new w1 (.cells #[.int .u64 (repE r KK), .int .u64 (topL KK), .slice pc (holesL KK).length cc] 51)
    have HB2 := Lib.hid (below_call H1.out hb2); clear hb2
    have HO := Lib.hid hout; clear hout
    have HC' := Lib.hid (HC.out.1.trans (if_pos hK)); clear HC hK
    generalize repE r KK = rr at *
    generalize topL KK = tt at *
    generalize (holesL KK).length = ll at *
    go_wp2_with fail
    go_roundw
    case rel => exact ⟨k + 1, by go_num, by omega, by rw [HC'.out]; exact HO.out.call HB2.out, below_call HB.out HB2.out⟩
    case measure => simp [intOf]; omega
   ·have e1 : someE KK = true := some9_of hK
    rw [e1]
    have HC' := Lib.hid (And.intro (HC.out.1.trans (if_neg hK)) HC.out.2); clear HC hK
    generalize repE r KK = rr at *
    generalize topL KK = tt at *
    generalize holesL KK = hh at *
    obtain ⟨w2, hw2⟩ : ∃ w2, w1.alloc (.cells #[.int .u64 rr, .int .u64 tt, .slice pc hh.length cc] 51) = w2 := ⟨_, rfl⟩
    have e3 : E3 w2 w1.heap.size rr tt (.slice pc hh.length cc) := hw2 ▸ E3.new w1 rr tt (.slice pc hh.length cc) 51 _ rfl
    have hb2 : Below w1.heap.size w1 w2 := hw2 ▸ below_new w1 _
    obtain ⟨t0, t1, t2⟩ := e3
    have HB2 := Lib.hid (below_call H1.out hb2)
    obtain ⟨es, hel, hrow, hall, hsan⟩ := hout
    have HROW := Lib.hid hrow
    have HALL := Lib.hid (And.intro hall hsan)
    have HAP := Lib.hid (fun h0 => own_apart hrow HH.out.2.2 h0)
    have HH2 := Lib.hid (And.intro (HH.out.1.call hb2) (And.intro (soft_low9 (HH.out.2.2.call hb2) hszw) HH.out.2.1))
    clear hrow hall hsan hb2 HH
    have hel2 : es.length ≤ 100000 := by rw [hel]; exact HC'.out.2
    have HSZ := Lib.hid (Nat.le_trans hszw HB2.out.size)
    go_wp2_with (at_builtin; go_loud (refine wpList_append_own_at _ rfl _ _ 47 rfl w.heap.size 51 i0 (.agg #[.int .u64 0, .int .u64 0, .slice none 0 0]) 3 40 Tryz.underlying47 hi' hz0 hz1 hz2 rfl (by decide) _ es.length (entC es) rfl (own_below HROW.out (below_call HB2.out (below_new _ _))) ⟨w2.heap.size, 0, none⟩ 1 1 [.int .u64 rr, .int .u64 tt, .slice pc hh.length cc] rfl rfl (cell_three9 _ _ _ _ _ _ rfl) (by simp [Value.oneCell']) (by unfold maxLen; omega) (by omega) (Nat.le_trans HSZ.out (below_new _ _).size) ?_; intro v' w4 hown' hgrow _ hat; have HN := Lib.hid (below_new w2 (.cells #[.int .u64 rr, .int .u64 tt, .slice pc hh.length cc] 51)); have HW4 := Lib.hid (own_grown (below_call HB.out (below_call HB2.out HN.out)) (own_below HROW.out (below_call HB2.out HN.out)) hgrow (Nat.le_trans HSZ.out HN.out.size)); have HP := Lib.hid (OutS.push hel (fun i e x he hx => ⟨(HALL.out.1 i e x he hx).1, (HALL.out.1 i e x he hx).2.1, (HALL.out.1 i e x he hx).2.2.call (below_call HB2.out HN.out)⟩) hown' hgrow hat (⟨HH2.out.1.call HN.out, HH2.out.2.1.call HN.out, HAP.out⟩ : HolE _ _ _ _ hh) HALL.out.2 HH2.out.2.2); clear hown' hgrow hat))
    go_roundw
    case rel => exact ⟨k + 1, by go_num, by omega, by rw [HC'.out.1]; exact HP.out, HW4.out⟩
    case measure => simp [intOf]; omega
  ·obtain rfl : k = V.length := by omega
   rw [List.take_of_length_le (Nat.le_refl _)] at hout ⊢
   have HO := Lib.hid hout; clear hout
   have HCL := Lib.hid (canonV_len V)
   have HFL := Lib.hid HFIN.out
   go_wp2_with fail
   go_ret
   obtain ⟨s1, s2⟩ := HO.out.done (by have := HCL.out; omega) HFL.out
   exact ⟨_, rfl, s1, s2, HB.out⟩
end Go.Proofs.YtcajknjhkabhjaaGreatDoor
namespace Go.Proofs.YtcajknjhkabhjaaGreatDoor
open Go.RowKit
theorem SoftW.call {w w' : World} {B : Nat} {v : Value} {ns : List Nat} (h : SoftW w B v ns) (hb : Below w.heap.size w w') : SoftW w' B v ns := by
 obtain ⟨p, cap, h1, h2, h3⟩ := h
 refine ⟨p, cap, h1, h2, fun hne => ?_⟩
 obtain ⟨b, o, h5, hB, h6⟩ := h3 hne
 refine ⟨b, o, h5, hB, fun i n hi => ?_⟩
 obtain ⟨⟨z, hz⟩, ⟨y, hy⟩, f0, f1, s, hs, hso⟩ := h6 i n hi
 exact ⟨⟨z, keep_cell hz hb⟩, ⟨y, keep_cell hy hb⟩, keep_free f0 (World.block_lt_of_cell? w _ hz) hb, keep_free f1 (World.block_lt_of_cell? w _ hy) hb, s, keep_cell hs hb, hso.call hb⟩
theorem kept_slice {w : World} {a c : Addr} {k : IntKind} {z : Int} {p : Option Addr} {n m : Nat} (ha : w.cell? a = some (.int k z)) (hc : w.cell? c = some (.slice p n m)) (y : Value) : (w.setCell a y).cell? c = some (.slice p n m) := by
 rw [World.cell?_setCell_other _ _ _ _ (fun e => by rw [e, hc] at ha; cases ha)]; exact hc
theorem int_set {w : World} {a c : Addr} {y : Int} (h : ∃ z : Int, w.cell? c = some (.int .u64 z)) : ∃ z : Int, (w.setCell a (.int .u64 y)).cell? c = some (.int .u64 z) := by
 obtain ⟨z, hz⟩ := h
 by_cases he : a = c
 ·subst he; exact ⟨y, World.cell?_setCell_same' _ _ _ (by rw [hz]; rfl)⟩
 ·exact ⟨z, by rw [World.cell?_setCell_other _ _ _ _ he]; exact hz⟩
theorem SoftE.setI {w : World} {B : Nat} {v : Value} {n : Nat} (h : SoftE w B v n) (a : Addr) (y : Int) : SoftE (w.setCell a (.int .u64 y)) B v n := by
 obtain ⟨p, cap, h1, h2, h3⟩ := h
 refine ⟨p, cap, h1, h2, fun hn => ?_⟩
 obtain ⟨g, o, h4, h5, h6⟩ := h3 hn
 refine ⟨g, o, h4, h5, fun i hi => ?_⟩
 obtain ⟨⟨hz, hf⟩, hy, hg⟩ := h6 i hi
 exact ⟨⟨int_set hz, by rw [World.frozen?_setCell]; exact hf⟩, int_set hy, by rw [World.frozen?_setCell]; exact hg⟩
theorem SoftW.setI {w : World} {B : Nat} {v : Value} {ns : List Nat} (h : SoftW w B v ns) {a : Addr} {z : Int} (hz : w.cell? a = some (.int .u64 z)) (y : Int) : SoftW (w.setCell a (.int .u64 y)) B v ns := by
 obtain ⟨p, cap, h1, h2, h3⟩ := h
 refine ⟨p, cap, h1, h2, fun hne => ?_⟩
 obtain ⟨b, o, h5, hB, h6⟩ := h3 hne
 refine ⟨b, o, h5, hB, fun i n hi => ?_⟩
 obtain ⟨k0, k1, f0, f1, s, hs, hso⟩ := h6 i n hi
 refine ⟨int_set k0, int_set k1, by rw [World.frozen?_setCell]; exact f0, by rw [World.frozen?_setCell]; exact f1, s, ?_, hso.setI _ _⟩
 obtain ⟨q, c, e, _⟩ := hso
 rw [e] at hs ⊢
 exact kept_slice hz hs _
theorem SoftW.at {w : World} {B : Nat} {v : Value} {ns : List Nat} (h : SoftW w B v ns) {i n : Nat} (hi : ns[i]? = some n) : ∃ b o m cap z z' p c, v = .slice (some ⟨b, o, none⟩) m cap ∧ B ≤ b ∧ w.cell? ⟨b, o + i * 3, none⟩ = some (.int .u64 z) ∧ w.cell? ⟨b, o + i * 3 + 1, none⟩ = some (.int .u64 z') ∧
 w.frozen? ⟨b, o + i * 3, none⟩ = false ∧ w.frozen? ⟨b, o + i * 3 + 1, none⟩ = false ∧ w.cell? ⟨b, o + i * 3 + 2, none⟩ = some (.slice p n c) ∧ SoftE w B (.slice p n c) n := by
 obtain ⟨p, cap, h1, _, h3⟩ := h
 obtain ⟨b, o, rfl, hB, h6⟩ := h3 (by intro e; rw [e] at hi; simp at hi)
 obtain ⟨⟨z, hz⟩, ⟨y, hy⟩, f0, f1, s, hs, hso⟩ := h6 i n hi
 have hso' := hso
 obtain ⟨q, c, e, _⟩ := hso
 subst e
 exact ⟨b, o, _, cap, z, y, q, c, h1, hB, hz, hy, f0, f1, hs, hso'⟩
theorem SoftE.at {w : World} {B : Nat} {p : Option Addr} {n c : Nat} (h : SoftE w B (.slice p n c) n) {j : Nat} (hj : j < n) : ∃ g o z z', p = some ⟨g, o, none⟩ ∧ B ≤ g ∧ w.cell? ⟨g, o + j * 2, none⟩ = some (.int .u64 z) ∧ w.frozen? ⟨g, o + j * 2, none⟩ = false ∧ w.cell? ⟨g, o + j * 2 + 1, none⟩ = some (.int .u64 z') ∧ w.frozen? ⟨g, o + j * 2 + 1, none⟩ = false := by
 obtain ⟨p', cap, h1, _, h3⟩ := h
 cases h1
 obtain ⟨g, o, rfl, hB, h6⟩ := h3 (by omega)
 obtain ⟨⟨⟨z, hz⟩, hf⟩, ⟨y, hy⟩, hg⟩ := h6 j hj
 exact ⟨g, o, z, y, rfl, hB, hz, hf, hy, hg⟩
end Go.Proofs.YtcajknjhkabhjaaGreatDoor
