/- The number with a rank and the index of its interval, as package measure finds them. Conditions: the list is correct, at most 20000 intervals. -/
import Derived.Test.YtnihmmhmndgagaaMFind
import Derived.Test.YtnihmmhmndgagaaVBreak
import Derived.Test.YtnihmmhmndgagaaCells
namespace Go.Proofs.Ytnihmmhmndgagaa
open Go.RowKit Go.Shelf
attribute [local go_sem] Oper.semAt_some
theorem rk_cons (z : Iv) (l : List Iv) (j : Nat) : rk (z :: l) (j + 1) = (z.2 - z.1 + 1) + rk l j := rfl
theorem nth_at : ∀ {l : List Iv} {i : Nat} {y : Iv} {n : Int}, (∀ z ∈ l, z.1 ≤ z.2) → l[i]? = some y → rk l i ≤ n → n < rk l (i + 1) → nthL l n = some (y.1 + (n - rk l i))
  | [], i, y, n, _, h, _, _ => by simp at h
  | z :: l, 0, y, n, ho, h, h1, h2 => by
    obtain rfl : z = y := by simpa using h
    rw [rk_cons, rk_zero] at h2
    rw [rk_zero]
    unfold nthL
    rw [if_pos (by omega)]
    simp
  | z :: l, j + 1, y, n, ho, h, h1, h2 => by
    have hz := ho z (by simp)
    have hl : ∀ u ∈ l, u.1 ≤ u.2 := fun u hu => ho u (by simp [hu])
    have hn : 0 ≤ rk l j := cnt_nn fun u hu => hl u (List.mem_of_mem_take hu)
    rw [rk_cons] at h1 h2
    rw [rk_cons]
    unfold nthL
    rw [if_neg (by omega), nth_at (n := n - (z.2 - z.1) - 1) hl (by simpa using h) (by omega) (by omega)]
    congr 1; omega
theorem nth_gone {l : List Iv} {n : Int} (ho : ∀ z ∈ l, z.1 ≤ z.2) (h0 : 0 ≤ n) (h : cntL l ≤ n) : nthL l n = none := by
  have := nth_lt ho h0
  cases e : nthL l n with
  | none => rfl
  | some x => rw [e] at this; simp at this; omega
/-- Where the number with a rank lies. -/
def Here (l : List Iv) (n : Int) (i : Nat) (v : Int) : Prop := ∃ y, l[i]? = some y ∧ rk l i ≤ n ∧ n < rk l (i + 1) ∧ v = y.1 + (n - rk l i)
/-- What find returns. -/
def IsFd (l : List Iv) (n : Int) (w : World) (e : Ending) (w' : World) : Prop :=
  ((∃ i v, Here l n i v ∧ e = .returned (.tuple #[.int .u64 v, .int .i64 i, .bool true])) ∨ (cntL l ≤ n ∧ e = .returned (.tuple #[.int .u64 0, .int .i64 0, .bool false]))) ∧ Below w.heap.size w w'
theorem res_cell3 {fn : Func} {p1 p2 p3 : Tmp} {t1 t2 t3 : TypeId} (h : fn.results = #[.cell p1 t1, .cell p2 t2, .cell p3 t3]) (tmps : Array Value) (P : Program) (w : World) (a1 a2 a3 : Addr) (x1 x2 x3 : Value)
    (h1 : tmps.getD p1 undef = .pointer (some a1)) (h2 : tmps.getD p2 undef = .pointer (some a2)) (h3 : tmps.getD p3 undef = .pointer (some a3))
    (k1 : (loadVar t1 a1).run P w = .ok x1 w) (k2 : (loadVar t2 a2).run P w = .ok x2 w) (k3 : (loadVar t3 a3).run P w = .ok x3 w) : (results fn tmps).run P w = .ok (.tuple #[x1, x2, x3]) w := by
  have ha : ∀ (v : Value) (c : Addr), v = .pointer (some c) → (asAddr v).run P w = .ok c w := fun v c e => by subst e; rfl
  have e1 : (asAddr (tmps[p1]?.getD undef)).run P w = .ok a1 w := by simpa using ha _ _ h1
  have e2 : (asAddr (tmps[p2]?.getD undef)).run P w = .ok a2 w := by simpa using ha _ _ h2
  have e3 : (asAddr (tmps[p3]?.getD undef)).run P w = .ok a3 w := by simpa using ha _ _ h3
  simp only [results, h]
  simp [Sem.run_bind, Result.andThen, e1, e2, e3, k1, k2, k3]
theorem loadU {W : World} {b : Nat} {v : Value} (h : Boxed W b 24 v) : (loadVar 24 ⟨b, 0, none⟩).run Try.prog W = .ok v W := by
  have hc := h.cell
  have h2 := Try.isAgg24
  go_simp
theorem loadI {W : World} {b : Nat} {v : Value} (h : Boxed W b 3 v) : (loadVar 3 ⟨b, 0, none⟩).run Try.prog W = .ok v W := by
  have hc := h.cell
  have h2 := Try.isAgg3
  go_simp
theorem loadO {W : World} {b : Nat} {v : Value} (h : Boxed W b 4 v) : (loadVar 4 ⟨b, 0, none⟩).run Try.prog W = .ok v W := by
  have hc := h.cell
  have h2 := Try.isAgg4
  go_simp
/-- The memory of find: the rank, the three results. -/
structure FdI (w : World) (h : Nat) (n a i : Int) (b : Bool) (W : World) : Prop where
  num : Boxed W h 24 (.int .u64 n)
  rx : Boxed W (h + 1) 24 (.int .u64 a)
  ri : Boxed W (h + 2) 3 (.int .i64 i)
  ro : Boxed W (h + 3) 4 (.bool b)
  below : Below h w W
section
variable {w : World} {h : Nat} {n a i : Int} {b : Bool} {A B : World}
theorem FdI.apart {p : Nat → Prop} (hs : FdI w h n a i b A) (hw : h ≤ w.heap.size) (hb : Apart p A B) (h0 : ∀ k, k ≤ h + 3 → ¬ p k) : FdI w h n a i b B :=
  ⟨hb.boxed hs.num (h0 _ (by omega)), hb.boxed hs.rx (h0 _ (by omega)), hb.boxed hs.ri (h0 _ (by omega)), hb.boxed hs.ro (h0 _ (by omega)), hs.below.trans (hb.below (Nat.le_trans hw hs.below.size) fun k hk => h0 k (by omega))⟩
theorem FdI.set1 (hs : FdI w h n a i b A) (v : Int) : FdI w h n v i b (A.setCell ⟨h + 1, 0, none⟩ (.int .u64 v)) :=
  ⟨hs.num.other (by omega) _, hs.rx.set _, hs.ri.other (by omega) _, hs.ro.other (by omega) _, hs.below.setCell (p := ⟨h + 1, 0, none⟩) (Nat.le_succ _) _⟩
theorem FdI.set2 (hs : FdI w h n a i b A) (v : Int) : FdI w h n a v b (A.setCell ⟨h + 2, 0, none⟩ (.int .i64 v)) :=
  ⟨hs.num.other (by omega) _, hs.rx.other (by omega) _, hs.ri.set _, hs.ro.other (by omega) _, hs.below.setCell (p := ⟨h + 2, 0, none⟩) (Nat.le_add_right _ _) _⟩
theorem FdI.set3 (hs : FdI w h n a i b A) (v : Bool) : FdI w h n a i v (A.setCell ⟨h + 3, 0, none⟩ (.bool v)) :=
  ⟨hs.num.other (by omega) _, hs.rx.other (by omega) _, hs.ri.other (by omega) _, hs.ro.set _, hs.below.setCell (p := ⟨h + 3, 0, none⟩) (Nat.le_add_right _ _) _⟩
end
/-- What a round's region reads and keeps. -/
structure FdS (w W : World) (h bx : Nat) (lo n r j : Int) (w' : World) : Prop where
  ap : Apart (fun k => h + 1 ≤ k ∧ k ≤ h + 3) W w'
  c0 : w'.cell? ⟨bx, 0, none⟩ = some (.int .u64 lo)
  c2 : w'.cell? ⟨bx, 2, none⟩ = some (.int .i64 j)
  c4 : w'.cell? ⟨bx, 4, none⟩ = some (.int .u64 r)
  cx : w'.cell? ⟨h, 0, none⟩ = some (.int .u64 n)
  cur : ∃ a i b, FdI w h n a i b w'
theorem FdS.go {w W A B : World} {h bx : Nat} {lo n r j : Int} (hs : FdS w W h bx lo n r j A) (hb : Apart (fun k => h + 1 ≤ k ∧ k ≤ h + 3) A B) (hbn : h + 3 < bx) (hc : ∃ a i b, FdI w h n a i b B) : FdS w W h bx lo n r j B :=
  ⟨hs.ap.trans hb, hb.cell hs.c0 (by dsimp only; omega), hb.cell hs.c2 (by dsimp only; omega), hb.cell hs.c4 (by dsimp only; omega), hb.cell hs.cx (by dsimp only; omega), hc⟩
set_option maxRecDepth 100000 in
set_option maxHeartbeats 8000000 in
theorem mSeek_any (l : List Iv) (s : Value) (n : Int) (w : World) (ha : OpAt w s l) (hn0 : 0 ≤ n) (hn1 : n ≤ 18446744073709551615) : Calls Try.prog 30 #[s, .int .u64 n] w (IsFd l n w) := by
  refine (callsIn_wide (n := 5)).1 ?_
  obtain ⟨p, cp, rfl, _⟩ := ha.at'.shape
  obtain ⟨h, hh⟩ : ∃ h, w.heap.size = h := ⟨_, rfl⟩
  have HA := Lib.hid ha; clear ha
  have HH := Lib.hid hh; clear hh
  refine callsIn_of_wp_marks Try.func30 rfl trivial ?_ rfl
  simp only [Try.ntmps30, List.size_toArray, List.length_cons, List.length_nil, Nat.reduceAdd, Nat.reduceSub, Array.replicate_succ, Array.replicate_zero, List.push_toArray, List.append_toArray, List.nil_append, List.cons_append]
  have KC := Lib.hid parts_call
  gi_wp2_with (refine ⟨trivial, ?_⟩; gi_at_call 28; refine (callsIn_wide.2 (KC.out _ _ _ _)).mono ?_; rintro e w' ⟨rfl, hw⟩; obtain rfl := hw)
  obtain ⟨w5, hw5⟩ : ∃ w5, ((((w.alloc (.cells #[.int .u64 n] 24)).alloc (.cells #[.int .u64 0] 24)).alloc (.cells #[.int .i64 0] 3)).alloc (.cells #[.bool false] 4)).alloc (.cells #[.slice p l.length cp] 23) = w5 := ⟨_, rfl⟩
  have hb5 : Below h w w5 := HH.out ▸ hw5 ▸ below_alloc (below_alloc (below_alloc (below_alloc (below_new w _) _) _) _) _
  have hs5 : w5.heap.size = h + 5 := by rw [← hw5, ← HH.out]; simp
  have hi5 : FdI w h n 0 0 false w5 := by
    have b1 := Boxed.new (w.alloc (.cells #[.int .u64 n] 24)) 24 (.int .u64 0)
    have b2 := Boxed.new ((w.alloc (.cells #[.int .u64 n] 24)).alloc (.cells #[.int .u64 0] 24)) 3 (.int .i64 0)
    have b3 := Boxed.new (((w.alloc (.cells #[.int .u64 n] 24)).alloc (.cells #[.int .u64 0] 24)).alloc (.cells #[.int .i64 0] 3)) 4 (.bool false)
    simp only [World.size_alloc] at b1 b2 b3
    rw [← hw5, ← HH.out]
    rw [← hw5, ← HH.out] at hb5
    exact ⟨((((Boxed.new w 24 (.int .u64 n)).alloc _).alloc _).alloc _).alloc _, ((b1.alloc _).alloc _).alloc _, (b2.alloc _).alloc _, b3.alloc _, hb5⟩
  have hx5 : w5.cell? ⟨h + 4, 0, none⟩ = some (.slice p l.length cp) := by rw [← hw5, ← HH.out, World.cell?_alloc_at _ _ _ _ (by simp)]; rfl
  have ho5 := HA.out.call (hb5.mono (Nat.le_of_eq HH.out))
  rw [hw5, HH.out]
  clear hw5
  have HO5 := Lib.hid ho5; clear ho5
  have hwh : h ≤ w.heap.size := Nat.le_of_eq HH.out.symm
  refine range_x (n := 5) (by omega) (gf := 38) (lb := #[.pointer (some ⟨h + 4, 0, none⟩)]) (encs := encP l) (L := List.range l.length) (own := fun k => k = h + 7) (keep := fun k => k < h ∨ k = h + 4 ∨ k = h + 7) (lo := h + 8)
    rfl (enters_of Try.func38 (by kernel_rfl) rfl) (fun _ => rfl) (fun k hk => by omega) (fun k hk => by omega)
    (fun W hsW hb => by
      have h5 : W.heap.size = h + 7 := by omega
      have := parts_iter 4 (by omega) (h + 4) _ l (fun k => k < h ∨ k = h + 4 ∨ k = h + 7) W (by omega) (by omega) (KeptL.of HA.out fun k hk => .inl (by have := HH.out; omega)) (keep_cell hx5 hb) (HO5.out.call hb)
      rwa [h5] at this)
    (fun front W => rk l front.length ≤ n ∧ FdI w h n 0 0 false W) (fun W => ∃ i v, Here l n i v ∧ FdI w h n v i true W) (fun k => k = h + 5 ∨ k = h + 5 + 1 ∨ k = h + 7) (by omega) (fun k hk => .inr (.inr hk))
    (fun front A B hI hab => ⟨hI.1, hI.2.apart hwh hab (fun k hk => by omega)⟩) (fun A B hI hab => by obtain ⟨i, v, h1, h2⟩ := hI; exact ⟨i, v, h1, h2.apart hwh hab (fun k hk => by omega)⟩)
    ⟨by rw [List.length_nil, rk_zero]; exact hn0, hi5⟩
    (fun z i a' W => ∃ Bx, z ≤ Bx ∧ PtAt Bx l i W ∧ a' = { tmps := #[.slice p l.length cp, .int .u64 n, undef, .pointer (some ⟨h, 0, none⟩), .pointer (some ⟨h + 1, 0, none⟩), .pointer (some ⟨h + 2, 0, none⟩), .pointer (some ⟨h + 3, 0, none⟩), .pointer (some ⟨Bx, 0, none⟩), .slice p l.length cp, .func (.func 38) #[] #[.pointer (some ⟨h + 4, 0, none⟩)], .agg #[.int .u64 (pLo l i), .int .u64 (pHi l i), .int .i64 i, .int .u64 (rk l i / 18446744073709551616), .int .u64 (rk l i % 18446744073709551616), .int .u64 (rk l (i + 1) / 18446744073709551616), .int .u64 (rk l (i + 1) % 18446744073709551616)], undef, undef, undef, undef, undef, undef, undef, undef, undef, undef, undef, undef, undef, undef, undef, undef, undef], defers := [] })
    (fun z i a' A B hz _ hx hab => by
      obtain ⟨Bx, h1, h2, h3⟩ := hx
      exact ⟨Bx, h1, h2.apart hab (by omega), h3⟩) ?assign ?body ?done ?stop
  case assign =>
    rintro l2 front i A0 W K _ hap _ hz hK
    unfold encP
    have hz2 := hap.size
    gi_wp2
    exact hK _ _ (below_new _ _) ⟨W.heap.size, hz2, PtAt.new _ _ _ _, rfl⟩
  case body =>
    rintro l2 front i a' A0 W ⟨hle, hI⟩ hap ⟨Bx, hzB, hpt, rfl⟩ hpre hlo _
    have hIW := hI.apart hwh hap (fun k hk => by omega)
    obtain ⟨hin, rfl⟩ := prefix_range hpre
    rw [List.length_range] at hle
    have hy : l[i]? = some l[i] := by simp [hin]
    have hplo : pLo l i = l[i].1 := by unfold pLo; rw [List.getD_eq_getElem?_getD, hy]; rfl
    have hord := HA.out.good.ord6 _ (List.mem_of_getElem? hy)
    obtain ⟨⟨g0, g1⟩, g2, g3⟩ := HA.out.good.all.at hy
    have hrs := rk_succ hy
    have hrn := rk_nn HA.out.good i
    have hhere : n < rk l (i + 1) → Here l n i (pLo l i + (n - rk l i)) := fun hlt => ⟨_, hy, hle, hlt, by rw [hplo]⟩
    have hval : n < rk l (i + 1) → IntKind.u64.wrap (pLo l i + IntKind.u64.wrap (n - rk l i % 18446744073709551616)) = pLo l i + (n - rk l i) := fun hlt => by
      rw [Int.emod_eq_of_lt hrn (by omega), w_wrap_u64, w_wrap_u64, Int.emod_eq_of_lt (by omega) (by omega), Int.emod_eq_of_lt (by omega) (by omega)]
    have hcm : ∀ W, Calls Try.prog 24 #[.agg #[.int .u64 0, .int .u64 n], .agg #[.int .u64 (rk l (i + 1) / 18446744073709551616), .int .u64 (rk l (i + 1) % 18446744073709551616)]] W (fun e w' => e = .returned (.int .i64 (cV n (rk l (i + 1)))) ∧ Below W.heap.size W w') := fun W => w_compare_any _ _ _ _ W
    have hn2 := rk_nn HA.out.good (i + 1)
    have HIW := Lib.hid hIW; clear hIW hI
    have HX := Lib.hid hpre; clear hpre
    have HAP := Lib.hid hap; clear hap
    have HS5 := Lib.hid hs5; clear hs5
    have HN : Hid ((List.range i ++ [i]).length = i + 1) := Lib.hid (by simp)
    have HPT := Lib.hid hpt
    have HBH : Hid (h + 3 < Bx) := Lib.hid (by omega)
    have cx := HIW.out.num.cell
    obtain ⟨p0, p1, p2, p3, p4, p5, p6⟩ := hpt
    clear p1 p3 hplo hord hy g0 g1 g2 g3 hrs
    by_cases hlt : n < rk l (i + 1)
    · have hcv : decide (cV n (rk l (i + 1)) < 0) = true := decide_eq_true (cV_lt hn0 hlt)
      have HV := Lib.hid (hval hlt)
      have HR := Lib.hid (hhere hlt)
      clear hval hhere hlt hle hrn hn2
      obtain ⟨r, hr⟩ : ∃ r, rk l i % 18446744073709551616 = r := ⟨_, rfl⟩
      obtain ⟨q', hq'⟩ : ∃ q', rk l (i + 1) / 18446744073709551616 = q' := ⟨_, rfl⟩
      obtain ⟨r', hr'⟩ : ∃ r', rk l (i + 1) % 18446744073709551616 = r' := ⟨_, rfl⟩
      rw [hq', hr'] at hcm
      rw [hr] at p4 HV
      rw [hq'] at p5
      rw [hr'] at p6
      rw [hr, hq', hr']
      clear hr hq' hr'
      have KM := Lib.hid hcm; clear hcm
      generalize cV n (rk l (i + 1)) = cv at *
      gi_wp2_with (refine ⟨trivial, ?_⟩; gi_at_call 24; refine (CallsIn.inRound l2 (callsIn_wide.2 (KM.out W))).mono ?_; rintro e w1 ⟨rfl, hb1⟩; have HB1 := Lib.hid hb1; clear hb1)
      have HF1 : Hid (FdI w h n 0 0 false w1) := Lib.hid (HIW.out.apart hwh (Apart.of_below (fun _ => False) HB1.out) (fun _ _ h => h))
      have HSS : Hid (FdS w w1 h Bx (pLo l i) n r i w1.drew) := Lib.hid ⟨Apart.drew _ _, keep_cell p0 HB1.out.drew, keep_cell p2 HB1.out.drew, keep_cell p4 HB1.out.drew, keep_cell cx HB1.out.drew, _, _, _, HF1.out.apart hwh (Apart.drew (fun _ => False) _) (fun _ _ h => h)⟩
      refine wpIn_region_round (S := FdS w w1 h Bx (pLo l i) n r i) (by kernel_rfl) (by kernel_rfl) (fun ⟨_, _, h⟩ => h) HSS.out (fun hHeld => ?_)
      refine rtake (i := 0) (v := ?_) { dst := some 17, op := Op.fieldAddr 52 (Operand.tmp 7) 0, type := 0, pos := _, after := #[], guard := none } rfl (by kernel_rfl) (by kernel_rfl) (by kernel_rfl) (fun _ _ _ h => h) (by rfl) hHeld ?_ ?_
      rotate_left
      · intro wS hSw; have k0 := hSw.c0; have k2 := hSw.c2; have k4 := hSw.c4; have kx := hSw.cx; clear hSw; go_simp <;> with_reducible rfl
      try simp only [Act.put, List.setIfInBounds_toArray, List.set_cons_zero, List.set_cons_succ]
      refine rtake (i := 1) (v := ?_) { dst := some 18, op := Op.fieldAddr 37 (Operand.tmp 17) 0, type := 0, pos := _, after := #[{ on := 0, ground := Ground.data }], guard := none } rfl (by kernel_rfl) (by kernel_rfl) (by kernel_rfl) (fun _ _ _ h => h) (by rfl) hHeld ?_ ?_
      rotate_left
      · intro wS hSw; have k0 := hSw.c0; have k2 := hSw.c2; have k4 := hSw.c4; have kx := hSw.cx; clear hSw; go_simp <;> with_reducible rfl
      try simp only [Act.put, List.setIfInBounds_toArray, List.set_cons_zero, List.set_cons_succ]
      refine rtake (i := 2) (v := ?_) { dst := some 19, op := Op.load 24 (Operand.tmp 18), type := 24, pos := _, after := #[{ on := 1, ground := Ground.data }], guard := none } rfl (by kernel_rfl) (by kernel_rfl) (by kernel_rfl) (fun _ _ _ h => h) (by rfl) hHeld ?_ ?_
      rotate_left
      · intro wS hSw; have k0 := hSw.c0; have k2 := hSw.c2; have k4 := hSw.c4; have kx := hSw.cx; clear hSw; go_simp <;> with_reducible rfl
      try simp only [Act.put, List.setIfInBounds_toArray, List.set_cons_zero, List.set_cons_succ]
      refine rtake (i := 3) (v := ?_) { dst := some 20, op := Op.load 24 (Operand.tmp 3), type := 24, pos := _, after := #[], guard := none } rfl (by kernel_rfl) (by kernel_rfl) (by kernel_rfl) (fun _ _ _ h => h) (by rfl) hHeld ?_ ?_
      rotate_left
      · intro wS hSw; have k0 := hSw.c0; have k2 := hSw.c2; have k4 := hSw.c4; have kx := hSw.cx; clear hSw; go_simp <;> with_reducible rfl
      try simp only [Act.put, List.setIfInBounds_toArray, List.set_cons_zero, List.set_cons_succ]
      refine rtake (i := 4) (v := ?_) { dst := some 21, op := Op.fieldAddr 52 (Operand.tmp 7) 2, type := 0, pos := _, after := #[], guard := none } rfl (by kernel_rfl) (by kernel_rfl) (by kernel_rfl) (fun _ _ _ h => h) (by rfl) hHeld ?_ ?_
      rotate_left
      · intro wS hSw; have k0 := hSw.c0; have k2 := hSw.c2; have k4 := hSw.c4; have kx := hSw.cx; clear hSw; go_simp <;> with_reducible rfl
      try simp only [Act.put, List.setIfInBounds_toArray, List.set_cons_zero, List.set_cons_succ]
      refine rtake (i := 5) (v := ?_) { dst := some 22, op := Op.fieldAddr 30 (Operand.tmp 21) 1, type := 0, pos := _, after := #[{ on := 4, ground := Ground.data }], guard := none } rfl (by kernel_rfl) (by kernel_rfl) (by kernel_rfl) (fun _ _ _ h => h) (by rfl) hHeld ?_ ?_
      rotate_left
      · intro wS hSw; have k0 := hSw.c0; have k2 := hSw.c2; have k4 := hSw.c4; have kx := hSw.cx; clear hSw; go_simp <;> with_reducible rfl
      try simp only [Act.put, List.setIfInBounds_toArray, List.set_cons_zero, List.set_cons_succ]
      refine rtake (i := 6) (v := ?_) { dst := some 23, op := Op.load 24 (Operand.tmp 22), type := 24, pos := _, after := #[{ on := 5, ground := Ground.data }], guard := none } rfl (by kernel_rfl) (by kernel_rfl) (by kernel_rfl) (fun _ _ _ h => h) (by rfl) hHeld ?_ ?_
      rotate_left
      · intro wS hSw; have k0 := hSw.c0; have k2 := hSw.c2; have k4 := hSw.c4; have kx := hSw.cx; clear hSw; go_simp <;> with_reducible rfl
      try simp only [Act.put, List.setIfInBounds_toArray, List.set_cons_zero, List.set_cons_succ]
      refine rtake (i := 7) (v := ?_) { dst := some 24, op := Op.binOp BinOp.sub 24 (Operand.tmp 20) (Operand.tmp 23) 24, type := 24, pos := _, after := #[{ on := 3, ground := Ground.data }, { on := 6, ground := Ground.data }], guard := none } rfl (by kernel_rfl) (by kernel_rfl) (by kernel_rfl) (fun _ _ _ h => h) (by rfl) hHeld ?_ ?_
      rotate_left
      · intro wS hSw; have k0 := hSw.c0; have k2 := hSw.c2; have k4 := hSw.c4; have kx := hSw.cx; clear hSw; go_simp <;> with_reducible rfl
      try simp only [Act.put, List.setIfInBounds_toArray, List.set_cons_zero, List.set_cons_succ]
      refine rtake (i := 8) (v := ?_) { dst := some 25, op := Op.binOp BinOp.add 24 (Operand.tmp 19) (Operand.tmp 24) 24, type := 24, pos := _, after := #[{ on := 2, ground := Ground.data }, { on := 7, ground := Ground.data }], guard := none } rfl (by kernel_rfl) (by kernel_rfl) (by kernel_rfl) (fun _ _ _ h => h) (by rfl) hHeld ?_ ?_
      rotate_left
      · intro wS hSw; have k0 := hSw.c0; have k2 := hSw.c2; have k4 := hSw.c4; have kx := hSw.cx; clear hSw; go_simp <;> with_reducible rfl
      try simp only [Act.put, List.setIfInBounds_toArray, List.set_cons_zero, List.set_cons_succ]
      refine rtake (i := 9) (v := ?_) { dst := some 26, op := Op.fieldAddr 52 (Operand.tmp 7) 1, type := 0, pos := _, after := #[{ on := 11, ground := Ground.gcOnly Departure.lateStores }], guard := none } rfl (by kernel_rfl) (by kernel_rfl) (by kernel_rfl) (fun _ _ _ h => h) (by rfl) hHeld ?_ ?_
      rotate_left
      · intro wS hSw; have k0 := hSw.c0; have k2 := hSw.c2; have k4 := hSw.c4; have kx := hSw.cx; clear hSw; go_simp <;> with_reducible rfl
      try simp only [Act.put, List.setIfInBounds_toArray, List.set_cons_zero, List.set_cons_succ]
      refine rtake (i := 10) (v := ?_) { dst := some 27, op := Op.load 3 (Operand.tmp 26), type := 3, pos := _, after := #[{ on := 9, ground := Ground.data }, { on := 11, ground := Ground.gcOnly Departure.lateStores }], guard := none } rfl (by kernel_rfl) (by kernel_rfl) (by kernel_rfl) (fun _ _ _ h => h) (by rfl) hHeld ?_ ?_
      rotate_left
      · intro wS hSw; have k0 := hSw.c0; have k2 := hSw.c2; have k4 := hSw.c4; have kx := hSw.cx; clear hSw; go_simp <;> with_reducible rfl
      try simp only [Act.put, List.setIfInBounds_toArray, List.set_cons_zero, List.set_cons_succ]
      rw [HV.out]
      obtain ⟨a0, j0, b0, hF⟩ := hHeld.cur
      have e0 := hF.rx.cell
      have e1 := hF.rx.frozen
      have HFA := Lib.hid (hF.set1 (pLo l i + (n - rk l i)))
      clear hF
      refine wpAnyH_ready (rs := [11]) (by kernel_rfl) (by simp) (AllReadyH.cons (o := { dst := none, op := Op.store 24 (Operand.tmp 4) (Operand.tmp 25), type := 0, pos := _, after := #[{ on := 8, ground := Ground.data }, { on := 0, ground := Ground.phase }, { on := 1, ground := Ground.phase }, { on := 2, ground := Ground.phase }, { on := 3, ground := Ground.phase }, { on := 4, ground := Ground.phase }, { on := 5, ground := Ground.phase }, { on := 6, ground := Ground.phase }, { on := 7, ground := Ground.phase }, { on := 8, ground := Ground.phase }, { on := 9, ground := Ground.textOnly Departure.lateStores }, { on := 10, ground := Ground.textOnly Departure.lateStores }], guard := none }) rfl (fun K hK => ?_) AllReadyH.nil)
      go_simp
      refine hK.out _ _ (hHeld.go (Apart.set (q := fun k => h + 1 ≤ k ∧ k ≤ h + 3) (b := h + 1) (o := 0) _ _ (by omega)) HBH.out ⟨_, _, _, HFA.out⟩) (fun hNew => ?_)
      clear hK K hHeld
      have hHeld := hNew; clear hNew
      try simp only [Act.put, List.setIfInBounds_toArray, List.set_cons_zero, List.set_cons_succ]
      have HFA2 : Hid (FdI w h n (pLo l i + (n - rk l i)) j0 b0 (w1.setCell ⟨h + 1, 0, none⟩ (.int .u64 (pLo l i + (n - rk l i)))).drew) := Lib.hid HFA.out
      have e2 := HFA2.out.ri.cell
      have e3 := HFA2.out.ri.frozen
      have HFB := Lib.hid (HFA2.out.set2 i)
      refine wpAnyH_ready (rs := [12]) (by kernel_rfl) (by simp) (AllReadyH.cons (o := { dst := none, op := Op.store 3 (Operand.tmp 5) (Operand.tmp 27), type := 0, pos := _, after := #[{ on := 10, ground := Ground.data }, { on := 11, ground := Ground.chain }, { on := 0, ground := Ground.phase }, { on := 1, ground := Ground.phase }, { on := 2, ground := Ground.phase }, { on := 3, ground := Ground.phase }, { on := 4, ground := Ground.phase }, { on := 5, ground := Ground.phase }, { on := 6, ground := Ground.phase }, { on := 7, ground := Ground.phase }, { on := 8, ground := Ground.phase }, { on := 9, ground := Ground.phase }, { on := 10, ground := Ground.phase }, { on := 11, ground := Ground.phase }], guard := none }) rfl (fun K hK => ?_) AllReadyH.nil)
      go_simp
      refine hK.out _ _ (hHeld.go (Apart.set (q := fun k => h + 1 ≤ k ∧ k ≤ h + 3) (b := h + 2) (o := 0) _ _ (by omega)) HBH.out ⟨_, _, _, HFB.out⟩) (fun hNew => ?_)
      clear hK K hHeld
      have hHeld := hNew; clear hNew
      try simp only [Act.put, List.setIfInBounds_toArray, List.set_cons_zero, List.set_cons_succ]
      have HFB2 : Hid (FdI w h n (pLo l i + (n - rk l i)) i b0 ((w1.setCell ⟨h + 1, 0, none⟩ (.int .u64 (pLo l i + (n - rk l i)))).setCell ⟨h + 2, 0, none⟩ (.int .i64 i)).drew) := Lib.hid HFB.out
      have e4 := HFB2.out.ro.cell
      have e5 := HFB2.out.ro.frozen
      have HFE := Lib.hid (HFB2.out.set3 true)
      refine wpAnyH_ready (rs := [13]) (by kernel_rfl) (by simp) (AllReadyH.cons (o := { dst := none, op := Op.store 4 (Operand.tmp 6) (Operand.const (Value.bool true)), type := 0, pos := _, after := #[{ on := 12, ground := Ground.chain }, { on := 0, ground := Ground.phase }, { on := 1, ground := Ground.phase }, { on := 2, ground := Ground.phase }, { on := 3, ground := Ground.phase }, { on := 4, ground := Ground.phase }, { on := 5, ground := Ground.phase }, { on := 6, ground := Ground.phase }, { on := 7, ground := Ground.phase }, { on := 8, ground := Ground.phase }, { on := 9, ground := Ground.phase }, { on := 10, ground := Ground.phase }, { on := 11, ground := Ground.phase }, { on := 12, ground := Ground.phase }], guard := none }) rfl (fun K hK => ?_) AllReadyH.nil)
      go_simp
      refine hK.out _ _ (hHeld.go (Apart.set (q := fun k => h + 1 ≤ k ∧ k ≤ h + 3) (b := h + 3) (o := 0) _ _ (by omega)) HBH.out ⟨_, _, _, HFE.out⟩) (fun hNew => ?_)
      clear hK K hHeld
      have hHeld := hNew; clear hNew
      try simp only [Act.put, List.setIfInBounds_toArray, List.set_cons_zero, List.set_cons_succ]
      refine wpAnyH_done (by kernel_rfl) ?_ _
      gi_wp2
      have hs5 := HS5.out
      have hBh := HBH.out
      refine ⟨(Apart.of_below _ HB1.out).trans (hHeld.ap.mono fun k _ h1 h2 => ?_), ⟨i, _, HR.out, HFE.out⟩⟩
      have h2 : (k < h ∨ k = h + 4 ∨ k = h + 7) ∨ k = w5.heap.size ∨ k = w5.heap.size + 1 ∨ A0.heap.size ≤ k := h2
      omega
    · have hcv : decide (cV n (rk l (i + 1)) < 0) = false := decide_eq_false (cV_ge hn1 hn2 hlt)
      have HL := Lib.hid (show rk l (i + 1) ≤ n by omega)
      clear hval hhere hlt hle hrn hn2
      obtain ⟨q', hq'⟩ : ∃ q', rk l (i + 1) / 18446744073709551616 = q' := ⟨_, rfl⟩
      obtain ⟨r', hr'⟩ : ∃ r', rk l (i + 1) % 18446744073709551616 = r' := ⟨_, rfl⟩
      rw [hq', hr'] at hcm
      rw [hq'] at p5
      rw [hr'] at p6
      rw [hq', hr']
      clear hq' hr'
      have KM := Lib.hid hcm; clear hcm
      generalize cV n (rk l (i + 1)) = cv at *
      gi_wp2_with (refine ⟨trivial, ?_⟩; gi_at_call 24; refine (CallsIn.inRound l2 (callsIn_wide.2 (KM.out W))).mono ?_; rintro e w1 ⟨rfl, hb1⟩; have HB1 := Lib.hid hb1; clear hb1)
      refine ⟨Apart.of_below _ HB1.out, ?_, HIW.out.apart hwh (Apart.of_below (fun _ => False) HB1.out) (fun _ _ h => h)⟩
      show rk l (List.range i ++ [i]).length ≤ n
      rw [HN.out]
      exact HL.out
  case done =>
    rintro D W hD hszW ⟨hle, hI⟩ hK
    rw [List.length_range, rk_last] at hle
    have c1 := hI.rx.cell
    have c2 := hI.ri.cell
    have c3 := hI.ro.cell
    have f1 := hI.rx.frozen
    have f2 := hI.ri.frozen
    have f3 := hI.ro.frozen
    have HI := Lib.hid hI; clear hI
    have HK := Lib.hid hK; clear hK
    have HD := Lib.hid hD; clear hD
    have HS5 := Lib.hid hs5; clear hs5
    have HLE := Lib.hid hle; clear hle
    gi_wp2
    have hDh : h + 3 < D := by have := HS5.out; have := HD.out; omega
    have hF := ((HI.out.set1 0).set2 0).set3 false
    have hst : Apart (fun k => h + 1 ≤ k ∧ k ≤ h + 3) W (((W.setCell ⟨h + 1, 0, none⟩ (.int .u64 0)).setCell ⟨h + 2, 0, none⟩ (.int .i64 0)).setCell ⟨h + 3, 0, none⟩ (.bool false)) :=
      ((Apart.set (q := fun k => h + 1 ≤ k ∧ k ≤ h + 3) (b := h + 1) (o := 0) W _ (by omega)).trans (Apart.set (q := fun k => h + 1 ≤ k ∧ k ≤ h + 3) (b := h + 2) (o := 0) _ _ (by omega))).trans (Apart.set (q := fun k => h + 1 ≤ k ∧ k ≤ h + 3) (b := h + 3) (o := 0) _ _ (by omega))
    have hK2 := hst.obj HK.out (by omega)
    have hF2 := hF.apart (p := fun k => k = D) hwh (Apart.put _ (.deferred none) rfl) (fun k hk => by omega)
    refine ⟨by simp, .inl ⟨_, _, rfl, run_takeDeferred hK2, ?_⟩⟩
    refine ⟨_, res_cell3 rfl _ _ _ ⟨h + 1, 0, none⟩ ⟨h + 2, 0, none⟩ ⟨h + 3, 0, none⟩ _ _ _ rfl rfl rfl (loadU hF2.rx) (loadI hF2.ri) (loadO hF2.ro), .inr ⟨HLE.out, rfl⟩, ?_⟩
    rw [HH.out]
    exact hF2.below
  case stop =>
    rintro D W hD ⟨i, v, hh, hI⟩ hK
    have HI := Lib.hid hI; clear hI
    have HK := Lib.hid hK; clear hK
    have HD := Lib.hid hD; clear hD
    have HS5 := Lib.hid hs5; clear hs5
    have HHE := Lib.hid hh; clear hh
    gi_wp2
    have hDh : h + 3 < D := by have := HS5.out; have := HD.out; omega
    have hF2 := HI.out.apart (p := fun k => k = D) hwh (Apart.put _ (.deferred none) rfl) (fun k hk => by omega)
    refine ⟨by simp, .inl ⟨_, _, rfl, run_takeDeferred HK.out, ?_⟩⟩
    refine ⟨_, res_cell3 rfl _ _ _ ⟨h + 1, 0, none⟩ ⟨h + 2, 0, none⟩ ⟨h + 3, 0, none⟩ _ _ _ rfl rfl rfl (loadU hF2.rx) (loadI hF2.ri) (loadO hF2.ro), .inl ⟨_, _, HHE.out, rfl⟩, ?_⟩
    rw [HH.out]
    exact hF2.below
end Go.Proofs.Ytnihmmhmndgagaa
