/- How many numbers of a list are below a number, as package measure counts. Conditions: the list is correct, at most 20000 intervals. -/
import Derived.Test.YtnihmmhmndgagaaMFind
import Derived.Test.YtnihmmhmndgagaaVBreak
import Derived.Test.YtnihmmhmndgagaaCells
namespace Go.Proofs.Ytnihmmhmndgagaa
open Go.RowKit Go.Shelf
attribute [local go_sem] Oper.semAt_some
theorem rank_append (x : Int) : ∀ (a b : List Iv), rankL (a ++ b) x = rankL a x + rankL b x
  | [], b => by simp [rankL]
  | y :: a, b => by
    have ih := rank_append x a b
    simp only [List.cons_append, rankL, ih]; omega
theorem rank_full {x : Int} : ∀ {l : List Iv}, (∀ y ∈ l, y.2 < x) → (∀ y ∈ l, y.1 ≤ y.2) → rankL l x = cntL l
  | [], _, _ => rfl
  | y :: l, h, ho => by
    have ih := rank_full (x := x) (l := l) (fun z hz => h z (by simp [hz])) (fun z hz => ho z (by simp [hz]))
    have h1 := h y (by simp)
    have h2 := ho y (by simp)
    simp only [rankL, cntL, ih]
    unfold rankI
    rw [if_pos (by omega), if_pos h1]
/-- Behind an interval that begins below x. -/
theorem rank_step {l : List Iv} (hg : GoodL l) {i : Nat} {y : Iv} (h : l[i]? = some y) {x : Int} (hx : y.1 < x) : rankL (l.take (i + 1)) x = rk l i + (min y.2 (x - 1) - y.1 + 1) := by
  have hf : rankL (l.take i) x = cntL (l.take i) := by
    refine rank_full (fun z hz => ?_) fun z hz => hg.ord6 z (List.mem_of_mem_take hz)
    obtain ⟨j, hj⟩ := List.mem_iff_getElem?.1 hz
    have hji : j < i := by
      have := (List.getElem?_eq_some_iff.1 hj).1
      rw [List.length_take] at this; omega
    rw [List.getElem?_take_of_lt hji] at hj
    have := later hg.can hj h hji
    omega
  rw [show l.take (i + 1) = l.take i ++ [y] from by rw [List.take_add_one, h]; rfl, rank_append, hf]
  show cntL (l.take i) + (rankI y x + 0) = cntL (l.take i) + _
  have ho := hg.ord6 y (List.mem_of_getElem? h)
  unfold rankI
  rw [if_pos hx]
  split <;> omega
theorem rank_here {l : List Iv} (hg : GoodL l) {i : Nat} {y : Iv} (h : l[i]? = some y) {x : Int} (hx : x ≤ y.1) : rankL (l.take i) x = rankL l x := by
  have h1 := rank_end hg.can h hx
  have h2 : rankL (l.take i) x + rankL (l.drop i) x = rankL l x := by rw [← rank_append, List.take_append_drop]
  omega
/-- The memory of Rank's loop: the number, the result, the count so far. -/
structure RkI (w : World) (h : Nat) (x q r : Int) (W : World) : Prop where
  num : Boxed W h 24 (.int .u64 x)
  res : Cnt W (h + 1) 0 0
  cur : Cnt W (h + 2) q r
  below : Below h w W
theorem RkI.apart {p : Nat → Prop} {w : World} {h : Nat} {x q r : Int} {A B : World} (hs : RkI w h x q r A) (hw : h ≤ w.heap.size) (hb : Apart p A B) (h0 : ∀ k, k ≤ h + 2 → ¬ p k) : RkI w h x q r B :=
  ⟨hb.boxed hs.num (h0 _ (by omega)), hs.res.apart hb (h0 _ (by omega)), hs.cur.apart hb (h0 _ (by omega)), hs.below.trans (hb.below (Nat.le_trans hw hs.below.size) fun k hk => h0 k (by omega))⟩
theorem RkI.set {p : Nat → Prop} {w : World} {h : Nat} {x q r : Int} {A B : World} (hs : RkI w h x q r A) (hw : h ≤ w.heap.size) (hb : Apart p A B) (h0 : ∀ k, k < h + 2 → ¬ p k) {q' r' : Int} (hc : Cnt B (h + 2) q' r') : RkI w h x q' r' B :=
  ⟨hb.boxed hs.num (h0 _ (by omega)), hs.res.apart hb (h0 _ (by omega)), hc, hs.below.trans (hb.below (Nat.le_trans hw hs.below.size) fun k hk => h0 k (by omega))⟩
/-- What a round's region reads and keeps. -/
structure RkS (W : World) (h b : Nat) (lo hi q r x : Int) (w' : World) : Prop where
  ap : Apart (fun k => k = h + 2) W w'
  c0 : w'.cell? ⟨b, 0, none⟩ = some (.int .u64 lo)
  c1 : w'.cell? ⟨b, 1, none⟩ = some (.int .u64 hi)
  c3 : w'.cell? ⟨b, 3, none⟩ = some (.int .u64 q)
  c4 : w'.cell? ⟨b, 4, none⟩ = some (.int .u64 r)
  cx : w'.cell? ⟨h, 0, none⟩ = some (.int .u64 x)
  cur : ∃ q r, Cnt w' (h + 2) q r
theorem RkS.go {p : Nat → Prop} {W A B : World} {h b : Nat} {lo hi q r x : Int} (hs : RkS W h b lo hi q r x A) (hb : Apart p A B) (hp : ∀ k, k < A.heap.size → p k → k = h + 2) (hbn : b ≠ h + 2) (hc : ∃ q r, Cnt B (h + 2) q r) : RkS W h b lo hi q r x B := by
  have hb' : Apart (fun k => k = h + 2) A B := hb.mono hp
  exact ⟨hs.ap.trans hb', hb'.cell hs.c0 hbn, hb'.cell hs.c1 hbn, hb'.cell hs.c3 hbn, hb'.cell hs.c4 hbn, hb'.cell hs.cx (show h ≠ h + 2 by omega), hc⟩
theorem RkS.call {W A B : World} {h b : Nat} {lo hi q r x : Int} (hs : RkS W h b lo hi q r x A) (hbn : b ≠ h + 2) (hb : Below A.heap.size A B) : RkS W h b lo hi q r x B := by
  obtain ⟨u, v, hc⟩ := hs.cur
  exact hs.go (Apart.of_below (fun _ => False) hb) (fun _ _ h => h.elim) hbn ⟨u, v, hc.below hb⟩
theorem RkS.store {W A : World} {h b : Nat} {lo hi q r x : Int} (hs : RkS W h b lo hi q r x A) (hbn : b ≠ h + 2) (u v : Int) :
    RkS W h b lo hi q r x ((A.setCell ⟨h + 2, 0, none⟩ (.int .u64 u)).setCell ⟨h + 2, 1, none⟩ (.int .u64 v)) := by
  obtain ⟨u0, v0, hc⟩ := hs.cur
  exact hs.go ((Apart.set (q := fun k => k = h + 2) (b := h + 2) (o := 0) A (.int .u64 u) rfl).trans (Apart.set (q := fun k => k = h + 2) (b := h + 2) (o := 1) _ (.int .u64 v) rfl)) (fun _ _ h => h) hbn ⟨u, v, hc.set u v⟩
set_option maxRecDepth 100000 in
set_option maxHeartbeats 8000000 in
theorem mRank_any (l : List Iv) (s : Value) (x : Int) (w : World) (ha : OpAt w s l) (hx0 : 0 ≤ x) (hx1 : x ≤ 18446744073709551615) : Calls Try.prog 13 #[s, .int .u64 x] w (IsC (rankL l x) w) := by
  refine (callsIn_wide (n := 5)).1 ?_
  obtain ⟨p, cp, rfl, _⟩ := ha.at'.shape
  obtain ⟨h, hh⟩ : ∃ h, w.heap.size = h := ⟨_, rfl⟩
  have HA := Lib.hid ha; clear ha
  have HH := Lib.hid hh; clear hh
  refine callsIn_of_wp_marks Try.func13 rfl trivial ?_ rfl
  simp only [Try.ntmps13, List.size_toArray, List.length_cons, List.length_nil, Nat.reduceAdd, Nat.reduceSub, Array.replicate_succ, Array.replicate_zero, List.push_toArray, List.append_toArray, List.nil_append, List.cons_append]
  have KC := Lib.hid parts_call
  gi_wp2_with (refine ⟨trivial, ?_⟩; gi_at_call 28; refine (callsIn_wide.2 (KC.out _ _ _ _)).mono ?_; rintro e w' ⟨rfl, hw⟩; obtain rfl := hw)
  obtain ⟨w4, hw4⟩ : ∃ w4, (((w.alloc (.cells #[.int .u64 x] 24)).alloc (.cells #[.int .u64 0, .int .u64 0] 30)).alloc (.cells #[.int .u64 0, .int .u64 0] 30)).alloc (.cells #[.slice p l.length cp] 23) = w4 := ⟨_, rfl⟩
  have hb4 : Below h w w4 := HH.out ▸ hw4 ▸ below_alloc (below_alloc (below_alloc (below_new w _) _) _) _
  have hs4 : w4.heap.size = h + 4 := by rw [← hw4, ← HH.out]; simp
  have hi4 : RkI w h x 0 0 w4 := by
    refine ⟨?_, ?_, ?_, hb4⟩
    · rw [← hw4, ← HH.out]; exact (((Boxed.new w 24 (.int .u64 x)).alloc _).alloc _).alloc _
    · rw [← hw4, ← HH.out]
      have := Cnt.new (w.alloc (.cells #[.int .u64 x] 24)) 0 0
      rw [World.size_alloc] at this
      exact (this.below (below_new _ _)).below (below_new _ _)
    · rw [← hw4, ← HH.out]
      have := Cnt.new ((w.alloc (.cells #[.int .u64 x] 24)).alloc (.cells #[.int .u64 0, .int .u64 0] 30)) 0 0
      rw [World.size_alloc, World.size_alloc] at this
      exact this.below (below_new _ _)
  have hx4 : w4.cell? ⟨h + 3, 0, none⟩ = some (.slice p l.length cp) := by rw [← hw4, ← HH.out, World.cell?_alloc_at _ _ _ _ (by simp)]; rfl
  have ho4 := HA.out.call (hb4.mono (Nat.le_of_eq HH.out))
  rw [hw4, HH.out]
  clear hw4
  have HO4 := Lib.hid ho4; clear ho4
  have hwh : h ≤ w.heap.size := Nat.le_of_eq HH.out.symm
  refine range_b (id := 0) (n := 5) (by omega) (gf := 38) (lb := #[.pointer (some ⟨h + 3, 0, none⟩)]) (encs := encP l) (L := List.range l.length) (own := fun k => k = h + 6) (keep := fun k => k < h ∨ k = h + 3 ∨ k = h + 6) (lo := h + 7)
    rfl (enters_of Try.func38 (by kernel_rfl) rfl) (fun _ => rfl) (fun k hk => by omega) (fun k hk => by omega)
    (fun W hsW hb => by
      have h5 : W.heap.size = h + 6 := by omega
      have := parts_iter 4 (by omega) (h + 3) _ l (fun k => k < h ∨ k = h + 3 ∨ k = h + 6) W (by omega) (by omega) (KeptL.of HA.out fun k hk => .inl (by have := HH.out; omega)) (keep_cell hx4 hb) (HO4.out.call hb)
      rwa [h5] at this)
    (fun front W => RkI w h x (rankL (l.take front.length) x / 18446744073709551616) (rankL (l.take front.length) x % 18446744073709551616) W) (RkI w h x (rankL l x / 18446744073709551616) (rankL l x % 18446744073709551616)) (fun k => k = h + 4 ∨ k = h + 4 + 1 ∨ k = h + 6) (by omega) (fun k hk => .inr (.inr hk))
    (fun front A B hI hab => hI.apart hwh hab (fun k hk => by omega)) (fun A B hI hab => hI.apart hwh hab (fun k hk => by omega))
    (by show RkI w h x (rankL (l.take ([] : List Nat).length) x / 18446744073709551616) (rankL (l.take ([] : List Nat).length) x % 18446744073709551616) w4; rw [List.length_nil, List.take_zero]; exact hi4)
    (fun z i a' W => ∃ Bx, z ≤ Bx ∧ PtAt Bx l i W ∧ a' = { tmps := #[.slice p l.length cp, .int .u64 x, undef, .pointer (some ⟨h, 0, none⟩), .pointer (some ⟨h + 1, 0, none⟩), .pointer (some ⟨h + 2, 0, none⟩), .pointer (some ⟨Bx, 0, none⟩), .agg #[.int .u64 0, .int .u64 0], .slice p l.length cp, .func (.func 38) #[] #[.pointer (some ⟨h + 3, 0, none⟩)], .agg #[.int .u64 (pLo l i), .int .u64 (pHi l i), .int .i64 i, .int .u64 (rk l i / 18446744073709551616), .int .u64 (rk l i % 18446744073709551616), .int .u64 (rk l (i + 1) / 18446744073709551616), .int .u64 (rk l (i + 1) % 18446744073709551616)], undef, undef, undef, undef, undef, undef, undef, undef, undef, undef, undef, undef, undef, undef, undef, undef, undef, undef, undef], defers := [] })
    (fun z i a' A B hz _ hx hab => by
      obtain ⟨Bx, h1, h2, h3⟩ := hx
      exact ⟨Bx, h1, h2.apart hab (by omega), h3⟩) ?assign ?body ?done ?stop
  case assign =>
    rintro l2 front i A0 W K _ hap _ hz hK
    unfold encP
    have hz2 := hap.size
    gi_wp2
    exact hK _ _ (below_new _ _) ⟨W.heap.size, hz2, PtAt.new _ _ _ _, rfl⟩
  case body =>
    rintro l2 front i a' A0 W hI hap ⟨Bx, hzB, hpt, rfl⟩ hpre hlo _
    have hIW := hI.apart hwh hap (fun k hk => by omega)
    obtain ⟨hin, rfl⟩ := prefix_range hpre
    rw [List.length_range] at hIW
    have hy : l[i]? = some l[i] := by simp [hin]
    have hplo : pLo l i = l[i].1 := by unfold pLo; rw [List.getD_eq_getElem?_getD, hy]; rfl
    have hphi : pHi l i = l[i].2 := by unfold pHi; rw [List.getD_eq_getElem?_getD, hy]; rfl
    have hord := HA.out.good.ord6 _ (List.mem_of_getElem? hy)
    obtain ⟨⟨g0, g1⟩, g2, g3⟩ := HA.out.good.all.at hy
    have hst := fun hlt => rank_step HA.out.good hy (x := x) hlt
    have hhe := fun hle => rank_here HA.out.good hy (x := x) hle
    have hrn := rk_nn HA.out.good i
    have hrm := rk_max HA.out.good i
    rw [← hplo] at hst hhe hord g0 g1
    rw [← hphi] at hst hord g2 g3
    clear hplo hphi hy
    have HIW := Lib.hid hIW; clear hIW hI
    have HX := Lib.hid hpre; clear hpre
    have HAP := Lib.hid hap; clear hap
    have HS4 := Lib.hid hs4; clear hs4
    have HN : Hid ((List.range i ++ [i]).length = i + 1) := Lib.hid (by simp)
    have HPT := Lib.hid hpt
    have hBh : Bx ≠ h + 2 := by omega
    have cx := HIW.out.num.cell
    obtain ⟨p0, p1, p2, p3, p4, p5, p6⟩ := hpt
    clear p2 p5 p6
    obtain ⟨q, hq⟩ : ∃ q, rk l i / 18446744073709551616 = q := ⟨_, rfl⟩
    obtain ⟨r, hr⟩ : ∃ r, rk l i % 18446744073709551616 = r := ⟨_, rfl⟩
    by_cases hlt : pLo l i < x
    · have b1 : decide (x ≤ pLo l i) = false := by simp; omega
      have hx1' : 1 ≤ x := by omega
      have hmn : pLo l i ≤ min (pHi l i) (x - 1) := by omega
      have hmx : min (pHi l i) (x - 1) ≤ 18446744073709551615 := by omega
      have hstep := hst hlt
      have hmin : min (pHi l i) (x - 1) = (if IntKind.u64.wrap (x - 1) < pHi l i then IntKind.u64.wrap (x - 1) else pHi l i) := by
        rw [w_wrap_u64, Int.emod_eq_of_lt (by omega) (by omega)]
        split <;> omega
      have hkw : ∀ W, Calls Try.prog 29 #[.int .u64 (pLo l i), .int .u64 (min (pHi l i) (x - 1))] W (IsC (min (pHi l i) (x - 1) - pLo l i + 1) W) := fun W => width_c _ _ W g0 hmn hmx
      have hkp : ∀ W, Calls Try.prog 23 #[.agg #[.int .u64 (rk l i / 18446744073709551616), .int .u64 (rk l i % 18446744073709551616)], .agg #[.int .u64 ((min (pHi l i) (x - 1) - pLo l i + 1) / 18446744073709551616), .int .u64 ((min (pHi l i) (x - 1) - pLo l i + 1) % 18446744073709551616)]] W (IsC (rankL (l.take (i + 1)) x) W) := fun W => by
        rw [hstep]; exact plus_c _ _ W hrn hrm (by omega) (by omega)
      unfold IsC at hkw hkp
      clear hst hhe hstep hrn hrm hmn hmx hlt
      obtain ⟨q', hq'⟩ : ∃ q', rankL (l.take (i + 1)) x / 18446744073709551616 = q' := ⟨_, rfl⟩
      obtain ⟨r', hr'⟩ : ∃ r', rankL (l.take (i + 1)) x % 18446744073709551616 = r' := ⟨_, rfl⟩
      obtain ⟨wq, hwq⟩ : ∃ wq, (min (pHi l i) (x - 1) - pLo l i + 1) / 18446744073709551616 = wq := ⟨_, rfl⟩
      obtain ⟨ws, hws⟩ : ∃ ws, (min (pHi l i) (x - 1) - pLo l i + 1) % 18446744073709551616 = ws := ⟨_, rfl⟩
      rw [hq, hr, hq', hr', hwq, hws] at hkp
      rw [hwq, hws, hmin] at hkw
      obtain ⟨mv, hmv⟩ : ∃ mv, (if IntKind.u64.wrap (x - 1) < pHi l i then IntKind.u64.wrap (x - 1) else pHi l i) = mv := ⟨_, rfl⟩
      rw [hmv] at hkw
      have HMV := Lib.hid hmv; clear hmv
      rw [hq] at p3
      rw [hr] at p4
      rw [hq, hr]
      have HQ := Lib.hid (And.intro hq' hr')
      clear hq hr hq' hr' hwq hws hmin
      have KW := Lib.hid hkw; clear hkw
      have KP := Lib.hid hkp; clear hkp
      have HSS : Hid (RkS W h Bx (pLo l i) (pHi l i) q r x W.drew) := Lib.hid ⟨Apart.drew _ _, p0, p1, p3, p4, cx, _, _, HIW.out.cur⟩
      gi_wp2
      refine wpIn_region_round (S := RkS W h Bx (pLo l i) (pHi l i) q r x) (by kernel_rfl) (by kernel_rfl) (fun ⟨_, _, h⟩ => h) HSS.out (fun hHeld => ?_)
      refine rtake (i := 0) (v := ?_) { dst := some 16, op := Op.fieldAddr 52 (Operand.tmp 6) 2, type := 0, pos := _, after := #[], guard := none } rfl (by kernel_rfl) (by kernel_rfl) (by kernel_rfl) (fun _ _ _ h => h) (by rfl) hHeld ?_ ?_
      rotate_left
      · intro wS hSw; have k0 := hSw.c0; have k1 := hSw.c1; have k3 := hSw.c3; have k4 := hSw.c4; have kx := hSw.cx; clear hSw; go_simp <;> with_reducible rfl
      try simp only [Act.put, List.setIfInBounds_toArray, List.set_cons_zero, List.set_cons_succ]
      refine rtake (i := 1) (v := ?_) { dst := some 17, op := Op.load 30 (Operand.tmp 16), type := 30, pos := _, after := #[{ on := 0, ground := Ground.data }], guard := none } rfl (by kernel_rfl) (by kernel_rfl) (by kernel_rfl) (fun _ _ _ h => h) (by rfl) hHeld ?_ ?_
      rotate_left
      · intro wS hSw; have k0 := hSw.c0; have k1 := hSw.c1; have k3 := hSw.c3; have k4 := hSw.c4; have kx := hSw.cx; clear hSw; go_simp <;> with_reducible rfl
      try simp only [Act.put, List.setIfInBounds_toArray, List.set_cons_zero, List.set_cons_succ]
      refine rtake (i := 2) (v := ?_) { dst := some 18, op := Op.fieldAddr 52 (Operand.tmp 6) 0, type := 0, pos := _, after := #[], guard := none } rfl (by kernel_rfl) (by kernel_rfl) (by kernel_rfl) (fun _ _ _ h => h) (by rfl) hHeld ?_ ?_
      rotate_left
      · intro wS hSw; have k0 := hSw.c0; have k1 := hSw.c1; have k3 := hSw.c3; have k4 := hSw.c4; have kx := hSw.cx; clear hSw; go_simp <;> with_reducible rfl
      try simp only [Act.put, List.setIfInBounds_toArray, List.set_cons_zero, List.set_cons_succ]
      refine rtake (i := 3) (v := ?_) { dst := some 19, op := Op.fieldAddr 37 (Operand.tmp 18) 0, type := 0, pos := _, after := #[{ on := 2, ground := Ground.data }], guard := none } rfl (by kernel_rfl) (by kernel_rfl) (by kernel_rfl) (fun _ _ _ h => h) (by rfl) hHeld ?_ ?_
      rotate_left
      · intro wS hSw; have k0 := hSw.c0; have k1 := hSw.c1; have k3 := hSw.c3; have k4 := hSw.c4; have kx := hSw.cx; clear hSw; go_simp <;> with_reducible rfl
      try simp only [Act.put, List.setIfInBounds_toArray, List.set_cons_zero, List.set_cons_succ]
      refine rtake (i := 4) (v := ?_) { dst := some 20, op := Op.load 24 (Operand.tmp 19), type := 24, pos := _, after := #[{ on := 3, ground := Ground.data }], guard := none } rfl (by kernel_rfl) (by kernel_rfl) (by kernel_rfl) (fun _ _ _ h => h) (by rfl) hHeld ?_ ?_
      rotate_left
      · intro wS hSw; have k0 := hSw.c0; have k1 := hSw.c1; have k3 := hSw.c3; have k4 := hSw.c4; have kx := hSw.cx; clear hSw; go_simp <;> with_reducible rfl
      try simp only [Act.put, List.setIfInBounds_toArray, List.set_cons_zero, List.set_cons_succ]
      refine rtake (i := 5) (v := ?_) { dst := some 21, op := Op.fieldAddr 52 (Operand.tmp 6) 0, type := 0, pos := _, after := #[], guard := none } rfl (by kernel_rfl) (by kernel_rfl) (by kernel_rfl) (fun _ _ _ h => h) (by rfl) hHeld ?_ ?_
      rotate_left
      · intro wS hSw; have k0 := hSw.c0; have k1 := hSw.c1; have k3 := hSw.c3; have k4 := hSw.c4; have kx := hSw.cx; clear hSw; go_simp <;> with_reducible rfl
      try simp only [Act.put, List.setIfInBounds_toArray, List.set_cons_zero, List.set_cons_succ]
      refine rtake (i := 6) (v := ?_) { dst := some 22, op := Op.fieldAddr 37 (Operand.tmp 21) 1, type := 0, pos := _, after := #[{ on := 5, ground := Ground.data }], guard := none } rfl (by kernel_rfl) (by kernel_rfl) (by kernel_rfl) (fun _ _ _ h => h) (by rfl) hHeld ?_ ?_
      rotate_left
      · intro wS hSw; have k0 := hSw.c0; have k1 := hSw.c1; have k3 := hSw.c3; have k4 := hSw.c4; have kx := hSw.cx; clear hSw; go_simp <;> with_reducible rfl
      try simp only [Act.put, List.setIfInBounds_toArray, List.set_cons_zero, List.set_cons_succ]
      refine rtake (i := 7) (v := ?_) { dst := some 23, op := Op.load 24 (Operand.tmp 22), type := 24, pos := _, after := #[{ on := 6, ground := Ground.data }], guard := none } rfl (by kernel_rfl) (by kernel_rfl) (by kernel_rfl) (fun _ _ _ h => h) (by rfl) hHeld ?_ ?_
      rotate_left
      · intro wS hSw; have k0 := hSw.c0; have k1 := hSw.c1; have k3 := hSw.c3; have k4 := hSw.c4; have kx := hSw.cx; clear hSw; go_simp <;> with_reducible rfl
      try simp only [Act.put, List.setIfInBounds_toArray, List.set_cons_zero, List.set_cons_succ]
      refine rtake (i := 8) (v := ?_) { dst := some 24, op := Op.load 24 (Operand.tmp 3), type := 24, pos := _, after := #[], guard := none } rfl (by kernel_rfl) (by kernel_rfl) (by kernel_rfl) (fun _ _ _ h => h) (by rfl) hHeld ?_ ?_
      rotate_left
      · intro wS hSw; have k0 := hSw.c0; have k1 := hSw.c1; have k3 := hSw.c3; have k4 := hSw.c4; have kx := hSw.cx; clear hSw; go_simp <;> with_reducible rfl
      try simp only [Act.put, List.setIfInBounds_toArray, List.set_cons_zero, List.set_cons_succ]
      refine rtake (i := 9) (v := ?_) { dst := some 25, op := Op.binOp BinOp.sub 24 (Operand.tmp 24) (Operand.const (Value.int IntKind.u64 1)) 24, type := 24, pos := _, after := #[{ on := 8, ground := Ground.data }], guard := none } rfl (by kernel_rfl) (by kernel_rfl) (by kernel_rfl) (fun _ _ _ h => h) (by rfl) hHeld ?_ ?_
      rotate_left
      · intro wS hSw; have k0 := hSw.c0; have k1 := hSw.c1; have k3 := hSw.c3; have k4 := hSw.c4; have kx := hSw.cx; clear hSw; go_simp <;> with_reducible rfl
      try simp only [Act.put, List.setIfInBounds_toArray, List.set_cons_zero, List.set_cons_succ]
      refine rtake (i := 10) (v := ?_) { dst := some 26, op := Op.call { callee := Callee.builtin Builtin.min, args := #[Operand.tmp 23, Operand.tmp 25], argTypes := #[24, 24] }, type := 24, pos := _, after := #[{ on := 7, ground := Ground.data }, { on := 9, ground := Ground.data }], guard := none } rfl (by kernel_rfl) (by kernel_rfl) (by kernel_rfl) (fun _ _ _ h => h) (by rfl) hHeld ?_ ?_
      rotate_left
      · intro wS hSw; have k0 := hSw.c0; have k1 := hSw.c1; have k3 := hSw.c3; have k4 := hSw.c4; have kx := hSw.cx; clear hSw; go_simp <;> with_reducible rfl
      try simp only [Act.put, List.setIfInBounds_toArray, List.set_cons_zero, List.set_cons_succ]
      rw [HMV.out]
      refine wpAnyH_ready (rs := [11]) (by kernel_rfl) (by simp) (AllReadyH.cons (o := { dst := some 27, op := Op.call { callee := Callee.value (Operand.func 29), args := #[Operand.tmp 20, Operand.tmp 26], argTypes := #[24, 24] }, type := 30, pos := _, after := #[{ on := 4, ground := Ground.data }, { on := 10, ground := Ground.data }], guard := none }) rfl (fun K hK => ?_) AllReadyH.nil)
      go_simp
      refine (KW.out _).mono ?_
      rintro en wN ⟨rfl, hbN⟩
      have hbH := Lib.hid hbN; clear hbN
      go_wp2_with fail
      refine hK.out _ _ (hHeld.call hBh hbH.out) (fun hNew => ?_)
      clear hK K hHeld hbH
      have hHeld := hNew; clear hNew
      try simp only [Act.put, List.setIfInBounds_toArray, List.set_cons_zero, List.set_cons_succ]
      refine wpAnyH_ready (rs := [12]) (by kernel_rfl) (by simp) (AllReadyH.cons (o := { dst := some 28, op := Op.call { callee := Callee.value (Operand.func 23), args := #[Operand.tmp 17, Operand.tmp 27], argTypes := #[30, 30] }, type := 30, pos := _, after := #[{ on := 1, ground := Ground.data }, { on := 11, ground := Ground.data }, { on := 11, ground := Ground.chain }], guard := none }) rfl (fun K hK => ?_) AllReadyH.nil)
      go_simp
      refine (KP.out _).mono ?_
      rintro en wN ⟨rfl, hbN⟩
      have hbH := Lib.hid hbN; clear hbN
      go_wp2_with fail
      refine hK.out _ _ (hHeld.call hBh hbH.out) (fun hNew => ?_)
      clear hK K hHeld hbH
      have hHeld := hNew; clear hNew
      try simp only [Act.put, List.setIfInBounds_toArray, List.set_cons_zero, List.set_cons_succ]
      obtain ⟨u0, v0, hcur⟩ := hHeld.cur
      have e0 := hcur.c0
      have e1 := hcur.c1
      have e2 := hcur.f0
      have e3 := hcur.f1
      have HCS := Lib.hid (hcur.set q' r')
      clear hcur
      refine wpAnyH_ready (rs := [13]) (by kernel_rfl) (by simp) (AllReadyH.cons (o := { dst := none, op := Op.store 30 (Operand.tmp 5) (Operand.tmp 28), type := 0, pos := _, after := #[{ on := 12, ground := Ground.data }, { on := 12, ground := Ground.chain }, { on := 0, ground := Ground.phase }, { on := 1, ground := Ground.phase }, { on := 2, ground := Ground.phase }, { on := 3, ground := Ground.phase }, { on := 4, ground := Ground.phase }, { on := 5, ground := Ground.phase }, { on := 6, ground := Ground.phase }, { on := 7, ground := Ground.phase }, { on := 8, ground := Ground.phase }, { on := 9, ground := Ground.phase }, { on := 10, ground := Ground.phase }, { on := 11, ground := Ground.phase }, { on := 12, ground := Ground.phase }], guard := none }) rfl (fun K hK => ?_) AllReadyH.nil)
      go_simp
      refine hK.out _ _ (hHeld.store hBh _ _) (fun hNew => ?_)
      clear hK K hHeld
      have hHeld := hNew; clear hNew
      try simp only [Act.put, List.setIfInBounds_toArray, List.set_cons_zero, List.set_cons_succ]
      refine wpAnyH_done (by kernel_rfl) ?_ _
      gi_wp2
      have hs4 := HS4.out
      refine ⟨hHeld.ap.mono fun k _ h1 h2 => ?_, ?_⟩
      · have h2 : (k < h ∨ k = h + 3 ∨ k = h + 6) ∨ k = w4.heap.size ∨ k = w4.heap.size + 1 ∨ A0.heap.size ≤ k := h2
        omega
      · show RkI w h x (rankL (l.take (List.range i ++ [i]).length) x / 18446744073709551616) (rankL (l.take (List.range i ++ [i]).length) x % 18446744073709551616) _
        rw [HN.out, HQ.out.1, HQ.out.2]
        exact HIW.out.set hwh hHeld.ap (fun k hk => by omega) HCS.out
    · have b1 : decide (x ≤ pLo l i) = true := by simp; omega
      have HE := Lib.hid (hhe (by omega))
      clear hst hhe hrn hrm p1 p3 p4 hq hr
      gi_wp2
      refine ⟨rfl, Apart.refl _ _, ?_⟩
      rw [← HE.out]
      exact HIW.out
  case done =>
    rintro D W hD hszW hI hK
    rw [List.length_range, List.take_length] at hI
    have c0 := hI.cur.c0
    have c1 := hI.cur.c1
    have r0 := hI.res.c0
    have r1 := hI.res.c1
    have f0 := hI.res.f0
    have f1 := hI.res.f1
    have HI := Lib.hid hI; clear hI
    have HK := Lib.hid hK; clear hK
    have HD := Lib.hid hD; clear hD
    have HS4 := Lib.hid hs4; clear hs4
    gi_wp2
    have hst : Apart (fun k => k = h + 1) W ((W.setCell ⟨h + 1, 0, none⟩ (.int .u64 (rankL l x / 18446744073709551616))).setCell ⟨h + 1, 1, none⟩ (.int .u64 (rankL l x % 18446744073709551616))) := (Apart.set (q := fun k => k = h + 1) (b := h + 1) (o := 0) W _ rfl).trans (Apart.set (q := fun k => k = h + 1) (b := h + 1) (o := 1) _ _ rfl)
    have hDh : h + 1 < D := by have := HS4.out; have := HD.out; omega
    have hK2 := hst.obj HK.out (by omega)
    have hr2 := Cnt.apart (p := fun k => k = D) (HI.out.res.set (rankL l x / 18446744073709551616) (rankL l x % 18446744073709551616)) (Apart.put _ (.deferred none) rfl) (by omega)
    refine ⟨by simp, .inl ⟨_, _, rfl, run_takeDeferred hK2, ?_⟩⟩
    refine ⟨_, res_cell1 rfl _ _ _ ⟨h + 1, 0, none⟩ _ rfl (loadC hr2), rfl, ?_⟩
    rw [HH.out]
    exact ((HI.out.below.setCell (p := ⟨h + 1, 0, none⟩) (Nat.le_succ _) _).setCell (p := ⟨h + 1, 1, none⟩) (Nat.le_succ _) _).trans (belowK_b (w := w) hwh _ D _ _ (by rw [HH.out]; omega) hK2 rfl rfl)
  case stop =>
    rintro D W hD hI hK
    have c0 := hI.cur.c0
    have c1 := hI.cur.c1
    have r0 := hI.res.c0
    have r1 := hI.res.c1
    have f0 := hI.res.f0
    have f1 := hI.res.f1
    have HI := Lib.hid hI; clear hI
    have HK := Lib.hid hK; clear hK
    have HD := Lib.hid hD; clear hD
    have HS4 := Lib.hid hs4; clear hs4
    gi_wp2
    have hst : Apart (fun k => k = h + 1) W ((W.setCell ⟨h + 1, 0, none⟩ (.int .u64 (rankL l x / 18446744073709551616))).setCell ⟨h + 1, 1, none⟩ (.int .u64 (rankL l x % 18446744073709551616))) := (Apart.set (q := fun k => k = h + 1) (b := h + 1) (o := 0) W _ rfl).trans (Apart.set (q := fun k => k = h + 1) (b := h + 1) (o := 1) _ _ rfl)
    have hDh : h + 1 < D := by have := HS4.out; have := HD.out; omega
    have hK2 := hst.obj HK.out (by omega)
    have hr2 := Cnt.apart (p := fun k => k = D) (HI.out.res.set (rankL l x / 18446744073709551616) (rankL l x % 18446744073709551616)) (Apart.put _ (.deferred none) rfl) (by omega)
    refine ⟨by simp, .inl ⟨_, _, rfl, run_takeDeferred hK2, ?_⟩⟩
    refine ⟨_, res_cell1 rfl _ _ _ ⟨h + 1, 0, none⟩ _ rfl (loadC hr2), rfl, ?_⟩
    rw [HH.out]
    exact ((HI.out.below.setCell (p := ⟨h + 1, 0, none⟩) (Nat.le_succ _) _).setCell (p := ⟨h + 1, 1, none⟩) (Nat.le_succ _) _).trans (belowK_b (w := w) hwh _ D _ _ (by rw [HH.out]; omega) hK2 rfl rfl)
end Go.Proofs.Ytnihmmhmndgagaa
