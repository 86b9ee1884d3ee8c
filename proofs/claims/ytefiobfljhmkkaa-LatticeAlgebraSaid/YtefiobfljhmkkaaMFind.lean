/- Package measure over the intervals with their ranks: how many numbers, how many below a number. Conditions: the list is correct, at most 20000 intervals. -/
import Derived.Test.YtefiobfljhmkkaaMPart
namespace Go.Proofs.Ytefiobfljhmkkaa
open Go.RowKit Go.Shelf
attribute [local go_sem] Oper.semAt_some
/-- The cells of an interval with its ranks. -/
def PtAt (b : Nat) (l : List Iv) (i : Nat) (W : World) : Prop :=
  W.cell? ⟨b, 0, none⟩ = some (.int .u64 (pLo l i)) ∧ W.cell? ⟨b, 1, none⟩ = some (.int .u64 (pHi l i)) ∧ W.cell? ⟨b, 2, none⟩ = some (.int .i64 i) ∧ W.cell? ⟨b, 3, none⟩ = some (.int .u64 (rk l i / 18446744073709551616)) ∧ W.cell? ⟨b, 4, none⟩ = some (.int .u64 (rk l i % 18446744073709551616)) ∧ W.cell? ⟨b, 5, none⟩ = some (.int .u64 (rk l (i + 1) / 18446744073709551616)) ∧ W.cell? ⟨b, 6, none⟩ = some (.int .u64 (rk l (i + 1) % 18446744073709551616))
theorem PtAt.apart {q : Nat → Prop} {b : Nat} {l : List Iv} {i : Nat} {A B : World} (h : PtAt b l i A) (hb : Apart q A B) (hn : ¬ q b) : PtAt b l i B :=
  ⟨hb.cell h.1 hn, hb.cell h.2.1 hn, hb.cell h.2.2.1 hn, hb.cell h.2.2.2.1 hn, hb.cell h.2.2.2.2.1 hn, hb.cell h.2.2.2.2.2.1 hn, hb.cell h.2.2.2.2.2.2 hn⟩
theorem PtAt.new (W : World) (l : List Iv) (i : Nat) (t : TypeId) : PtAt W.heap.size l i (W.alloc (.cells #[.int .u64 (pLo l i), .int .u64 (pHi l i), .int .i64 i, .int .u64 (rk l i / 18446744073709551616), .int .u64 (rk l i % 18446744073709551616),
    .int .u64 (rk l (i + 1) / 18446744073709551616), .int .u64 (rk l (i + 1) % 18446744073709551616)] t)) := by
  refine ⟨?_, ?_, ?_, ?_, ?_, ?_, ?_⟩ <;> simp
theorem PtAt.lt {b : Nat} {l : List Iv} {i : Nat} {W : World} (h : PtAt b l i W) : b < W.heap.size := World.block_lt_of_cell? W _ h.1
theorem res_cell1 {fn : Func} {p : Tmp} {ty : TypeId} (h : fn.results = #[.cell p ty]) (tmps : Array Value) (P : Program) (w : World) (a : Addr) (x : Value) (hp : tmps.getD p undef = .pointer (some a))
    (hx : (loadVar ty a).run P w = .ok x w) : (results fn tmps).run P w = .ok x w := by
  have ha : ∀ (v : Value) (c : Addr), v = .pointer (some c) → (asAddr v).run P w = .ok c w := fun v c e => by subst e; rfl
  have h1 : (asAddr (tmps[p]?.getD undef)).run P w = .ok a w := by simpa using ha _ _ hp
  simp only [results, h]
  simp [Sem.run_bind, Result.andThen, h1, hx]
theorem loadC {W : World} {b : Nat} {q r : Int} (h : Cnt W b q r) : (loadVar 33 ⟨b, 0, none⟩).run Try.prog W = .ok (.agg #[.int .u64 q, .int .u64 r]) W := by
  have h0 := h.c0
  have h1 := h.c1
  have h2 := Try.isAgg33
  go_simp
/-- The counts of a call that walks over the intervals: its result, and the count so far. -/
structure CtI (w : World) (h b : Nat) (q r : Int) (W : World) : Prop where
  res : Cnt W h 0 0
  cur : Cnt W b q r
  below : Below h w W
theorem CtI.apart {p : Nat → Prop} {w : World} {h b : Nat} {q r : Int} {A B : World} (hs : CtI w h b q r A) (hw : h ≤ w.heap.size) (hb : Apart p A B) (h0 : ∀ k, k ≤ h → ¬ p k) (h1 : ¬ p b) : CtI w h b q r B :=
  ⟨hs.res.apart hb (h0 h (Nat.le_refl _)), hs.cur.apart hb h1, hs.below.trans (hb.below (Nat.le_trans hw hs.below.size) fun k hk => h0 k (by omega))⟩
theorem CtI.set {w : World} {h b : Nat} {q r : Int} {A : World} (hs : CtI w h b q r A) (hb : h < b) (q' r' : Int) : CtI w h b q' r' ((A.setCell ⟨b, 0, none⟩ (.int .u64 q')).setCell ⟨b, 1, none⟩ (.int .u64 r')) := by
  have hst : Apart (fun k => k = b) A ((A.setCell ⟨b, 0, none⟩ (.int .u64 q')).setCell ⟨b, 1, none⟩ (.int .u64 r')) := (Apart.set (q := fun k => k = b) (b := b) (o := 0) A (.int .u64 q') rfl).trans (Apart.set (q := fun k => k = b) (b := b) (o := 1) _ (.int .u64 r') rfl)
  exact ⟨hs.res.apart hst (by omega), hs.cur.set q' r', (hs.below.setCell (p := ⟨b, 0, none⟩) (by exact Nat.le_of_lt hb) _).setCell (p := ⟨b, 1, none⟩) (by exact Nat.le_of_lt hb) _⟩
set_option maxRecDepth 100000 in
set_option maxHeartbeats 4000000 in
theorem mCount_any (l : List Iv) (s : Value) (w : World) (ha : OpAt w s l) : Calls Try.prog 38 #[s] w (IsC (cntL l) w) := by
  refine (callsIn_wide (n := 5)).1 ?_
  obtain ⟨p, cp, rfl, _⟩ := ha.at'.shape
  obtain ⟨h, hh⟩ : ∃ h, w.heap.size = h := ⟨_, rfl⟩
  have HA := Lib.hid ha; clear ha
  have HH := Lib.hid hh; clear hh
  refine callsIn_of_wp_marks Try.func38 rfl trivial ?_ rfl
  simp only [Try.ntmps38, List.size_toArray, List.length_cons, List.length_nil, Nat.reduceAdd, Nat.reduceSub, Array.replicate_succ, Array.replicate_zero, List.push_toArray, List.append_toArray, List.nil_append, List.cons_append]
  have KC := Lib.hid parts_call
  gi_wp2_with (refine ⟨trivial, ?_⟩; gi_at_call 59; refine (callsIn_wide.2 (KC.out _ _ _ _)).mono ?_; rintro e w' ⟨rfl, hw⟩; obtain rfl := hw)
  obtain ⟨w3, hw3⟩ : ∃ w3, ((w.alloc (.cells #[.int .u64 0, .int .u64 0] 33)).alloc (.cells #[.int .u64 0, .int .u64 0] 33)).alloc (.cells #[.slice p l.length cp] 41) = w3 := ⟨_, rfl⟩
  have hb3 : Below h w w3 := HH.out ▸ hw3 ▸ below_alloc (below_alloc (below_new w _) _) _
  have hs3 : w3.heap.size = h + 3 := by rw [← hw3, ← HH.out]; simp
  have hi3 : CtI w h (h + 1) 0 0 w3 := by
    refine ⟨?_, ?_, hb3⟩
    · rw [← hw3, ← HH.out]; exact ((Cnt.new w 0 0).below (below_new _ _)).below (below_new _ _)
    · rw [← hw3, ← HH.out]; exact (World.size_alloc w _ ▸ Cnt.new (w.alloc (.cells #[.int .u64 0, .int .u64 0] 33)) 0 0 : Cnt _ (w.heap.size + 1) 0 0).below (below_new _ _)
  have hx3 : w3.cell? ⟨h + 2, 0, none⟩ = some (.slice p l.length cp) := by rw [← hw3, ← HH.out, World.cell?_alloc_at _ _ _ _ (by simp)]; rfl
  have ho3 := HA.out.call (hb3.mono (Nat.le_of_eq HH.out))
  rw [hw3, HH.out]
  clear hw3
  have HO3 := Lib.hid ho3; clear ho3
  have hwh : h ≤ w.heap.size := Nat.le_of_eq HH.out.symm
  refine range_x (n := 5) (by omega) (gf := 73) (lb := #[.pointer (some ⟨h + 2, 0, none⟩)]) (encs := encP l) (L := List.range l.length) (own := fun k => k = h + 5) (keep := fun k => k < h ∨ k = h + 2 ∨ k = h + 5) (lo := h + 6)
    rfl (enters_of Try.func73 (by kernel_rfl) rfl) (fun _ => rfl) (fun k hk => by omega) (fun k hk => by omega)
    (fun W hsW hb => by
      have h5 : W.heap.size = h + 5 := by omega
      have := parts_iter 4 (by omega) (h + 2) _ l (fun k => k < h ∨ k = h + 2 ∨ k = h + 5) W (by omega) (by omega) (KeptL.of HA.out fun k hk => .inl (by have := HH.out; omega)) (keep_cell hx3 hb) (HO3.out.call hb)
      rwa [h5] at this)
    (fun front W => CtI w h (h + 1) (rk l front.length / 18446744073709551616) (rk l front.length % 18446744073709551616) W) (fun _ => False) (fun k => k = h + 3 ∨ k = h + 3 + 1 ∨ k = h + 5) (by omega) (fun k hk => .inr (.inr hk))
    (fun front A B hI hab => hI.apart hwh hab (fun k hk => by omega) (by omega)) (fun _ _ hf _ => hf)
    (by rw [List.length_nil, rk_zero]; exact hi3)
    (fun z x a' W => ∃ Bx, z ≤ Bx ∧ PtAt Bx l x W ∧ a' = { tmps := #[.slice p l.length cp, undef, .pointer (some ⟨h, 0, none⟩), .pointer (some ⟨h + 1, 0, none⟩), .pointer (some ⟨Bx, 0, none⟩), .agg #[.int .u64 0, .int .u64 0], .slice p l.length cp, .func (.func 73) #[] #[.pointer (some ⟨h + 2, 0, none⟩)], .agg #[.int .u64 (pLo l x), .int .u64 (pHi l x), .int .i64 x, .int .u64 (rk l x / 18446744073709551616), .int .u64 (rk l x % 18446744073709551616), .int .u64 (rk l (x + 1) / 18446744073709551616), .int .u64 (rk l (x + 1) % 18446744073709551616)], undef, undef, undef], defers := [] })
    (fun z x a' A B hz _ hx hab => by
      obtain ⟨Bx, h1, h2, h3⟩ := hx
      exact ⟨Bx, h1, h2.apart hab (by omega), h3⟩) ?assign ?body ?done ?stop
  case assign =>
    rintro l2 front x A0 W K _ hap _ hz hK
    unfold encP
    have hz2 := hap.size
    gi_wp2
    exact hK _ _ (below_new _ _) ⟨W.heap.size, hz2, PtAt.new _ _ _ _, rfl⟩
  case body =>
    rintro l2 front x a' A0 W hI hap ⟨Bx, hzB, hpt, rfl⟩ hx hlo _
    have hIW := hI.apart hwh hap (fun k hk => by omega) (by omega)
    obtain ⟨hxn, rfl⟩ := prefix_range hx
    rw [List.length_range] at hIW
    have c0 := hIW.cur.c0
    have c1 := hIW.cur.c1
    have f0 := hIW.cur.f0
    have f1 := hIW.cur.f1
    obtain ⟨_, _, _, _, _, p5, p6⟩ := hpt
    have HIW := Lib.hid hIW; clear hIW hI
    have HX := Lib.hid hx; clear hx
    have HAP := Lib.hid hap; clear hap
    have HS3 := Lib.hid hs3; clear hs3
    have HN : Hid ((List.range x ++ [x]).length = x + 1) := Lib.hid (by simp)
    gi_wp2
    have hs3 := HS3.out
    refine ⟨(Apart.set _ _ (by omega)).trans (Apart.set _ _ (by omega)), ?_⟩
    show CtI w h (h + 1) (rk l (List.range x ++ [x]).length / 18446744073709551616) (rk l (List.range x ++ [x]).length % 18446744073709551616) _
    rw [HN.out]
    exact HIW.out.set (by omega) _ _
  case done =>
    rintro D W hD hszW hI hK
    rw [List.length_range, rk_last] at hI
    have c0 := hI.cur.c0
    have c1 := hI.cur.c1
    have r0 := hI.res.c0
    have r1 := hI.res.c1
    have f0 := hI.res.f0
    have f1 := hI.res.f1
    have HI := Lib.hid hI; clear hI
    have HK := Lib.hid hK; clear hK
    have HD := Lib.hid hD; clear hD
    have HS3 := Lib.hid hs3; clear hs3
    gi_wp2
    have hst : Apart (fun k => k = h) W ((W.setCell ⟨h, 0, none⟩ (.int .u64 (cntL l / 18446744073709551616))).setCell ⟨h, 1, none⟩ (.int .u64 (cntL l % 18446744073709551616))) := (Apart.set (q := fun k => k = h) (b := h) (o := 0) W _ rfl).trans (Apart.set (q := fun k => k = h) (b := h) (o := 1) _ _ rfl)
    have hDh : h < D := by have := HS3.out; have := HD.out; omega
    have hK2 := hst.obj HK.out (by omega)
    have hr2 := Cnt.apart (p := fun k => k = D) (HI.out.res.set (cntL l / 18446744073709551616) (cntL l % 18446744073709551616)) (Apart.put _ (.deferred none) rfl) (by omega)
    refine ⟨by simp, .inl ⟨_, _, rfl, run_takeDeferred hK2, ?_⟩⟩
    refine ⟨_, res_cell1 rfl _ _ _ ⟨h, 0, none⟩ _ rfl (loadC hr2), rfl, ?_⟩
    rw [HH.out]
    exact ((HI.out.below.setCell (p := ⟨h, 0, none⟩) (Nat.le_refl _) _).setCell (p := ⟨h, 1, none⟩) (Nat.le_refl _) _).trans (belowK_b (w := w) hwh _ D _ _ (by rw [HH.out]; exact Nat.le_of_lt hDh) hK2 rfl rfl)
  case stop =>
    rintro D W _ hf _
    exact hf.elim
end Go.Proofs.Ytefiobfljhmkkaa
