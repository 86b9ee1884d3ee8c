/- Package vector: Numbers, Compare: loops over the pairs of two vectors. Conditions: as each theorem says. -/
import Derived.Test.YtgeggdaokjimjaaDoorPCodeN
import Derived.Test.YtgeggdaokjimjaaDoorMCount
import Derived.Maps.OwnIn
namespace Go.Proofs.YtgeggdaokjimjaaDoor
open Go.RowKit Go.Shelf Go.ChangeShapes Go.WideShapes
attribute [local go_sem] Oper.semAt_some
set_option maxRecDepth 100000 in
theorem numbers_call (p q : Option Addr) (n n' c c' : Nat) (w : World) : Calls Tryd.prog 43 #[.slice p n c, .slice q n' c'] w (fun e w' =>
    e = .returned (.func (.func 60) #[] #[.pointer (some ⟨w.heap.size, 0, none⟩), .pointer (some ⟨w.heap.size + 1, 0, none⟩)]) ∧
      w' = (w.alloc (.cells #[.slice p n c] 23)).alloc (.cells #[.slice q n' c'] 23)) := by
  go_enter Tryd.func43, Tryd.ntmps43
  go_wp2_with fail
  go_ret
  exact ⟨by simp, by simp⟩
theorem res_cell9 {fn : Func} {p : Tmp} {ty : TypeId} (h : fn.results = #[.cell p ty]) (tmps : Array Value) (P : Program) (w : World) (a : Addr) (x : Value) (hp : tmps.getD p undef = .pointer (some a))
    (hx : (loadVar ty a).run P w = .ok x w) : (results fn tmps).run P w = .ok x w := by
  have ha : ∀ (v : Value) (c : Addr), v = .pointer (some c) → (asAddr v).run P w = .ok c w := fun v c e => by subst e; rfl
  have h1 : (asAddr (tmps[p]?.getD undef)).run P w = .ok a w := by simpa using ha _ _ hp
  simp only [results, h]
  simp [Sem.run_bind, Result.andThen, h1, hx]
theorem loadI9 {W : World} {b : Nat} {v : Value} (h : Boxed W b 3 v) : (loadVar 3 ⟨b, 0, none⟩).run Tryd.prog W = .ok v W := by
  have hc := h.cell
  have h2 := Tryd.isAgg3
  go_simp
theorem cmpP_all : ∀ {L : List (Int × Int)}, (∀ x ∈ L, x.1 = x.2) → cmpP L = 0
  | [], _ => rfl
  | (a, b) :: r, h => by
    have h1 : a = b := h (a, b) (by simp)
    show (if a < b then (-1 : Int) else if b < a then 1 else cmpP r) = 0
    rw [if_neg (by omega), if_neg (by omega)]
    exact cmpP_all fun x hx => h x (by simp [hx])
theorem cmpP_at : ∀ {f : List (Int × Int)} {x : Int × Int} {L : List (Int × Int)}, (∀ y ∈ f, y.1 = y.2) → x.1 ≠ x.2 → f ++ [x] <+: L → cmpP L = w_cmpI x.1 x.2
  | [], (a, b), L, _, hne, h => by
    obtain ⟨R, rfl⟩ := h
    show (if a < b then (-1 : Int) else if b < a then 1 else cmpP R) = if a < b then -1 else if b < a then 1 else 0
    by_cases h1 : a < b
    · rw [if_pos h1, if_pos h1]
    · rw [if_neg h1, if_neg h1]
      have : b < a := by have : a ≠ b := hne; omega
      rw [if_pos this, if_pos this]
  | (a, b) :: f, x, L, hf, hne, h => by
    obtain ⟨R, rfl⟩ := h
    have h1 : a = b := hf (a, b) (by simp)
    show (if a < b then (-1 : Int) else if b < a then 1 else cmpP (f ++ [x] ++ R)) = _
    rw [if_neg (by omega), if_neg (by omega)]
    exact cmpP_at (fun y hy => hf y (by simp [hy])) hne ⟨R, rfl⟩
theorem cmpI_ne {a b : Int} (h : a ≠ b) : (w_cmpI a b != 0) = true := by
  unfold w_cmpI
  by_cases h1 : a < b
  · rw [if_pos h1]; rfl
  · rw [if_neg h1, if_pos (by omega)]; rfl
/-- While pairs are compared: all were equal so far. -/
structure CpI (h : Nat) (w : World) (front : List (Int × Int)) (T : Nat → Prop) (W : World) : Prop where
  eq : ∀ x ∈ front, x.1 = x.2
  free : ¬ T h
  box : Boxed W h 3 (.int .i64 0)
  low : Below h w W
set_option maxRecDepth 100000 in
set_option maxHeartbeats 4000000 in
theorem compare_any (V V' : List (Int × Int × List Iv)) (v v' : Value) (ka kb : Nat) (w : World) (hv : VecM w v V) (hv' : VecM w v' V') (hca : w.cell? ⟨ka, 0, none⟩ = some v) (hcb : w.cell? ⟨kb, 0, none⟩ = some v') :
    Calls Tryd.prog 42 #[.func (.func 60) #[] #[.pointer (some ⟨ka, 0, none⟩), .pointer (some ⟨kb, 0, none⟩)]] w (IsInt (cmpP (prV V V')) w) := by
  refine (callsIn_wide (n := 5)).1 ?_
  obtain ⟨h, hh⟩ : ∃ h, w.heap.size = h := ⟨_, rfl⟩
  have hka : ka < h := by rw [← hh]; exact World.block_lt_of_cell? w _ hca
  have hkb : kb < h := by rw [← hh]; exact World.block_lt_of_cell? w _ hcb
  have HV := Lib.hid (And.intro (And.intro hv hv') (And.intro hca hcb)); clear hv hv' hca hcb
  have HH := Lib.hid hh; clear hh
  have KC := Lib.hid w_cmp_any
  refine callsIn_of_wp_marks Tryd.func42 rfl trivial ?_ rfl
  simp only [Tryd.ntmps42, List.size_toArray, List.length_cons, List.length_nil, Nat.reduceAdd, Nat.reduceSub, Array.replicate_succ, Array.replicate_zero, List.push_toArray, List.append_toArray, List.nil_append, List.cons_append]
  gi_wp2
  have bL := Boxed.new w 3 (.int .i64 0)
  have hB0 := below_new w (.cells #[.int .i64 0] 3)
  obtain ⟨w1, hw1⟩ : ∃ w1, w.alloc (.cells #[.int .i64 0] 3) = w1 := ⟨_, rfl⟩
  have hs1 : w1.heap.size = h + 1 := by rw [← hw1, ← HH.out]; simp
  rw [hw1] at bL hB0 ⊢
  rw [HH.out] at bL hB0 ⊢
  clear hw1
  have hwh : h ≤ w.heap.size := Nat.le_of_eq HH.out.symm
  refine range_t (n := 5) (by omega) (gf := 60) (lb := #[.pointer (some ⟨ka, 0, none⟩), .pointer (some ⟨kb, 0, none⟩)]) (encs := encN) (L := prV V V') (keep := fun k => k < h)
    rfl (enters_of Tryd.func60 (by kernel_rfl) rfl) (fun _ => rfl) (fun k hk => by omega)
    (fun W hsW hb => by
      have hbw : Below w.heap.size w W := by rw [HH.out]; exact hB0.trans (hb.mono (by omega))
      exact numbers_iter _ ka kb v v' V V' w W _ (fun k hk => by rw [HH.out] at hk; exact hk) hka hkb hbw HV.out.1.1 HV.out.1.2 (keep_cell HV.out.2.1 hbw) (keep_cell HV.out.2.2 hbw))
    (CpI h w) (fun W => Boxed W h 3 (.int .i64 (cmpP (prV V V'))) ∧ Below h w W)
    (fun front T T' A B hI hx => ⟨hI.eq, fun ht => (by
        rcases (hx.2 h ht).1 with hh | hh
        · exact hI.free hh
        · have := hI.box.lt; omega), (Apart.of_below (fun _ => False) hx.1).boxed hI.box id, hI.low.trans (hx.1.mono (Nat.le_of_lt hI.box.lt))⟩)
    (fun front T A B hI hab => ⟨hI.eq, hI.free, hab.boxed hI.box (by omega), hI.low.trans (hab.below (Nat.le_of_lt hI.box.lt) fun k hk => by omega)⟩)
    (fun A B hI hab => ⟨hab.boxed hI.1 (by omega), hI.2.trans (hab.below (Nat.le_of_lt hI.1.lt) fun k hk => by omega)⟩)
    ⟨fun x hx => (by cases hx), Nat.lt_irrefl h, bL, hB0⟩
    (fun x a' _ => a' = { tmps := #[.func (.func 60) #[] #[.pointer (some ⟨ka, 0, none⟩), .pointer (some ⟨kb, 0, none⟩)], undef, .pointer (some ⟨h, 0, none⟩), .int .u64 x.1, .int .u64 x.2, undef, .func (.func 60) #[] #[.pointer (some ⟨ka, 0, none⟩), .pointer (some ⟨kb, 0, none⟩)], .int .u64 x.1, .int .u64 x.2, undef, undef, undef, undef, undef, undef], defers := [] })
    (fun x a' A B hx _ => hx) ?assign ?body ?done ?stop
  case assign =>
    rintro l2 front x T W K _ _ hK
    unfold encN
    gi_wp2
    exact hK _ _ (Below.refl _ _) (by simp)
  case body =>
    rintro l2 front ⟨x1, x2⟩ a' T W hI hT rfl hx hs
    have hcl := hI.box.cell
    have hfz := hI.box.frozen
    have HI := Lib.hid hI; clear hI
    have HX := Lib.hid hx; clear hx
    have HS1 := Lib.hid hs1; clear hs1
    have HT := Lib.hid hT; clear hT
    dsimp only
    by_cases hxx : x1 = x2
    · subst hxx
      have e0 : w_cmpI x1 x1 = 0 := w_cmpI_eq
      gi_wp2
      refine ⟨trivial, ?_⟩
      refine (CallsIn.inRound l2 (callsIn_wide.2 (KC.out _ _ _))).mono ?_
      rintro en w' ⟨rfl, hw⟩
      obtain rfl := hw.symm
      rw [e0]
      gi_wp2
      exact ⟨Apart.refl _ _, fun y hy => (by
        rcases List.mem_append.1 hy with hy | hy
        · exact HI.out.eq y hy
        · obtain rfl := List.mem_singleton.1 hy; rfl), HI.out.free, HI.out.box, HI.out.low⟩
    · have e0 := cmpI_ne hxx
      have HZ := Lib.hid (cmpP_at HI.out.eq hxx HX.out)
      dsimp only at HZ
      gi_wp2
      refine ⟨trivial, ?_⟩
      refine (CallsIn.inRound l2 (callsIn_wide.2 (KC.out _ _ _))).mono ?_
      rintro en w' ⟨rfl, hw⟩
      obtain rfl := hw.symm
      generalize w_cmpI x1 x2 = o at *
      gi_wp2
      have hs1 := HS1.out
      refine ⟨Apart.set _ _ ?_, ?_, ?_⟩
      · intro hn
        have hn : T h ∨ h = w1.heap.size ∨ h = w1.heap.size + 1 := hn
        rcases hn with hn | hn
        · exact HI.out.free hn
        · omega
      · rw [HZ.out]; exact HI.out.box.set _
      · exact HI.out.low.trans ((Below.refl h W).setCell (p := ⟨h, 0, none⟩) (Nat.le_refl _) _)
  case done =>
    rintro D T W hD hszW hI hK
    have hv := hI.box
    have hb := hI.low
    have hcl := hv.cell
    have hfz := hv.frozen
    have HE := Lib.hid (cmpP_all hI.eq); clear hI
    have HVV := Lib.hid hv; clear hv
    have HB := Lib.hid hb; clear hb
    have HK := Lib.hid hK; clear hK
    have HS1 := Lib.hid hs1; clear hs1
    have HD := Lib.hid hD; clear hD
    gi_wp2
    have hs1 := HS1.out
    have hD := HD.out
    have hK2 : (W.setCell ⟨h, 0, none⟩ (.int .i64 0)).heap[D]? = some (.deferred (some [])) := (Apart.set (q := fun k => k = h) W (o := 0) (.int .i64 0) rfl).obj HK.out (by omega)
    have hv2 := Apart.boxed (q := fun k => k = D) (Apart.put _ (.deferred none) rfl) (HVV.out.set (.int .i64 0)) (by omega)
    refine ⟨by simp, .inl ⟨_, _, rfl, run_takeDeferred hK2, ?_⟩⟩
    refine ⟨_, res_cell9 rfl _ _ _ ⟨h, 0, none⟩ _ rfl (loadI9 hv2), ?_, ?_⟩
    · rw [HE.out]
    · rw [HH.out]
      refine (HB.out.setCell (p := ⟨h, 0, none⟩) (Nat.le_refl _) (.int .i64 0)).trans (belowK_b (w := w) hwh _ D _ _ (by rw [HH.out]; omega) hK2 rfl rfl)
  case stop =>
    rintro D W hD ⟨hv, hb⟩ hK
    have HVV := Lib.hid hv; clear hv
    have HB := Lib.hid hb; clear hb
    have HK := Lib.hid hK; clear hK
    have HS1 := Lib.hid hs1; clear hs1
    have HD := Lib.hid hD; clear hD
    gi_wp2
    have hs1 := HS1.out
    have hD := HD.out
    have hv2 := Apart.boxed (q := fun k => k = D) (Apart.put _ (.deferred none) rfl) HVV.out (by omega)
    refine ⟨by simp, .inl ⟨_, _, rfl, run_takeDeferred HK.out, ?_⟩⟩
    refine ⟨_, res_cell9 rfl _ _ _ ⟨h, 0, none⟩ _ rfl (loadI9 hv2), rfl, ?_⟩
    rw [HH.out]
    exact HB.out.trans (belowK_b (w := w) hwh _ D _ _ (by rw [HH.out]; omega) HK.out rfl rfl)
set_option maxRecDepth 100000 in
theorem vCompare_any (V V' : List (Int × Int × List Iv)) (v v' : Value) (w : World) (hv : VecM w v V) (hv' : VecM w v' V') : Calls Tryd.prog 21 #[v, v'] w (IsInt (cmpL (numsV V) (numsV V')) w) := by
  obtain ⟨p, cs, rfl⟩ := hv.shape
  obtain ⟨q, ct, rfl⟩ := hv'.shape
  have KN := Lib.hid numbers_call
  obtain ⟨w1, hw1⟩ : ∃ w1, (w.alloc (.cells #[.slice p V.length cs] 23)).alloc (.cells #[.slice q V'.length ct] 23) = w1 := ⟨_, rfl⟩
  have hb1 : Below w.heap.size w w1 := hw1 ▸ below_call (below_new _ _) (below_new _ _)
  have c0 : w1.cell? ⟨w.heap.size, 0, none⟩ = some (.slice p V.length cs) := by rw [← hw1]; exact keep_cell (by simp) (below_new _ _)
  have c1 : w1.cell? ⟨w.heap.size + 1, 0, none⟩ = some (.slice q V'.length ct) := by rw [← hw1, World.cell?_alloc_at _ _ _ _ (by simp)]; rfl
  have K := Lib.hid (compare_any V V' _ _ _ _ w1 (hv.call hb1) (hv'.call hb1) c0 c1)
  rw [cmp_V] at K
  clear hv hv' c0 c1
  have HW := Lib.hid (And.intro hw1 hb1); clear hw1 hb1
  generalize cmpL (numsV V) (numsV V') = j at *
  go_enter Tryd.func21, Tryd.ntmps21
  go_wp2_with fail
  refine (KN.out _ _ _ _ _ _ _).mono ?_
  rintro e w2 ⟨rfl, hw2⟩
  rw [HW.out.1] at hw2
  obtain rfl := hw2
  go_wp2_with fail
  refine K.out.mono ?_
  rintro e w3 ⟨rfl, h⟩
  have H3 := Lib.hid (below_call HW.out.2 h); clear h
  go_wp2_with fail
  go_ret
  exact ⟨rfl, H3.out⟩
theorem own_lt9 {W : World} {base : Nat} {e : TypeId} {size : Nat} {v : Value} {k : Nat} {xs : List Value} (h : W.ownsRow base e size v k xs) : ∀ g, v.ownBlock = some g → base ≤ g ∧ g < W.heap.size := by
  intro g hg
  rcases h.2 with ⟨rfl, _⟩ | ⟨g', cap, cur, rfl, h2, h3, _⟩
  · simp [Value.ownBlock] at hg
  · obtain rfl : g' = g := by simpa [Value.ownBlock] using hg
    exact ⟨h2, (Array.getElem?_eq_some_iff.1 h3).1⟩
/-- The box of the list that is gathered, and its numbers. -/
structure NmI (h : Nat) (w : World) (front : List (Int × Int)) (T : Nat → Prop) (W : World) : Prop where
  row : ∃ v, Boxed W h 39 v ∧ W.ownsRow (h + 5) 34 1 v front.length (nmC (front.map (·.1))) ∧ ∀ g, v.ownBlock = some g → ¬ T g
  free : ¬ T h
  low : Below h w W
theorem NmI.ext {h : Nat} {w : World} {front : List (Int × Int)} {T T' : Nat → Prop} {A B : World} (hI : NmI h w front T A) (hx : Ext T T' A B) : NmI h w front T' B := by
  obtain ⟨v, h1, h2, h3⟩ := hI.row
  have hb := (Apart.of_below (fun _ => False) hx.1)
  refine ⟨⟨v, hb.boxed h1 id, own_below h2 hx.1, fun g hg ht => ?_⟩, fun ht => ?_, hI.low.trans (hx.1.mono (Nat.le_of_lt h1.lt))⟩
  · rcases (hx.2 g ht).1 with hh | hh
    · exact h3 g hg hh
    · have := own_lt9 h2 g hg; omega
  · rcases (hx.2 h ht).1 with hh | hh
    · exact hI.free hh
    · have := h1.lt; omega
theorem NmI.put {h : Nat} {w : World} {front : List (Int × Int)} {T : Nat → Prop} {A B : World} (hI : NmI h w front T A) (hab : Apart (fun k => k = h + 4) A B) : NmI h w front T B := by
  obtain ⟨v, h1, h2, h3⟩ := hI.row
  exact ⟨⟨v, hab.boxed h1 (by omega), hab.owns h2 (fun k hk => by omega), h3⟩, hI.free, hI.low.trans (hab.below (Nat.le_of_lt h1.lt) fun k hk => by omega)⟩
/-- What a round owes that has appended. -/
theorem nm_stepped {h : Nat} {w : World} {front : List (Int × Int)} {x : Int × Int} {T : Nat → Prop} {W w1 : World} {tmp : Obj} {v v' : Value} {n : Nat} {ys : List Value} {a : Act}
    (hI : NmI h w front T W) (hT : ∀ k, T k → k < W.heap.size) (hv : Boxed W h 39 v) (hrow : W.ownsRow (h + 5) 34 1 v front.length (nmC (front.map (·.1)))) (hfr : ∀ g, v.ownBlock = some g → ¬ T g)
    (hown' : w1.ownsRow (h + 5) 34 1 v' n ys) (hgrow : (W.alloc tmp).grownBy w1 v.ownBlock) (hat : v'.ownBlock = v.ownBlock ∨ v'.ownBlock = some (W.alloc tmp).heap.size)
    (hn : n = front.length + 1) (hys : ys = nmC (front.map (·.1)) ++ [.int .u64 x.1]) (B : Nat) (hB : B = h + 3) :
    roundT B T (NmI h w) (fun _ => False) (front ++ [x]) W .normal a (w1.setCell ⟨h, 0, none⟩ v') := by
  subst hn hys hB
  have hlt := own_lt9 hrow
  have hne : some h ≠ v.ownBlock := fun e => by have := hlt h e.symm; omega
  have hv1 : Boxed w1 h 39 v := (hv.alloc tmp).kept hgrow hne
  have key : ∀ q : Nat → Prop, (∀ g, v.ownBlock = some g → q g) → q h → Apart q W (w1.setCell ⟨h, 0, none⟩ v') := fun q h1 h2 =>
    ((Apart.alloc q W tmp).trans (Apart.of_grown hgrow h1)).trans (Apart.set w1 v' h2)
  refine ⟨key _ ?_ ?_, ⟨v', hv1.set v', ?_, ?_⟩, hI.free, ?_⟩
  · intro g hg hh
    have h1 := hlt g hg
    have hh : T g ∨ g = h + 3 ∨ g = h + 3 + 1 := hh
    rcases hh with hh | hh
    · exact hfr g hg hh
    · omega
  · intro hh
    have hh : T h ∨ h = h + 3 ∨ h = h + 3 + 1 := hh
    rcases hh with hh | hh
    · exact hI.free hh
    · omega
  · have h1 := hown'.kept (grownBy_setCell' w1 h v') (.inr (hv1.not_row (by decide) hown').symm)
    rw [List.map_append, nmC_app]
    simpa [nmC] using h1
  · intro g hg ht
    rcases hat with e | e
    · rw [e] at hg; exact hfr g hg ht
    · rw [e] at hg
      obtain rfl := Option.some.inj hg
      have := hT _ ht
      simp at this; omega
  · exact hI.low.trans ((key (fun k => h ≤ k) (fun g hg => by have := hlt g hg; omega) (Nat.le_refl _)).below (Nat.le_of_lt hv.lt) (fun k hk => by omega))
set_option maxRecDepth 100000 in
set_option maxHeartbeats 4000000 in
theorem vNumbers_any (V : List (Int × Int × List Iv)) (v : Value) (w : World) (hv : VecM w v V) : Calls Tryd.prog 23 #[v] w (IsNR (numsV V) w) := by
  refine (callsIn_wide (n := 5)).1 ?_
  obtain ⟨i0, hi', hz0, hz1, hz2⟩ := info_parts infoU
  have hnl := (nums_len hv).2
  obtain ⟨p, cs, rfl⟩ := hv.shape
  obtain ⟨h, hh⟩ : ∃ h, w.heap.size = h := ⟨_, rfl⟩
  have HV := Lib.hid hv; clear hv
  have HH := Lib.hid hh; clear hh
  have KN := Lib.hid numbers_call
  have HNL := Lib.hid hnl; clear hnl
  refine callsIn_of_wp_marks Tryd.func23 rfl trivial ?_ rfl
  simp only [Tryd.ntmps23, List.size_toArray, List.length_cons, List.length_nil, Nat.reduceAdd, Nat.reduceSub, Array.replicate_succ, Array.replicate_zero, List.push_toArray, List.append_toArray, List.nil_append, List.cons_append]
  gi_wp2
  refine ⟨trivial, ?_⟩
  refine (callsIn_wide.2 (KN.out _ _ _ _ _ _ _)).mono ?_
  rintro en w3 ⟨rfl, hw3⟩
  have bL := Boxed.new w 39 (.slice none 0 0)
  have hB0 := below_new w (.cells #[.slice none 0 0] 39)
  have hs0 : (w.alloc (.cells #[.slice none 0 0] 39)).heap.size = h + 1 := by rw [← HH.out]; simp
  rw [hs0]
  have hb3 : Below (w.alloc (.cells #[.slice none 0 0] 39)).heap.size (w.alloc (.cells #[.slice none 0 0] 39)) w3 := hw3 ▸ below_call (below_new _ _) (below_new _ _)
  have hs3 : w3.heap.size = h + 3 := by rw [hw3]; simp only [World.size_alloc]; have := HH.out; omega
  have c0 : w3.cell? ⟨h + 1, 0, none⟩ = some (.slice p V.length cs) := by rw [← hs0, hw3]; exact keep_cell (by simp) (below_new _ _)
  have c1 : w3.cell? ⟨h + 1 + 1, 0, none⟩ = some (.slice p V.length cs) := by rw [hw3, World.cell?_alloc_at _ _ _ _ (by simp only [World.size_alloc]; have := HH.out; omega)]; rfl
  clear hw3
  have bL3 := (Apart.of_below (fun _ => False) hb3).boxed bL id
  have hB3 := below_call hB0 hb3
  rw [HH.out] at bL3 hB3 ⊢
  clear bL hB0 hs0 hb3
  have hwh : h ≤ w.heap.size := Nat.le_of_eq HH.out.symm
  gi_wp2
  refine range_t (n := 5) (by omega) (gf := 60) (lb := #[.pointer (some ⟨h + 1, 0, none⟩), .pointer (some ⟨h + 1 + 1, 0, none⟩)]) (encs := encN) (L := prV V V) (keep := fun k => k < h ∨ k = h + 1 ∨ k = h + 1 + 1)
    rfl (enters_of Tryd.func60 (by kernel_rfl) rfl) (fun _ => rfl) (fun k hk => by omega)
    (fun W hsW hb => by
      have hbw : Below w.heap.size w W := by rw [HH.out]; exact hB3.trans (hb.mono (by omega))
      exact numbers_iter _ (h + 1) (h + 1 + 1) _ _ V V w W _ (fun k hk => by rw [HH.out] at hk; exact .inl hk) (.inr (.inl rfl)) (.inr (.inr rfl)) hbw HV.out HV.out (keep_cell c0 hb) (keep_cell c1 hb))
    (NmI h w) (fun _ => False)
    (fun front T T' A B hI hx => hI.ext hx) (fun front T A B hI hab => hI.put (hab.mono fun k _ hk => by omega)) (fun A B hf _ => hf)
    ⟨⟨_, bL3, World.ownsRow_nil _ _ _ _, fun g hg => by simp [Value.ownBlock] at hg⟩, by omega, hB3⟩
    (fun x a' _ => a' = { tmps := #[.slice p V.length cs, undef, .slice none 0 0, .pointer (some ⟨h, 0, none⟩), .int .u64 x.1, .slice p V.length cs, .slice p V.length cs, .func (.func 60) #[] #[.pointer (some ⟨h + 1, 0, none⟩), .pointer (some ⟨h + 1 + 1, 0, none⟩)], .int .u64 x.1, .int .u64 x.2, undef, undef, undef, undef, undef], defers := [] })
    (fun x a' A B hx _ => hx) ?assign ?body ?done ?stop
  case assign =>
    rintro l2 front x T W K _ _ hK
    unfold encN
    gi_wp2
    exact hK _ _ (Below.refl _ _) (by simp)
  case body =>
    rintro l2 front x a' T W hI hT rfl hx hs
    obtain ⟨v, hv, hrow, hfr⟩ := hI.row
    have hcl := hv.cell
    have hfl : front.length + 1 ≤ 1000300001 := by
      have h1 := hx.length_le
      have h2 := HNL.out
      rw [pr_V, List.length_map] at h1
      simp at h1; omega
    have hm : front.length + 1 ≤ maxLen := by unfold maxLen; omega
    have hm2 : (front.length + 1) * 8 ≤ 140737488355328 := by omega
    have hm3 : h + 5 ≤ (W.alloc (.cells #[.int .u64 x.1] 34)).heap.size := by simp; omega
    have HI := Lib.hid hI; clear hI
    have HT := Lib.hid hT; clear hT
    have HF := Lib.hid hfr; clear hfr
    have HS3 := Lib.hid hs3; clear hs3
    clear hx
    gi_wp2_with (gi_at_builtin; refine wpListIn_append_own_at _ rfl _ _ 39 rfl (h + 5) 34 i0 (.int .u64 0) 1 8 Tryd.underlying39 hi' hz0 hz1 hz2 rfl (by decide) _ _ _ rfl (hrow.alloc _) ⟨W.heap.size, 0, none⟩ 1 1 [.int .u64 x.1] rfl rfl (cell_one_new _ _ _) (by simp [Value.oneCell']) hm hm2 hm3 ?_; intro v' w1 hown' hgrow _ hat; obtain ⟨g', cap', rfl⟩ := ownsRow_succ hown'; have hgr : (W.alloc (.cells #[.int .u64 x.1] 34)).grownBy w1 v.ownBlock := hgrow; clear hgrow; have HG := Lib.hid hgr; clear hgr; have HAT := Lib.hid hat; clear hat; have hv1 : Boxed w1 h 39 v := (hv.alloc _).kept HG.out (fun e => by have := own_lt9 hrow h e.symm; omega); have hc1 := hv1.cell; have hf1 := hv1.frozen; clear hv1)
    exact nm_stepped HI.out (fun k hk => (HT.out k hk).1) hv hrow HF.out hown' HG.out HAT.out rfl rfl _ HS3.out
  case done =>
    rintro D T W hD hszW hI hK
    obtain ⟨v, hv, hrow, _⟩ := hI.row
    have hcl := hv.cell
    obtain ⟨pp, cc, rfl, _⟩ := own_shape hrow
    have hDh : h ≤ D := by omega
    have HLOW := Lib.hid hI.low; clear hI
    have HS3 := Lib.hid hs3; clear hs3
    gi_wp2
    refine ⟨by simp, .inl ⟨_, _, rfl, run_takeDeferred hK, ?_⟩⟩
    refine ⟨_, results_tmp rfl _ _ _, _, rfl, ?_, ?_⟩
    · have hr := own_base (B' := h) (ownsRow_putObj hrow (.deferred none) hK rfl) (by omega)
      refine own_numR (B := h) ?_
      unfold OwnN
      simp only [pr_V, List.length_map] at hr ⊢
      simpa [Function.comp_def] using hr
    · rw [HH.out]
      exact HLOW.out.trans (belowK_b (w := w) hwh W D _ _ (by rw [HH.out]; exact hDh) hK rfl rfl)
  case stop =>
    rintro D W _ hf _
    exact hf.elim
end Go.Proofs.YtgeggdaokjimjaaDoor
