/- slices.Collect and empty over the pieces of two lists. Conditions: the lists are correct, at most 20000 intervals. -/
import Derived.Test.YtefiobfljhmkkaaGreatDoorVPieces
import Derived.Maps.AppendAt
namespace Go.Proofs.YtefiobfljhmkkaaGreatDoor
open Go.RowKit Go.Shelf Go.ChangeShapes Go.WideShapes
attribute [local go_sem] Oper.semAt_some
/-- An iterator of intervals that may be ranged over from a world on, whose captured memory lies below c: whenever the loop begins. -/
def SeqX (gf : Nat) (lb : Array Value) (L : List Iv) (c : Nat) (w : World) : Prop :=
  L.length ≤ 100000 ∧ (∀ args W, (callFunc gf args).run Tryz.prog W = .ok (.enter gf args) W) ∧
  ∀ W0, c ≤ W0.heap.size → Below w.heap.size w W0 → IterX 4 Tryz.prog gf lb ivA L (fun k => W0.heap.size ≤ k ∧ k < W0.heap.size + 7) (fun k => k < c ∨ (W0.heap.size ≤ k ∧ k < W0.heap.size + 7)) (W0.heap.size + 7) W0
theorem ownsRow_block {W : World} {base : Nat} {e : TypeId} {size : Nat} {v : Value} {k : Nat} {xs : List Value} (h : W.ownsRow base e size v k xs) {j : Nat} (hj : j < base) : some j ≠ v.ownBlock := by
  rcases h.2 with ⟨rfl, _⟩ | ⟨g, cap, cur, rfl, h2, _⟩
  · simp [Value.ownBlock]
  · simp only [Value.ownBlock]
    intro e'
    have := Option.some.inj e'
    omega
/-- The box of the list that is gathered, and its elements. -/
structure ColI (h : Nat) (w : World) (front : List Iv) (W : World) : Prop where
  row : ∃ v, Boxed W h 33 v ∧ W.ownsRow (h + 3 + 7) 67 2 v front.length (ivC front)
  below : Below h w W
theorem ColI.apart {q : Nat → Prop} {h : Nat} {w : World} {front : List Iv} {A B : World} (hs : ColI h w front A) (hw : h ≤ w.heap.size) (hb : Apart q A B) (h0 : ∀ k, k ≤ h → ¬ q k) (h1 : ∀ k, h + 3 + 7 ≤ k → ¬ q k) : ColI h w front B := by
  obtain ⟨v, h2, h3⟩ := hs.row
  exact ⟨⟨v, hb.boxed h2 (h0 h (Nat.le_refl _)), hb.owns h3 h1⟩, hs.below.trans (hb.below (Nat.le_trans hw hs.below.size) fun k hk => h0 k (by omega))⟩
/-- The row's block lies in the world. -/
theorem ownsRow_lt {W : World} {base : Nat} {e : TypeId} {size : Nat} {v : Value} {k : Nat} {xs : List Value} (h : W.ownsRow base e size v k xs) : ∀ g, v.ownBlock = some g → base ≤ g ∧ g < W.heap.size := by
  intro g hg
  rcases h.2 with ⟨rfl, _⟩ | ⟨g', cap, cur, rfl, h2, h3, _⟩
  · simp [Value.ownBlock] at hg
  · obtain rfl : g' = g := by simpa [Value.ownBlock] using hg
    exact ⟨h2, (Array.getElem?_eq_some_iff.1 h3).1⟩
/-- What a round owes that has appended. -/
theorem col_stepped {h : Nat} {w : World} {front : List Iv} {x : Iv} {A0 W w1 : World} {tmp : Obj} {v v' : Value} {keep : Nat → Prop} {n : Nat} {ys : List Value} {a : Act}
    (hw : h ≤ w.heap.size) (hi : ColI h w front A0) (hap : Apart (fun k => k = h + 1 ∨ k = h + 1 + 1 ∨ (h + 3 ≤ k ∧ k < h + 3 + 7)) A0 W) (hz : h + 3 + 7 ≤ A0.heap.size)
    (hv : Boxed W h 33 v) (hrow : W.ownsRow (h + 3 + 7) 67 2 v front.length (ivC front)) (hown' : w1.ownsRow (h + 3 + 7) 67 2 v' n ys) (hgrow : (W.alloc tmp).grownBy w1 v.ownBlock)
    (hn : n = front.length + 1) (hys : ys = ivC front ++ [.int .u64 x.1, .int .u64 x.2]) (hk : ∀ k, keep k → k ≠ h ∧ (k < h ∨ k < h + 3 + 7)) (B : Nat) (hB : B = h + 1) :
    roundX B A0.heap.size keep (ColI h w) (fun _ => False) (front ++ [x]) W .normal a (w1.setCell ⟨h, 0, none⟩ v') := by
  subst hn hys hB
  obtain ⟨v0, hv0, hrow0⟩ := hi.row
  obtain rfl : v0 = v := by
    have h1 := (hap.boxed hv0 (by omega)).cell
    have h2 := hv.cell
    rw [h1] at h2
    exact Option.some.inj h2
  have hlt := ownsRow_lt hrow0
  have hv1 : Boxed w1 h 33 v0 := (hv.alloc tmp).kept hgrow (ownsRow_block hrow (by omega))
  have hiW := hi.apart hw hap (fun k hk => by omega) (fun k hk => by omega)
  have key : ∀ q : Nat → Prop, (∀ g, v0.ownBlock = some g → q g) → q h → Apart q W (w1.setCell ⟨h, 0, none⟩ v') := fun q h1 h2 =>
    ((Apart.alloc q W tmp).trans (Apart.of_grown hgrow h1)).trans (Apart.set w1 v' h2)
  refine ⟨key _ ?_ ?_, ⟨⟨v', hv1.set v', ?_⟩, ?_⟩⟩
  · intro g hg hh
    have h1 := hlt g hg
    have hh : keep g ∨ g = h + 1 ∨ g = h + 1 + 1 ∨ A0.heap.size ≤ g := hh
    rcases hh with hh | hh
    · have := hk g hh; omega
    · omega
  · intro hh
    have hh : keep h ∨ h = h + 1 ∨ h = h + 1 + 1 ∨ A0.heap.size ≤ h := hh
    rcases hh with hh | hh
    · exact (hk h hh).1 rfl
    · omega
  · have h1 := hown'.kept (grownBy_setCell' w1 h v') (.inr (hv1.not_row (by decide) hown').symm)
    rw [ivC_snoc]
    simpa using h1
  · refine hiW.below.trans ((key (fun k => h ≤ k) (fun g hg => by have := hlt g hg; omega) (Nat.le_refl _)).below (by have := hiW.below.size; omega) (fun k hk => by omega))
set_option maxRecDepth 100000 in
set_option maxHeartbeats 2000000 in
theorem appendSeq_any (gf : Nat) (lb : Array Value) (L : List Iv) (c : Nat) (w : World) (hS : SeqX gf lb L c w) (hc : c ≤ w.heap.size) :
    Calls Tryz.prog 60 #[.slice none 0 0, .func (.func gf) #[] lb] w (IsOwnR L w) := by
  refine (callsIn_wide (n := 5)).1 ?_
  obtain ⟨i0, hi, hz0, hz1, hz2⟩ := info_parts infoIv
  obtain ⟨hL, eg, hit⟩ := hS
  obtain ⟨h, hh⟩ : ∃ h, w.heap.size = h := ⟨_, rfl⟩
  have HC := Lib.hid hc; clear hc
  have HH := Lib.hid hh; clear hh
  refine callsIn_of_wp_marks Tryz.func60 rfl trivial ?_ rfl
  simp only [Tryz.ntmps60, List.size_toArray, List.length_cons, List.length_nil, Nat.reduceAdd, Nat.reduceSub, Array.replicate_succ, Array.replicate_zero, List.push_toArray, List.append_toArray, List.nil_append, List.cons_append]
  gi_wp2
  have bL := Boxed.new w 33 (.slice none 0 0)
  have hB0 := below_new w (.cells #[.slice none 0 0] 33)
  obtain ⟨w1, hw1⟩ : ∃ w1, w.alloc (.cells #[.slice none 0 0] 33) = w1 := ⟨_, rfl⟩
  have hs1 : w1.heap.size = h + 1 := by rw [← hw1, ← HH.out]; simp
  rw [hw1] at bL hB0 ⊢
  rw [HH.out] at bL hB0 ⊢
  clear hw1
  have hch : c ≤ h := HH.out ▸ HC.out
  have hwh : h ≤ w.heap.size := Nat.le_of_eq HH.out.symm
  refine range_x (n := 5) (by omega) (gf := gf) (lb := lb) (encs := ivA) (L := L) (own := fun k => h + 3 ≤ k ∧ k < h + 3 + 7) (keep := fun k => k < c ∨ (h + 3 ≤ k ∧ k < h + 3 + 7)) (lo := h + 3 + 7)
    rfl eg (fun _ => rfl) (fun k hk => by omega) (fun k hk => by omega)
    (fun W hsW hb => by
      have h1 := hit W (by omega) (by rw [HH.out]; exact hB0.trans (hb.mono (by omega)))
      rw [show W.heap.size = h + 3 by omega] at h1
      exact h1)
    (ColI h w) (fun _ => False) (fun k => k = h + 1 ∨ k = h + 1 + 1 ∨ (h + 3 ≤ k ∧ k < h + 3 + 7)) (by omega) (fun k hk => .inr (.inr hk))
    (fun front A B hI hab => hI.apart hwh hab (fun k hk => by omega) (fun k hk => by omega)) (fun _ _ hf _ => hf)
    ⟨⟨_, bL, World.ownsRow_nil _ _ _ _⟩, hB0⟩
    (fun z x a' W => ∃ Bx, z ≤ Bx ∧ At W [(Bx, 0, .int .u64 x.1), (Bx, 1, .int .u64 x.2)] ∧ a' = { tmps := #[.slice none 0 0, .func (.func gf) #[] lb, .pointer (some ⟨h, 0, none⟩), undef, .slice none 0 0, .pointer (some ⟨Bx, 0, none⟩), .func (.func gf) #[] lb, .agg #[.int .u64 x.1, .int .u64 x.2], undef, undef, undef, undef, undef], defers := [] })
    (fun z x a' A B hz _ hx hab => by
      obtain ⟨Bx, h1, h2, h3⟩ := hx
      exact ⟨Bx, h1, ⟨hab.cell h2.1 (by dsimp only; omega), hab.cell h2.2.1 (by dsimp only; omega), trivial⟩, h3⟩) ?assign ?body ?done ?stop
  case assign =>
    rintro l2 front x A0 W K _ hap _ hz hK
    unfold ivA
    have hz2 := hap.size
    gi_wp2
    exact hK _ _ (below_new _ _) ⟨W.heap.size, hz2, ⟨by simp, by simp, trivial⟩, rfl⟩
  case body =>
    rintro l2 front x a' A0 W hI hap ⟨Bx, hzB, ⟨hx0, hx1, _⟩, rfl⟩ hx hlo _
    have hIW := hI.apart hwh hap (fun k hk => by omega) (fun k hk => by omega)
    obtain ⟨v, hv, hrow⟩ := hIW.row
    have hcl := hv.cell
    have hfl : front.length + 1 ≤ 100000 := by have h1 := hx.length_le; simp at h1; omega
    have hsz2 := hap.size
    have hm : front.length + 1 ≤ maxLen := by unfold maxLen; omega
    have hm2 : (front.length + 1) * 16 ≤ 140737488355328 := by omega
    have hm3 : h + 3 + 7 ≤ (W.alloc (.cells #[.int .u64 x.1, .int .u64 x.2] 67)).heap.size := by simp; omega
    have HI := Lib.hid hI; clear hI hIW
    have HAP := Lib.hid hap; clear hap
    have HS1 := Lib.hid hs1; clear hs1
    clear hx
    gi_wp2_with (gi_at_builtin; refine wpListIn_append_own _ rfl _ _ 33 rfl (h + 3 + 7) 67 i0 (.agg #[.int .u64 0, .int .u64 0]) 2 16 Tryz.underlying33 hi hz0 hz1 hz2 rfl (by decide) _ _ _ rfl (hrow.alloc _) ⟨W.heap.size, 0, none⟩ 1 1 [.int .u64 x.1, .int .u64 x.2] rfl rfl (cell_two_at _ _ _ _ _ rfl) (by simp [Value.oneCell']) hm hm2 hm3 ?_; intro v' w1 hown' hgrow _; obtain ⟨g', cap', rfl⟩ := ownsRow_succ hown'; have hgr : (W.alloc (.cells #[.int .u64 x.1, .int .u64 x.2] 67)).grownBy w1 v.ownBlock := hgrow; clear hgrow; have HG := Lib.hid hgr; clear hgr; have hv1 : Boxed w1 h 33 v := (hv.alloc _).kept HG.out (ownsRow_block hrow (by omega)); have hc1 := hv1.cell; have hf1 := hv1.frozen; clear hv1)
    exact col_stepped hwh HI.out HAP.out hlo hv hrow hown' HG.out rfl rfl (fun k hk => by omega) _ HS1.out
  case done =>
    rintro D W hD hszW hI hK
    obtain ⟨v, hv, hrow⟩ := hI.row
    have hcl := hv.cell
    obtain ⟨pp, cc, rfl, _⟩ := own_shape hrow
    have hDh : h ≤ D := by omega
    clear hs1
    gi_wp2
    refine ⟨by simp, .inl ⟨_, _, rfl, run_takeDeferred hK, ?_⟩⟩
    refine ⟨_, results_tmp rfl _ _ _, _, rfl, ?_, ?_⟩
    · rw [HH.out]
      exact own_base (ownsRow_putObj hrow _ hK rfl) (by omega)
    · rw [HH.out]
      exact hI.below.trans (belowK_b (w := w) hwh W D _ _ (by rw [HH.out]; exact hDh) hK rfl rfl)
  case stop =>
    rintro D W _ hf _
    exact hf.elim
set_option maxRecDepth 100000 in
theorem collect_any (gf : Nat) (lb : Array Value) (L : List Iv) (c : Nat) (w : World) (hS : SeqX gf lb L c w) (hc : c ≤ w.heap.size) :
    Calls Tryz.prog 40 #[.func (.func gf) #[] lb] w (IsOwnR L w) := by
  have K := Lib.hid (appendSeq_any gf lb L c w hS hc); clear hS hc
  go_enter Tryz.func40, Tryz.ntmps40
  go_wp2_with (go_at_call 60; refine K.out.mono ?_)
  rintro e w1 ⟨v, rfl, hv, h1⟩
  have HV := Lib.hid hv; have H1 := Lib.hid h1; clear hv h1
  go_wp2_with fail
  go_ret
  exact ⟨v, rfl, HV.out, H1.out⟩
theorem res_cell1 {fn : Func} {p : Tmp} {ty : TypeId} (h : fn.results = #[.cell p ty]) (tmps : Array Value) (P : Program) (w : World) (a : Addr) (x : Value) (hp : tmps.getD p undef = .pointer (some a))
    (hx : (loadVar ty a).run P w = .ok x w) : (results fn tmps).run P w = .ok x w := by
  have ha : ∀ (v : Value) (c : Addr), v = .pointer (some c) → (asAddr v).run P w = .ok c w := fun v c e => by subst e; rfl
  have h1 : (asAddr (tmps[p]?.getD undef)).run P w = .ok a w := by simpa using ha _ _ hp
  simp only [results, h]
  simp [Sem.run_bind, Result.andThen, h1, hx]
theorem loadB {W : World} {b : Nat} {v : Value} (h : Boxed W b 4 v) : (loadVar 4 ⟨b, 0, none⟩).run Tryz.prog W = .ok v W := by
  have hc := h.cell
  have h2 := Tryz.isAgg4
  go_simp
set_option maxRecDepth 100000 in
set_option maxHeartbeats 2000000 in
theorem empty_any (gf : Nat) (lb : Array Value) (L : List Iv) (c : Nat) (w : World) (hS : SeqX gf lb L c w) (hc : c ≤ w.heap.size) :
    Calls Tryz.prog 54 #[.func (.func gf) #[] lb] w (IsEnd (decide (L = [])) w) := by
  refine (callsIn_wide (n := 5)).1 ?_
  obtain ⟨hL, eg, hit⟩ := hS
  clear hL
  obtain ⟨h, hh⟩ : ∃ h, w.heap.size = h := ⟨_, rfl⟩
  have HC := Lib.hid hc; clear hc
  have HH := Lib.hid hh; clear hh
  refine callsIn_of_wp_marks Tryz.func54 rfl trivial ?_ rfl
  simp only [Tryz.ntmps54, List.size_toArray, List.length_cons, List.length_nil, Nat.reduceAdd, Nat.reduceSub, Array.replicate_succ, Array.replicate_zero, List.push_toArray, List.append_toArray, List.nil_append, List.cons_append]
  gi_wp2
  have bL := Boxed.new w 4 (.bool false)
  have hB0 := below_new w (.cells #[.bool false] 4)
  obtain ⟨w1, hw1⟩ : ∃ w1, w.alloc (.cells #[.bool false] 4) = w1 := ⟨_, rfl⟩
  have hs1 : w1.heap.size = h + 1 := by rw [← hw1, ← HH.out]; simp
  rw [hw1] at bL hB0 ⊢
  rw [HH.out] at bL hB0 ⊢
  clear hw1
  have hch : c ≤ h := HH.out ▸ HC.out
  have hwh : h ≤ w.heap.size := Nat.le_of_eq HH.out.symm
  have kp : ∀ (A B : World), (Boxed A h 4 (.bool false) ∧ Below h w A) → Apart (fun k => k = h + 1 ∨ k = h + 1 + 1 ∨ (h + 3 ≤ k ∧ k < h + 3 + 7)) A B → (Boxed B h 4 (.bool false) ∧ Below h w B) := fun A B hI hab =>
    ⟨hab.boxed hI.1 (by omega), hI.2.trans (hab.below (Nat.le_trans hwh hI.2.size) fun k hk => by omega)⟩
  refine range_x (n := 5) (by omega) (gf := gf) (lb := lb) (encs := ivA) (L := L) (own := fun k => h + 3 ≤ k ∧ k < h + 3 + 7) (keep := fun k => k < c ∨ (h + 3 ≤ k ∧ k < h + 3 + 7)) (lo := h + 3 + 7)
    rfl eg (fun _ => rfl) (fun k hk => by omega) (fun k hk => by omega)
    (fun W hsW hb => by
      have h1 := hit W (by omega) (by rw [HH.out]; exact hB0.trans (hb.mono (by omega)))
      rw [show W.heap.size = h + 3 by omega] at h1
      exact h1)
    (fun front W => front = [] ∧ (Boxed W h 4 (.bool false) ∧ Below h w W)) (fun W => L ≠ [] ∧ (Boxed W h 4 (.bool false) ∧ Below h w W)) (fun k => k = h + 1 ∨ k = h + 1 + 1 ∨ (h + 3 ≤ k ∧ k < h + 3 + 7)) (by omega) (fun k hk => .inr (.inr hk))
    (fun front A B hI hab => ⟨hI.1, kp _ _ hI.2 hab⟩) (fun A B hI hab => ⟨hI.1, kp _ _ hI.2 hab⟩)
    ⟨rfl, bL, hB0⟩
    (fun _ x a' _ => a' = { tmps := #[.func (.func gf) #[] lb, undef, .pointer (some ⟨h, 0, none⟩), .func (.func gf) #[] lb, .agg #[.int .u64 x.1, .int .u64 x.2]], defers := [] })
    (fun z x a' A B _ _ hx _ => hx) ?assign ?body ?done ?stop
  case assign =>
    rintro l2 front x A0 W K _ _ _ _ hK
    unfold ivA
    gi_wp2
    exact hK _ _ (Below.refl _ _) (by simp)
  case body =>
    rintro l2 front x a' A0 W hI hap rfl hx hlo _
    have hz := hap.size
    obtain ⟨_, hv, hb⟩ := (⟨hI.1, kp _ _ hI.2 hap⟩ : front = [] ∧ _)
    have hcl := hv.cell
    have hfz := hv.frozen
    have HV := Lib.hid hv; clear hv
    have HB := Lib.hid hb; clear hb
    have HX := Lib.hid hx; clear hx
    have HI := Lib.hid hI; clear hI
    have HAP := Lib.hid hap; clear hap
    have HS1 := Lib.hid hs1; clear hs1
    clear kp
    gi_wp2
    have hs1 := HS1.out
    refine ⟨Apart.set _ _ ?_, ?_, HV.out.set _, HB.out.trans ((Below.refl h W).setCell (p := ⟨h, 0, none⟩) (Nat.le_refl _) _)⟩
    · intro hn
      have hn : (h < c ∨ (h + 3 ≤ h ∧ h < h + 3 + 7)) ∨ h = w1.heap.size ∨ h = w1.heap.size + 1 ∨ A0.heap.size ≤ h := hn
      omega
    · rintro rfl
      have := HX.out.length_le
      simp at this
  case done =>
    rintro D W hD hszW ⟨hLn, hv, hb⟩ hK
    have hcl := hv.cell
    have hfz := hv.frozen
    have HV := Lib.hid hv; clear hv
    have HB := Lib.hid hb; clear hb
    have HK := Lib.hid hK; clear hK
    have HS1 := Lib.hid hs1; clear hs1
    have HD := Lib.hid hD; clear hD
    clear kp
    gi_wp2
    have hs1 := HS1.out
    have hD := HD.out
    have hK2 : (W.setCell ⟨h, 0, none⟩ (.bool true)).heap[D]? = some (.deferred (some [])) := (Apart.set (q := fun k => k = h) W (o := 0) (.bool true) rfl).obj HK.out (by omega)
    have hv2 := Apart.boxed (q := fun k => k = D) (Apart.put _ (.deferred none) rfl) (HV.out.set (.bool true)) (by omega)
    refine ⟨by simp, .inl ⟨_, _, rfl, run_takeDeferred hK2, ?_⟩⟩
    refine ⟨_, res_cell1 rfl _ _ _ ⟨h, 0, none⟩ _ rfl (loadB hv2), ?_, ?_⟩
    · rw [hLn]; rfl
    · rw [HH.out]
      refine (HB.out.setCell (p := ⟨h, 0, none⟩) (Nat.le_refl _) (.bool true)).trans (belowK_b (w := w) hwh _ D _ _ (by rw [HH.out]; omega) hK2 rfl rfl)
  case stop =>
    rintro D W hD ⟨hLn, hv, hb⟩ hK
    have HV := Lib.hid hv; clear hv
    have HB := Lib.hid hb; clear hb
    have HK := Lib.hid hK; clear hK
    have HS1 := Lib.hid hs1; clear hs1
    have HD := Lib.hid hD; clear hD
    clear kp
    gi_wp2
    have hs1 := HS1.out
    have hD := HD.out
    have hv2 := Apart.boxed (q := fun k => k = D) (Apart.put _ (.deferred none) rfl) HV.out (by omega)
    refine ⟨by simp, .inl ⟨_, _, rfl, run_takeDeferred HK.out, ?_⟩⟩
    refine ⟨_, res_cell1 rfl _ _ _ ⟨h, 0, none⟩ _ rfl (loadB hv2), ?_, ?_⟩
    · rw [decide_eq_false hLn]
    · rw [HH.out]
      exact HB.out.trans (belowK_b (w := w) hwh _ D _ _ (by rw [HH.out]; omega) HK.out rfl rfl)
end Go.Proofs.YtefiobfljhmkkaaGreatDoor
