/- The reference's Split: the numbers of a list below a rank, and the others. Conditions: the list is correct, at most 60 intervals. -/
import Derived.Test.YtnihmmhmndgagaaMSet
namespace Go.Proofs.Ytnihmmhmndgagaa
open Go.RowKit
theorem lo_append (x : Int) : ∀ (a b : List Iv), loL (a ++ b) x = loL a x ++ loL b x
  | [], _ => rfl
  | y :: a, b => by
    have ih := lo_append x a b
    simp only [List.cons_append, loL, ih]
    split
    · rfl
    · split <;> rfl
theorem hi_append (x : Int) : ∀ (a b : List Iv), hiL (a ++ b) x = hiL a x ++ hiL b x
  | [], _ => rfl
  | y :: a, b => by
    have ih := hi_append x a b
    simp only [List.cons_append, hiL, ih]
    split
    · rfl
    · split <;> rfl
/-- Two rows of a call's own, the second one's block behind the first one's. -/
structure TwoRows (w : World) (A B : List Iv) (va vb : Value) (T : Nat) (W : World) : Prop where
  ra : OwnL W w.heap.size va A
  lt : ∀ g, va.ownBlock = some g → g < T
  rb : OwnL W T vb B
  low : w.heap.size ≤ T
  top : T ≤ W.heap.size
  below : Below w.heap.size w W
theorem TwoRows.call {w : World} {A B : List Iv} {va vb : Value} {T : Nat} {W W' : World} (h : TwoRows w A B va vb T W) (hb : Below W.heap.size W W') : TwoRows w A B va vb T W' :=
  ⟨h.ra.below hb, h.lt, h.rb.below hb, h.low, Nat.le_trans h.top hb.size, below_call h.below hb⟩
/-- With nothing in the second row its blocks may begin at the heap's end. -/
theorem TwoRows.bump {w : World} {A : List Iv} {va : Value} {T : Nat} {W : World} (h : TwoRows w A [] va (.slice none 0 0) T W) : TwoRows w A [] va (.slice none 0 0) W.heap.size W :=
  ⟨h.ra, fun g hg => Nat.lt_of_lt_of_le (h.lt g hg) h.top, OwnL.nil _ _, Nat.le_trans h.low h.top, Nat.le_refl _, h.below⟩
theorem ownL_lt {W : World} {B : Nat} {v : Value} {L : List Iv} (h : OwnL W B v L) : ∀ g, v.ownBlock = some g → B ≤ g ∧ g < W.heap.size := by
  intro g hg
  rcases h.2 with ⟨rfl, _⟩ | ⟨g', cap, cur, rfl, h2, h3, _⟩
  · simp [Value.ownBlock] at hg
  · obtain rfl : g' = g := by simpa [Value.ownBlock] using hg
    exact ⟨h2, (Array.getElem?_eq_some_iff.1 h3).1⟩
/-- Behind an append to the first row. -/
theorem TwoRows.left {w : World} {A : List Iv} {va v' : Value} {T : Nat} {W w1 : World} {n : Nat} {ys : List Value} {y : Iv} (h : TwoRows w A [] va (.slice none 0 0) T W) (ho : w1.ownsRow w.heap.size 37 2 v' n ys) (hg : W.grownBy w1 va.ownBlock)
    (hn : n = A.length + 1) (hys : ys = ivC A ++ [.int .u64 y.1, .int .u64 y.2]) : TwoRows w (A ++ [y]) [] v' (.slice none 0 0) w1.heap.size w1 := by
  subst hn hys
  have h1 : OwnL w1 w.heap.size v' (A ++ [y]) := by unfold OwnL; rw [ivC_snoc]; simpa using ho
  refine ⟨h1, fun g hg => (ownL_lt h1 g hg).2, OwnL.nil _ _, ?_, Nat.le_refl _, own_grown h.below h.ra hg (Nat.le_trans h.low h.top)⟩
  exact Nat.le_trans h.low (Nat.le_trans h.top hg.size)
/-- Behind an append to the second row. -/
theorem TwoRows.right {w : World} {A B : List Iv} {va vb v' : Value} {T : Nat} {W w1 : World} {n : Nat} {ys : List Value} {y : Iv} (h : TwoRows w A B va vb T W) (ho : w1.ownsRow T 37 2 v' n ys) (hg : W.grownBy w1 vb.ownBlock)
    (hn : n = B.length + 1) (hys : ys = ivC B ++ [.int .u64 y.1, .int .u64 y.2]) : TwoRows w A (B ++ [y]) va v' T w1 := by
  subst hn hys
  have h1 : OwnL w1 T v' (B ++ [y]) := by unfold OwnL; rw [ivC_snoc]; simpa using ho
  refine ⟨?_, h.lt, h1, h.low, Nat.le_trans h.top hg.size, own_grown h.below (own_base (B' := w.heap.size) h.rb h.low) hg (Nat.le_trans h.low h.top)⟩
  have hra : W.ownsRow w.heap.size 37 2 va A.length (ivC A) := h.ra
  refine hra.kept hg ?_
  rcases hra.2 with ⟨rfl, _⟩ | ⟨g, cap, cur, rfl, _⟩
  · exact .inl rfl
  · refine .inr fun e => ?_
    have h2 := h.lt g (by simp [Value.ownBlock])
    have h3 := (ownL_lt h.rb g (by rw [← e]; simp [Value.ownBlock])).1
    omega
theorem TwoRows.split {w : World} {A B : List Iv} {va vb : Value} {T : Nat} {W : World} (h : TwoRows w A B va vb T W) (ha : A.length ≤ 1048576) (hb : B.length ≤ 1048576) : IsSplit A B w (.returned (.tuple #[va, vb])) W :=
  ⟨va, vb, rfl, h.ra.ivs ha, OwnL.ivs (B := w.heap.size) (own_base h.rb h.low) hb, softL_own h.ra, softL_own (B := w.heap.size) (own_base h.rb h.low), h.below⟩
set_option maxRecDepth 100000 in
set_option maxHeartbeats 4000000 in
theorem refSplit_none (l : List Iv) (s : Value) (n : Int) (w : World) (ha : OpAt w s l) (hsv : saneV s) (hl : l.length ≤ 60) (hn0 : 0 ≤ n) (hn1 : n ≤ 18446744073709551615) (hn : nthL l n = none) :
    Calls Try.prog 21 #[s, .int .u64 n] w (IsSplit l [] w) := by
  obtain ⟨p, cap, rfl, _⟩ := ha.at'.shape
  have k := refNth_any l _ n w ha hn0 hn1
  rw [show nthV l n = 0 from by unfold nthV; rw [hn]; rfl, show nthB l n = false from by unfold nthB; rw [hn]; rfl] at k
  have K := Lib.hid k; clear k hn hn0 hn1
  have HA := Lib.hid ha; clear ha
  have HS := Lib.hid hsv; clear hsv
  go_enter Try.func21, Try.ntmps21
  go_wp2_with fail
  refine K.out.mono ?_
  rintro e w1 ⟨rfl, h1⟩
  have H1 := Lib.hid h1; clear h1
  go_wp2_with (at_builtin; refine append_copy rfl _ _ w _ (below_alloc H1.out _) _ _ l rfl rfl rfl (own_none _ _ rfl _ H1.out.size) ((HA.out.at'.call H1.out).call (below_new _ _)) HS.out hl ?_; intro v' w' ho hb; obtain ⟨q', c', rfl, _⟩ := own_shape ho; have HO := Lib.hid ho; have HBB := Lib.hid hb; clear ho hb)
  go_ret2
  exact ⟨_, _, rfl, HO.out.ivs (by omega), (OwnL.nil _ w.heap.size : OwnL _ _ _ []).ivs (by simp), softL_own HO.out, softL_own (OwnL.nil _ _), HBB.out⟩
theorem lo_snoc {l : List Iv} {k : Nat} {y : Iv} (h : l[k]? = some y) (x : Int) : loL (l.take (k + 1)) x = loL (l.take k) x ++ loL [y] x := by
  rw [show l.take (k + 1) = l.take k ++ [y] from by rw [List.take_add_one, h]; rfl, lo_append]
theorem hi_snoc {l : List Iv} {k : Nat} {y : Iv} (h : l[k]? = some y) (x : Int) : hiL (l.take (k + 1)) x = hiL (l.take k) x ++ hiL [y] x := by
  rw [show l.take (k + 1) = l.take k ++ [y] from by rw [List.take_add_one, h]; rfl, hi_append]
theorem later {l : List Iv} (hc : canon l) {i j : Nat} {y z : Iv} (hi : l[i]? = some y) (hj : l[j]? = some z) (hij : i < j) : y.2 < z.1 := by
  have hd := canon_drop i hc
  obtain ⟨h1, h2⟩ := List.getElem?_eq_some_iff.1 hi
  rw [List.drop_eq_getElem_cons h1, h2] at hd
  have hm : z ∈ l.drop (i + 1) := List.mem_of_getElem? (i := j - (i + 1)) (by rw [List.getElem?_drop, show i + 1 + (j - (i + 1)) = j by omega]; exact hj)
  have := canon_behind _ _ hd.2.2 hd.2.1 z hm
  omega
set_option maxRecDepth 100000 in
set_option maxHeartbeats 8000000 in
theorem refSplit_some (l : List Iv) (s : Value) (n x : Int) (w : World) (ha : OpAt w s l) (hl : l.length ≤ 60) (hn0 : 0 ≤ n) (hn1 : n ≤ 18446744073709551615) (hn : nthL l n = some x) :
    Calls Try.prog 21 #[s, .int .u64 n] w (IsSplit (loL l x) (hiL l x) w) := by
  obtain ⟨p, cap, rfl, _⟩ := ha.at'.shape
  obtain ⟨i0, hi', hz0, hz1, hz2⟩ := info_parts infoIv
  have k := refNth_any l _ n w ha hn0 hn1
  rw [show nthV l n = x from by unfold nthV; rw [hn]; rfl, show nthB l n = true from by unfold nthB; rw [hn]; rfl] at k
  obtain ⟨hhas, _, _⟩ := nth_spec ha.good.can hn0 hn
  obtain ⟨y, hy, hy1, hy2⟩ := (hasL_iff _ _).1 hhas
  have hv0 : 0 ≤ x := by have := ha.good.ok y hy; omega
  have hv1 : x ≤ 18446744073709551615 := by have := (ha.good.all y hy).2; omega
  have K := Lib.hid k; clear k hn hn0 hn1 hhas hy hy1 hy2 y
  have HA := Lib.hid ha; clear ha
  go_enter Try.func21, Try.ntmps21
  go_wp2_with fail
  refine K.out.mono ?_
  rintro e w1 ⟨rfl, h1⟩
  have H1 := Lib.hid h1; clear h1
  go_wp2_with fail
  go_loopw [8, 9, 10] (fun va vb i wr => ∃ k T : Nat, i = .int .i64 k ∧ k ≤ l.length ∧ TwoRows w (loL (l.take k) x) (hiL (l.take k) x) va vb T wr ∧ ((vb = .slice none 0 0 ∧ hiL (l.take k) x = []) ∨ (∀ j z, k ≤ j → l[j]? = some z → x ≤ z.1))) (fun _ _ i _ => l.length - (intOf i).toNat)
  case atStart => exact ⟨0, w1.heap.size, rfl, Nat.zero_le _, ⟨OwnL.nil _ _, fun g hg => by simp [Value.ownBlock] at hg, OwnL.nil _ _, H1.out.size, Nat.le_refl _, H1.out⟩, .inl ⟨rfl, rfl⟩⟩
  case round =>
    obtain ⟨k, T, rfl, hk, hrows, hph⟩ := hrel
    by_cases hlt : k < l.length
    · have hy : l[k]? = some l[k] := by simp [hlt]
      have h64 := HA.out.good.all.at hy
      have hord := HA.out.good.ord6 _ (List.mem_of_getElem? hy)
      have hlo := lo_snoc hy x
      have hhi := hi_snoc hy x
      have hlater := fun j z hj hz => later HA.out.good.can hy (j := j) (z := z) hz hj
      obtain ⟨b, o, cp, e, c0, c1⟩ := HA.out.at'.elem hy
      cases e
      have hA60 : (loL (l.take k) x).length ≤ 60 := Nat.le_trans (lo_len _) (Nat.le_trans (by rw [List.length_take]; omega : (l.take k).length ≤ l.length) hl)
      have hB60 : (hiL (l.take k) x).length ≤ 60 := Nat.le_trans (hi_len _) (Nat.le_trans (by rw [List.length_take]; omega : (l.take k).length ≤ l.length) hl)
      have hself : ∀ z, l[k]? = some z → z = l[k] := fun z hz => by rw [hy] at hz; exact (Option.some.inj hz).symm
      generalize l[k] = y at *
      generalize loL (l.take k) x = A at *
      generalize hiL (l.take k) x = B at *
      obtain ⟨y1, y2⟩ := y
      obtain ⟨⟨g0, g1⟩, g2, g3⟩ := h64
      dsimp only at c0 c1 g0 g1 g2 g3 hord hlater
      have d0 := keep_cell c0 hrows.below
      have d1 := keep_cell c1 hrows.below
      have HSelf := Lib.hid hself; clear hself
      have HPH := Lib.hid hph; clear hph
      have HLt := Lib.hid hlater; clear hlater
      have HLO := Lib.hid (And.intro hlo hhi); clear hlo hhi
      have HY := Lib.hid hy
      have HR := Lib.hid hrows; clear hrows
      clear c0 c1 hy
      have i1 : (0 : Int) ≤ (k : Int) := by omega
      have i2 : (k : Int) < (l.length : Int) := by omega
      by_cases hA : y2 < x
      · have e1 : decide (y2 < x) = true := by simpa using hA
        have hnil : u9 = .slice none 0 0 ∧ B = [] := HPH.out.resolve_right (fun h => by have := h k _ (Nat.le_refl _) HY.out; dsimp only at this; omega)
        obtain ⟨rfl, rfl⟩ := hnil
        have HR1 := Lib.hid (HR.out.call (below_alloc (below_new _ (.cells #[.int .u64 y1, .int .u64 y2] 37)) (.cells #[.int .u64 y1, .int .u64 y2] 37)))
        have hs1 : w.heap.size ≤ wr.heap.size := Nat.le_trans HR.out.low HR.out.top
        have HE := Lib.hid hA; clear hA
        go_wp2_with (at_builtin; refine wpList_append_own _ rfl _ _ 23 rfl (w.heap.size) 37 i0 (.agg #[.int .u64 0, .int .u64 0]) 2 16 Try.underlying23 hi' hz0 hz1 hz2 rfl (by decide) _ _ _ rfl HR1.out.ra ⟨wr.heap.size + 1, 0, none⟩ 1 1 [.int .u64 y1, .int .u64 y2] rfl rfl (cell_two_at _ _ _ _ _ (by simp)) (by simp [Value.oneCell']) (by unfold maxLen; omega) (by omega) (by simp; omega) ?_; intro v' w2 hown' hgrow _; obtain ⟨g', cap', rfl⟩ := ownsRow_succ hown'; have HR2 := Lib.hid (HR1.out.left (y := (y1, y2)) hown' hgrow rfl rfl); clear hown' hgrow)
        go_roundw
        case rel => exact ⟨k + 1, w2.heap.size, by go_num, by omega, by rw [HLO.out.1, HLO.out.2, show loL [(y1, y2)] x = [(y1, y2)] from by simp [loL, HE.out], show hiL [(y1, y2)] x = [] from by simp [hiL, HE.out]]; exact HR2.out, .inl ⟨rfl, by rw [HLO.out.2]; simp [hiL, HE.out]⟩⟩
        case measure => simp [intOf]; omega
      · have e1 : decide (y2 < x) = false := by simpa using hA
        by_cases hB : x ≤ y1
        · have e2 : decide (x ≤ y1) = true := by simpa using hB
          have HR1 := Lib.hid (HR.out.call (below_alloc (below_new _ (.cells #[.int .u64 y1, .int .u64 y2] 37)) (.cells #[.int .u64 y1, .int .u64 y2] 37)))
          obtain ⟨qq, cq, hu9, _⟩ := own_shape HR.out.rb
          subst hu9
          have HE := Lib.hid (And.intro hA hB); clear hA hB
          go_wp2_with (at_builtin; refine wpList_append_own _ rfl _ _ 23 rfl (T) 37 i0 (.agg #[.int .u64 0, .int .u64 0]) 2 16 Try.underlying23 hi' hz0 hz1 hz2 rfl (by decide) _ _ _ rfl HR1.out.rb ⟨wr.heap.size + 1, 0, none⟩ 1 1 [.int .u64 y1, .int .u64 y2] rfl rfl (cell_two_at _ _ _ _ _ (by simp)) (by simp [Value.oneCell']) (by unfold maxLen; omega) (by omega) HR1.out.top ?_; intro v' w2 hown' hgrow _; obtain ⟨g', cap', rfl⟩ := ownsRow_succ hown'; have HR2 := Lib.hid (HR1.out.right (y := (y1, y2)) hown' hgrow rfl rfl); clear hown' hgrow)
          go_roundw
          case rel => exact ⟨k + 1, T, by go_num, by omega, by rw [HLO.out.1, HLO.out.2, show loL [(y1, y2)] x = [] from by simp [loL, HE.out.1, HE.out.2], show hiL [(y1, y2)] x = [(y1, y2)] from by simp [hiL, HE.out.1, HE.out.2], List.append_nil]; exact HR2.out, .inr fun j z hj hz => by have := HLt.out j z (by omega) hz; have := HE.out.2; omega⟩
          case measure => simp [intOf]; omega
        · have e2 : decide (x ≤ y1) = false := by simpa using hB
          have hx1 : 1 ≤ x := by omega
          have hnil : u9 = .slice none 0 0 ∧ B = [] := HPH.out.resolve_right (fun h => by have := h k _ (Nat.le_refl _) HY.out; dsimp only at this; omega)
          obtain ⟨rfl, rfl⟩ := hnil
          have HR1 := Lib.hid (HR.out.call (below_alloc (below_new _ (.cells #[.int .u64 y1, .int .u64 y2] 37)) (.cells #[.int .u64 y1, .int .u64 (x - 1)] 37)))
          have hs1 : w.heap.size ≤ wr.heap.size := Nat.le_trans HR.out.low HR.out.top
          have HE := Lib.hid (And.intro hA hB); clear hA hB
          go_wp2_with (first
            | (at_builtin; refine wpList_append_own _ rfl _ _ 23 rfl (w2.heap.size) 37 i0 (.agg #[.int .u64 0, .int .u64 0]) 2 16 Try.underlying23 hi' hz0 hz1 hz2 rfl (by decide) _ _ _ rfl (HR2.out.call (below_new _ _)).rb ⟨w2.heap.size, 0, none⟩ 1 1 [.int .u64 x, .int .u64 y2] rfl rfl (cell_two_at _ _ _ _ _ rfl) (by simp [Value.oneCell']) (by unfold maxLen; omega) (by omega) (HR2.out.call (below_new _ _)).top ?_; intro v3 w3 hown' hgrow _; obtain ⟨g3, cap3, rfl⟩ := ownsRow_succ hown'; have HR3 := Lib.hid ((HR2.out.call (below_new _ _)).right (y := (x, y2)) hown' hgrow rfl rfl); clear hown' hgrow)
            | (at_builtin; refine wpList_append_own _ rfl _ _ 23 rfl (w.heap.size) 37 i0 (.agg #[.int .u64 0, .int .u64 0]) 2 16 Try.underlying23 hi' hz0 hz1 hz2 rfl (by decide) _ _ _ rfl HR1.out.ra ⟨wr.heap.size + 1, 0, none⟩ 1 1 [.int .u64 y1, .int .u64 (x - 1)] rfl rfl (cell_two_at _ _ _ _ _ (by simp)) (by simp [Value.oneCell']) (by unfold maxLen; omega) (by omega) (by simp; omega) ?_; intro v' w2 hown' hgrow _; obtain ⟨g', cap', rfl⟩ := ownsRow_succ hown'; have hc2 : w2.cell? ⟨wr.heap.size, 1, none⟩ = some (.int .u64 y2) := (World.cell?_of_block (hgrow.block wr.heap.size (by simp; omega) (fun e => by have := HR.out.lt _ e.symm; have := HR.out.top; omega))).trans (by simp); have HR2 := Lib.hid (HR1.out.left (y := (y1, x - 1)) hown' hgrow rfl rfl); clear hown' hgrow))
          go_roundw
          case rel => exact ⟨k + 1, w2.heap.size, by go_num, by omega, by rw [HLO.out.1, HLO.out.2, show loL [(y1, y2)] x = [(y1, x - 1)] from by simp [loL, HE.out.1, HE.out.2], show hiL [(y1, y2)] x = [(x, y2)] from by simp [hiL, HE.out.1, HE.out.2]]; exact HR3.out, .inr fun j z hj hz => by have := HLt.out j z (by omega) hz; have := HE.out.1; omega⟩
          case measure => simp [intOf]; omega
    · obtain rfl : k = l.length := by omega
      rw [List.take_length] at hrows
      have HR := Lib.hid hrows; clear hrows hph
      go_wp2_with fail
      go_ret2
      exact HR.out.split (by have := lo_len (x := x) l; omega) (by have := hi_len (x := x) l; omega)
theorem refSplit6_any (l : List Iv) (s : Value) (n : Int) (w : World) (ha : OpAt w s l) (hsv : SaneS s) (hl : l.length ≤ 60) (hn0 : 0 ≤ n) (hn1 : n ≤ 18446744073709551615) :
    Calls Try.prog 21 #[s, .int .u64 n] w (IsSplit (splitA l n) (splitB l n) w) := by
  unfold splitA splitB
  cases hn : nthL l n with
  | none => exact refSplit_none l s n w ha hsv.1 hl hn0 hn1 hn
  | some x => exact refSplit_some l s n x w ha hl hn0 hn1 hn
end Go.Proofs.Ytnihmmhmndgagaa
