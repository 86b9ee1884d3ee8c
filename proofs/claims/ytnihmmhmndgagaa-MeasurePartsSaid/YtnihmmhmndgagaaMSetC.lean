/- The contracts of package measure. Conditions: the lists are correct, at most 20000 intervals; Split: at most 60, of a slice that reaches no further than its capacity. -/
import Derived.Test.YtnihmmhmndgagaaMSplit
import Derived.Test.YtnihmmhmndgagaaMRank
import Derived.Test.YtnihmmhmndgagaaMSeek
import Derived.Maps.AppendAt
namespace Go.Proofs.Ytnihmmhmndgagaa
open Go.RowKit
theorem ends_of {l : List Iv} : (l = [] ∧ firstV l = 0 ∧ lastV l = 0 ∧ someB l = false) ∨ ∃ (m : Nat) (y z : Iv), l.length = m + 1 ∧ l[0]? = some y ∧ l[m]? = some z ∧ firstV l = y.1 ∧ lastV l = z.2 ∧ someB l = true := by
  cases l with
  | nil => exact .inl ⟨rfl, rfl, rfl, rfl⟩
  | cons y r =>
    refine .inr ⟨r.length, y, (y :: r)[r.length], rfl, rfl, by simp, rfl, ?_, rfl⟩
    unfold lastV
    rw [List.getLast?_eq_getElem?, List.length_cons, Nat.add_sub_cancel]
    simp
set_option maxRecDepth 100000 in
theorem mHull_any (l : List Iv) (s : Value) (w : World) (ha : OpAt w s l) : Calls Try.prog 16 #[s] w (IsHull (firstV l) (lastV l) (someB l) w) := by
  obtain ⟨p, cap, rfl, _⟩ := ha.at'.shape
  rcases ends_of (l := l) with ⟨h0, h1, h3, h2⟩ | ⟨m, y, z, hm, hy, hz, h1, h3, h2⟩
  · rw [h1, h2, h3]
    have hl : l.length = 0 := by rw [h0]; rfl
    rw [hl]
    clear ha h0 h1 h2 h3 hl
    go_enter Try.func16, Try.ntmps16
    go_wp2_with fail
    refine bodyPost_ret (v := .tuple #[.agg #[.int .u64 0, .int .u64 0], .bool false]) (by simp [results, Try.results16, go_sem]) rfl ⟨rfl, ?_⟩
    first | exact Below.refl _ _ | exact below_new _ _ | exact below_alloc (below_new _ _) _
  · rw [h1, h2, h3]
    have hlen := ha.len
    obtain ⟨b, o, cp, e, _, c1⟩ := ha.at'.elem hz
    cases e
    have c0 := (ha.at'.cells hy).1
    rw [Nat.zero_mul, Nat.add_zero] at c0
    rw [hm] at hlen ⊢
    have hne : ¬ (m : Int) + 1 = 0 := by omega
    have i1 : (0 : Int) ≤ (m : Int) := by omega
    obtain ⟨y1, y2⟩ := y
    obtain ⟨z1, z2⟩ := z
    dsimp only at c0 c1 ⊢
    have d0 := keep_cell c0 (below_new w (.cells #[.int .u64 0, .int .u64 0] 37))
    have d1 := keep_cell c1 (below_new w (.cells #[.int .u64 0, .int .u64 0] 37))
    clear ha h1 h2 h3 hm hy hz
    go_enter Try.func16, Try.ntmps16
    go_wp2_with fail
    go_region
    all_goals go_wp2_with fail
    all_goals
      refine bodyPost_ret (v := .tuple #[.agg #[.int .u64 y1, .int .u64 z2], .bool true]) (by simp [results, Try.results16, go_sem]) rfl ⟨rfl, ?_⟩
      first | exact Below.refl _ _ | exact below_new _ _ | exact (below_new _ _).drew | exact below_alloc (below_new _ _) _
set_option maxRecDepth 100000 in
theorem mFirst_any (l : List Iv) (s : Value) (w : World) (ha : OpAt w s l) : Calls Try.prog 14 #[s] w (IsNB6 (firstV l) (someB l) w) := by
  have K := Lib.hid (mHull_any l s w ha)
  obtain ⟨p, cap, rfl, _⟩ := ha.at'.shape
  clear ha
  generalize firstV l = a at *
  generalize lastV l = b at *
  generalize someB l = r at *
  go_enter Try.func14, Try.ntmps14
  go_wp2_with fail
  refine K.out.mono ?_
  rintro e w1 ⟨rfl, h⟩
  have H := Lib.hid h; clear h
  go_wp2_with fail
  go_ret2
  exact ⟨rfl, below_call H.out (below_new _ _)⟩
set_option maxRecDepth 100000 in
theorem mLast_any (l : List Iv) (s : Value) (w : World) (ha : OpAt w s l) : Calls Try.prog 15 #[s] w (IsNB6 (lastV l) (someB l) w) := by
  have K := Lib.hid (mHull_any l s w ha)
  obtain ⟨p, cap, rfl, _⟩ := ha.at'.shape
  clear ha
  generalize firstV l = a at *
  generalize lastV l = b at *
  generalize someB l = r at *
  go_enter Try.func15, Try.ntmps15
  go_wp2_with fail
  refine K.out.mono ?_
  rintro e w1 ⟨rfl, h⟩
  have H := Lib.hid h; clear h
  go_wp2_with fail
  go_ret2
  exact ⟨rfl, below_call H.out (below_new _ _)⟩
theorem here_nth {l : List Iv} {n v : Int} {i : Nat} (hg : GoodL l) (h : Here l n i v) : nthL l n = some v := by
  obtain ⟨y, h1, h2, h3, rfl⟩ := h
  exact nth_at hg.ord6 h1 h2 h3
set_option maxRecDepth 100000 in
theorem mNth_any (l : List Iv) (s : Value) (n : Int) (w : World) (ha : OpAt w s l) (hn0 : 0 ≤ n) (hn1 : n ≤ 18446744073709551615) : Calls Try.prog 17 #[s, .int .u64 n] w (IsNB6 (nthV l n) (nthB l n) w) := by
  have K := Lib.hid (mSeek_any l s n w ha hn0 hn1)
  have h1 := fun i v (h : Here l n i v) => here_nth ha.good h
  have h2 := fun h => nth_gone ha.good.ord6 hn0 h
  have HH := Lib.hid (And.intro h1 h2)
  obtain ⟨p, cap, rfl, _⟩ := ha.at'.shape
  clear h1 h2 ha
  go_enter Try.func17, Try.ntmps17
  go_wp2_with fail
  refine K.out.mono ?_
  rintro e w1 ⟨⟨i, v, hh, rfl⟩ | ⟨hh, rfl⟩, h⟩
  · have e1 := HH.out.1 i v hh
    have HE := Lib.hid (And.intro (show nthV l n = v by unfold nthV; rw [e1]; rfl) (show nthB l n = true by unfold nthB; rw [e1]; rfl))
    have H := Lib.hid h; clear h hh e1
    go_wp2_with fail
    go_ret2
    exact ⟨by rw [HE.out.1, HE.out.2]; rfl, H.out⟩
  · have e1 := HH.out.2 hh
    have HE := Lib.hid (And.intro (show nthV l n = 0 by unfold nthV; rw [e1]; rfl) (show nthB l n = false by unfold nthB; rw [e1]; rfl))
    have H := Lib.hid h; clear h hh e1
    go_wp2_with fail
    go_ret2
    exact ⟨by rw [HE.out.1, HE.out.2]; rfl, H.out⟩
/-- A call that returns a copy of a list, of its own. -/
def IsCp (L : List Iv) (w : World) (e : Ending) (w' : World) : Prop := ∃ v, e = .returned v ∧ OwnL w' w.heap.size v L ∧ Below w.heap.size w w'
set_option maxRecDepth 100000 in
theorem clone_any (l : List Iv) (s : Value) (w : World) (ha : IvsAt w s l) (hsv : saneV s) (hl : l.length ≤ 60) : Calls Try.prog 32 #[s] w (IsCp l w) := by
  obtain ⟨p, cap, rfl, _⟩ := ha.shape
  have q22 : ∀ (w : World) (a : Option Addr) (n c n' c' : Nat), (binOp .eql 23 (.slice a n c) (.slice none n' c')).run Try.prog w = .ok (.bool a.isNone) w := fun w a n c n' c' => Lib.run_eql_slice_nil w _ _ a n c n' c' Try.underlying23
  cases p with
  | none =>
    obtain ⟨h1, rfl⟩ := hsv _ _ rfl
    obtain rfl : l = [] := List.eq_nil_of_length_eq_zero h1
    clear ha hsv hl h1
    go_enter Try.func32, Try.ntmps32
    go_wp2_with fail
    go_ret
    exact ⟨_, rfl, OwnL.nil _ _, Below.refl _ _⟩
  | some ad =>
    have HA := Lib.hid ha; clear ha
    have HS := Lib.hid hsv; clear hsv
    go_enter Try.func32, Try.ntmps32
    go_wp2_with (at_builtin; refine append_copy rfl _ _ w _ (below_new _ _) _ _ l rfl rfl rfl (World.ownsRow_made w #[] 0 (Nat.le_refl _) (Nat.zero_le _) (by simp)) (HA.out.call (below_new _ _)) HS.out hl ?_; intro v' w' ho hb; obtain ⟨q', c', rfl, _⟩ := own_shape ho; have HO := Lib.hid ho; have HB := Lib.hid hb; clear ho hb)
    go_ret
    exact ⟨_, rfl, HO.out, HB.out⟩
theorem ivs_take {w : World} {b o n c : Nat} {l : List Iv} (h : IvsAt w (.slice (some ⟨b, o, none⟩) n c) l) {i : Nat} (hi : i ≤ l.length) (c' : Nat) : IvsAt w (.slice (some ⟨b, o, none⟩) i c') (l.take i) := by
  obtain ⟨p, cp, e, hl, hc⟩ := h
  have e2 : (l.take i).length = i := by rw [List.length_take]; omega
  refine ⟨_, c', by rw [e2], by omega, fun hne => ⟨b, o, rfl, fun j x hj => ?_⟩⟩
  have hji : j < i := by have := (List.getElem?_eq_some_iff.1 hj).1; omega
  rw [List.getElem?_take_of_lt hji] at hj
  obtain ⟨b', o', e3, h6⟩ := hc (by rintro rfl; simp at hj)
  cases e; cases e3
  exact h6 j x hj
theorem ivs_drop {w : World} {b o n c : Nat} {l : List Iv} (h : IvsAt w (.slice (some ⟨b, o, none⟩) n c) l) (i c' : Nat) : IvsAt w (.slice (some ⟨b, o + i * 2, none⟩) (l.length - i) c') (l.drop i) := by
  obtain ⟨p, cp, e, hl, hc⟩ := h
  refine ⟨_, c', by rw [List.length_drop], by rw [List.length_drop]; omega, fun hne => ⟨b, o + i * 2, rfl, fun j x hj => ?_⟩⟩
  rw [List.getElem?_drop] at hj
  obtain ⟨b', o', e3, h6⟩ := hc (by rintro rfl; simp at hj)
  cases e; cases e3
  have := h6 (i + j) x hj
  rw [show o + i * 2 + j * 2 = o + (i + j) * 2 by omega]
  exact this
theorem lo_all {x : Int} : ∀ {l : List Iv}, (∀ z ∈ l, z.2 < x) → loL l x = l ∧ hiL l x = []
  | [], _ => ⟨rfl, rfl⟩
  | y :: l, h => by
    have ih := lo_all (x := x) (l := l) fun z hz => h z (by simp [hz])
    have h1 := h y (by simp)
    simp only [loL, hiL, if_pos h1, ih.1, ih.2, and_self]
theorem lo_none {x : Int} : ∀ {l : List Iv}, (∀ z ∈ l, x ≤ z.1 ∧ z.1 ≤ z.2) → loL l x = [] ∧ hiL l x = l
  | [], _ => ⟨rfl, rfl⟩
  | y :: l, h => by
    have ih := lo_none (x := x) (l := l) fun z hz => h z (by simp [hz])
    have h1 := h y (by simp)
    simp only [loL, hiL, if_neg (show ¬ y.2 < x by omega), if_pos h1.1, ih.1, ih.2, and_self]
/-- A list is cut within its i-th interval. -/
theorem cut_at {l : List Iv} (hg : GoodL l) {i : Nat} {y : Iv} (h : l[i]? = some y) {x : Int} (h1 : y.1 ≤ x) (h2 : x ≤ y.2) :
    loL l x = (if y.1 < x then l.take i ++ [(y.1, x - 1)] else l.take i) ∧ hiL l x = (if y.1 < x then (x, y.2) else y) :: l.drop (i + 1) := by
  obtain ⟨hi, hy⟩ := List.getElem?_eq_some_iff.1 h
  have hA := lo_all (x := x) (l := l.take i) fun z hz => by
    obtain ⟨j, hj⟩ := List.mem_iff_getElem?.1 hz
    have hji : j < i := by
      have := (List.getElem?_eq_some_iff.1 hj).1
      rw [List.length_take] at this; omega
    rw [List.getElem?_take_of_lt hji] at hj
    have := later hg.can hj h hji
    omega
  have hB := lo_none (x := x) (l := l.drop (i + 1)) fun z hz => by
    obtain ⟨j, hj⟩ := List.mem_iff_getElem?.1 hz
    rw [List.getElem?_drop] at hj
    have := later hg.can h hj (by omega)
    exact ⟨by omega, hg.ord6 z (List.mem_of_getElem? hj)⟩
  have hl : l = l.take i ++ y :: l.drop (i + 1) := by rw [← hy, ← List.drop_eq_getElem_cons hi, List.take_append_drop]
  have e1 : loL l x = loL (l.take i) x ++ loL (y :: l.drop (i + 1)) x := by rw [← lo_append, ← hl]
  have e2 : hiL l x = hiL (l.take i) x ++ hiL (y :: l.drop (i + 1)) x := by rw [← hi_append, ← hl]
  rw [e1, e2, hA.1, hA.2]
  simp only [loL, hiL, if_neg (show ¬ y.2 < x by omega), hB.1, hB.2]
  by_cases c : y.1 < x
  · simp only [if_pos c, if_neg (show ¬ x ≤ y.1 by omega), List.nil_append, and_self]
  · simp only [if_neg c, if_pos (show x ≤ y.1 by omega), List.append_nil, List.nil_append, and_self]
/-- The first number of a row is overwritten. -/
theorem OwnL.setFirst {W : World} {B g cap k : Nat} {y : Iv} {R : List Iv} (u : Int) (hk : (y :: R).length = k) (h : OwnL W B (.slice (some ⟨g, 0, none⟩) k cap) (y :: R)) :
    OwnL (W.setCell ⟨g, 0, none⟩ (.int .u64 u)) B (.slice (some ⟨g, 0, none⟩) k cap) ((u, y.2) :: R) := by
  subst hk
  have h1 : W.ownsRow B 37 2 (.slice (some ⟨g, 0, none⟩) (y :: R).length cap) (y :: R).length (ivC (y :: R)) := h
  exact (h1.stored 0 (.int .u64 u)).1
set_option maxRecDepth 100000 in
set_option maxHeartbeats 4000000 in
theorem mSplit_any (l : List Iv) (s : Value) (n : Int) (w : World) (ha : OpAt w s l) (hsv : SaneS s) (hl : l.length ≤ 60) (hn0 : 0 ≤ n) (hn1 : n ≤ 18446744073709551615) : Calls Try.prog 20 #[s, .int .u64 n] w (IsSplit (splitA l n) (splitB l n) w) := by
  have K := Lib.hid (mSeek_any l s n w ha hn0 hn1)
  have KC := Lib.hid clone_any
  have hgone := fun h => nth_gone (n := n) ha.good.ord6 hn0 h
  obtain ⟨p, cap, rfl, _⟩ := ha.at'.shape
  go_enter Try.func20, Try.ntmps20
  go_wp2_with fail
  refine K.out.mono ?_
  rintro e w1 ⟨⟨i, v, hh, rfl⟩ | ⟨hh, rfl⟩, h⟩
  · have hnth := here_nth ha.good hh
    obtain ⟨y, hy, hr0, hr1, rfl⟩ := hh
    have hil := (List.getElem?_eq_some_iff.1 hy).1
    have hrs := rk_succ hy
    have hgi := ha.good.all.at hy
    obtain ⟨b, o, cp, e, c0, c1⟩ := ha.at'.elem hy
    cases e
    have j3 : l.length ≤ cap := hsv.2 _ _ _ rfl
    have i1 : (0 : Int) ≤ (i : Int) := by omega
    have i2 : (i : Int) < (l.length : Int) := by omega
    have j1 : i ≤ cap := by omega
    have j2 : i ≤ l.length := by omega
    have d0 := keep_cell c0 h
    have HO1 := Lib.hid (ha.call h)
    have H := Lib.hid h; clear h
    have HNth := Lib.hid hnth; clear hnth
    have HY := Lib.hid (And.intro hy (And.intro hr0 (And.intro hr1 (And.intro hrs hgi)))); clear hy hr0 hr1 hrs hgi
    clear c0 c1 hgone ha hsv
    obtain ⟨y1, y2⟩ := y
    dsimp only at d0 HY HNth ⊢
    have hx0 : y1 ≤ y1 + (n - rk l i) := by have := HY.out.2.1; omega
    have hx1 : y1 + (n - rk l i) ≤ y2 := by have := HY.out.2.2.1; have := HY.out.2.2.2.1; omega
    have hy0 : 0 ≤ y1 := HY.out.2.2.2.2.1.1
    have hy2 : y2 ≤ 18446744073709551615 := HY.out.2.2.2.2.2.2
    generalize y1 + (n - rk l i) = x at *
    have hcut := cut_at HO1.out.good HY.out.1 hx0 hx1
    have hsA : splitA l n = loL l x := by unfold splitA; rw [HNth.out]
    have hsB : splitB l n = hiL l x := by unfold splitB; rw [HNth.out]
    rw [hcut.1] at hsA
    rw [hcut.2] at hsB
    dsimp only at hsA hsB
    have hdrop : l.drop i = (y1, y2) :: l.drop (i + 1) := by
      obtain ⟨h1, h2⟩ := List.getElem?_eq_some_iff.1 HY.out.1
      rw [List.drop_eq_getElem_cons h1, h2]
    have HAB := Lib.hid (And.intro hsA (And.intro hsB hdrop))
    clear hcut hsA hsB hdrop
    go_wp2_with fail
    refine wp_region_held_drew (S := fun w' => Below w1.heap.size w1 w') (by kernel_rfl) ((Below.refl _ _).drew) (fun hHeld => ?_)
    refine rtake (i := 0) (v := ?_) { dst := some 22, op := Op.move (Operand.tmp 0), type := 23, pos := _, after := #[], guard := none } rfl (by kernel_rfl) (by kernel_rfl) (by kernel_rfl) (fun _ _ _ h => h) (by rfl) hHeld ?_ ?_
    rotate_left
    · intro wS hSw; clear hSw; go_simp <;> with_reducible rfl
    try simp only [Act.put, List.setIfInBounds_toArray, List.set_cons_zero, List.set_cons_succ]
    refine rtake (i := 1) (v := ?_) { dst := some 23, op := Op.move (Operand.tmp 7), type := 3, pos := _, after := #[], guard := none } rfl (by kernel_rfl) (by kernel_rfl) (by kernel_rfl) (fun _ _ _ h => h) (by rfl) hHeld ?_ ?_
    rotate_left
    · intro wS hSw; clear hSw; go_simp <;> with_reducible rfl
    try simp only [Act.put, List.setIfInBounds_toArray, List.set_cons_zero, List.set_cons_succ]
    refine rtake (i := 2) (v := ?_) { dst := some 24, op := Op.move (Operand.tmp 7), type := 3, pos := _, after := #[], guard := none } rfl (by kernel_rfl) (by kernel_rfl) (by kernel_rfl) (fun _ _ _ h => h) (by rfl) hHeld ?_ ?_
    rotate_left
    · intro wS hSw; clear hSw; go_simp <;> with_reducible rfl
    try simp only [Act.put, List.setIfInBounds_toArray, List.set_cons_zero, List.set_cons_succ]
    refine rtake (i := 3) (v := ?_) { dst := some 25, op := Op.slice 23 (Operand.tmp 22) none (some (Operand.tmp 23)) (some (Operand.tmp 24)), type := 23, pos := _, after := #[{ on := 0, ground := Ground.data }, { on := 1, ground := Ground.data }, { on := 2, ground := Ground.data }], guard := none } rfl (by kernel_rfl) (by kernel_rfl) (by kernel_rfl) (fun _ _ _ h => h) (by rfl) hHeld ?_ ?_
    rotate_left
    · intro wS hSw; clear hSw; go_simp <;> with_reducible rfl
    try simp only [Act.put, List.setIfInBounds_toArray, List.set_cons_zero, List.set_cons_succ]
    refine rtake (i := 5) (v := ?_) { dst := some 27, op := Op.move (Operand.tmp 0), type := 23, pos := _, after := #[], guard := none } rfl (by kernel_rfl) (by kernel_rfl) (by kernel_rfl) (fun _ _ _ h => h) (by rfl) hHeld ?_ ?_
    rotate_left
    · intro wS hSw; clear hSw; go_simp <;> with_reducible rfl
    try simp only [Act.put, List.setIfInBounds_toArray, List.set_cons_zero, List.set_cons_succ]
    refine rtake (i := 6) (v := ?_) { dst := some 28, op := Op.move (Operand.tmp 7), type := 3, pos := _, after := #[], guard := none } rfl (by kernel_rfl) (by kernel_rfl) (by kernel_rfl) (fun _ _ _ h => h) (by rfl) hHeld ?_ ?_
    rotate_left
    · intro wS hSw; clear hSw; go_simp <;> with_reducible rfl
    try simp only [Act.put, List.setIfInBounds_toArray, List.set_cons_zero, List.set_cons_succ]
    refine rtake (i := 7) (v := ?_) { dst := some 29, op := Op.move (Operand.tmp 0), type := 23, pos := _, after := #[], guard := none } rfl (by kernel_rfl) (by kernel_rfl) (by kernel_rfl) (fun _ _ _ h => h) (by rfl) hHeld ?_ ?_
    rotate_left
    · intro wS hSw; clear hSw; go_simp <;> with_reducible rfl
    try simp only [Act.put, List.setIfInBounds_toArray, List.set_cons_zero, List.set_cons_succ]
    refine rtake (i := 8) (v := ?_) { dst := some 30, op := Op.call { callee := Callee.builtin Builtin.len, args := #[Operand.tmp 29], argTypes := #[23] }, type := 3, pos := _, after := #[{ on := 7, ground := Ground.data }], guard := none } rfl (by kernel_rfl) (by kernel_rfl) (by kernel_rfl) (fun _ _ _ h => h) (by rfl) hHeld ?_ ?_
    rotate_left
    · intro wS hSw; clear hSw; go_simp <;> with_reducible rfl
    try simp only [Act.put, List.setIfInBounds_toArray, List.set_cons_zero, List.set_cons_succ]
    refine rtake (i := 9) (v := ?_) { dst := some 31, op := Op.move (Operand.tmp 0), type := 23, pos := _, after := #[], guard := none } rfl (by kernel_rfl) (by kernel_rfl) (by kernel_rfl) (fun _ _ _ h => h) (by rfl) hHeld ?_ ?_
    rotate_left
    · intro wS hSw; clear hSw; go_simp <;> with_reducible rfl
    try simp only [Act.put, List.setIfInBounds_toArray, List.set_cons_zero, List.set_cons_succ]
    refine rtake (i := 10) (v := ?_) { dst := some 32, op := Op.call { callee := Callee.builtin Builtin.len, args := #[Operand.tmp 31], argTypes := #[23] }, type := 3, pos := _, after := #[{ on := 9, ground := Ground.data }], guard := none } rfl (by kernel_rfl) (by kernel_rfl) (by kernel_rfl) (fun _ _ _ h => h) (by rfl) hHeld ?_ ?_
    rotate_left
    · intro wS hSw; clear hSw; go_simp <;> with_reducible rfl
    try simp only [Act.put, List.setIfInBounds_toArray, List.set_cons_zero, List.set_cons_succ]
    refine rtake (i := 11) (v := ?_) { dst := some 33, op := Op.slice 23 (Operand.tmp 27) (some (Operand.tmp 28)) (some (Operand.tmp 30)) (some (Operand.tmp 32)), type := 23, pos := _, after := #[{ on := 5, ground := Ground.data }, { on := 6, ground := Ground.data }, { on := 8, ground := Ground.data }, { on := 10, ground := Ground.data }], guard := none } rfl (by kernel_rfl) (by kernel_rfl) (by kernel_rfl) (fun _ _ _ h => h) (by rfl) hHeld ?_ ?_
    rotate_left
    · intro wS hSw; clear hSw; go_simp <;> with_reducible rfl
    try simp only [Act.put, List.setIfInBounds_toArray, List.set_cons_zero, List.set_cons_succ]
    refine wpAnyH_ready (rs := [4]) (by kernel_rfl) (by simp) (AllReadyH.cons (o := { dst := some 26, op := Op.call { callee := Callee.value (Operand.func 32), args := #[Operand.tmp 25], argTypes := #[23] }, type := 23, pos := _, after := #[{ on := 3, ground := Ground.data }], guard := none }) rfl (fun K hK => ?_) AllReadyH.nil)
    go_simp
    refine (KC.out (l.take i) _ _ (ivs_take (HO1.out.call hHeld).at' (by omega) _) (fun _ _ e => by cases e) (by rw [List.length_take]; omega)).mono ?_
    rintro en wa ⟨va, rfl, hva, hbN⟩
    have HVa := Lib.hid hva; have HBa := Lib.hid hbN; clear hva hbN
    go_wp2_with fail
    refine hK.out _ _ (below_call hHeld HBa.out) (fun hNew => ?_)
    clear hK K hHeld
    have hHeld := hNew; clear hNew
    try simp only [Act.put, List.setIfInBounds_toArray, List.set_cons_zero, List.set_cons_succ]
    refine wpAnyH_ready (rs := [12]) (by kernel_rfl) (by simp) (AllReadyH.cons (o := { dst := some 34, op := Op.call { callee := Callee.value (Operand.func 32), args := #[Operand.tmp 33], argTypes := #[23] }, type := 23, pos := _, after := #[{ on := 11, ground := Ground.data }, { on := 4, ground := Ground.chain }], guard := none }) rfl (fun K hK => ?_) AllReadyH.nil)
    go_simp
    refine (KC.out (l.drop i) _ _ (ivs_drop (HO1.out.call hHeld).at' i _) (fun _ _ e => by cases e) (by rw [List.length_drop]; omega)).mono ?_
    rintro en wb ⟨vb, rfl, hvb, hbN⟩
    have HVb := Lib.hid hvb; have HBb := Lib.hid hbN; clear hvb hbN
    go_wp2_with fail
    refine hK.out _ _ (below_call hHeld HBb.out) (fun hNew => ?_)
    clear hK K hHeld
    have hHeld := hNew; clear hNew
    try simp only [Act.put, List.setIfInBounds_toArray, List.set_cons_zero, List.set_cons_succ]
    refine rtake (i := 13) (v := ?_) { dst := some 9, op := Op.assign (Operand.tmp 26), type := 23, pos := _, after := #[{ on := 4, ground := Ground.data }, { on := 12, ground := Ground.chain }, { on := 0, ground := Ground.phase }, { on := 1, ground := Ground.phase }, { on := 2, ground := Ground.phase }, { on := 3, ground := Ground.phase }, { on := 4, ground := Ground.phase }, { on := 5, ground := Ground.textOnly Departure.lateStores }, { on := 6, ground := Ground.textOnly Departure.lateStores }, { on := 7, ground := Ground.textOnly Departure.lateStores }, { on := 8, ground := Ground.textOnly Departure.lateStoresUnsure }, { on := 9, ground := Ground.textOnly Departure.lateStores }, { on := 10, ground := Ground.textOnly Departure.lateStoresUnsure }, { on := 11, ground := Ground.textOnly Departure.lateStoresUnsure }, { on := 12, ground := Ground.textOnly Departure.lateStoresUnsure }], guard := none } rfl (by kernel_rfl) (by kernel_rfl) (by kernel_rfl) (fun _ _ _ h => h) (by rfl) hHeld ?_ ?_
    rotate_left
    · intro wS hSw; clear hSw; go_simp <;> with_reducible rfl
    try simp only [Act.put, List.setIfInBounds_toArray, List.set_cons_zero, List.set_cons_succ]
    refine rtake (i := 14) (v := ?_) { dst := some 10, op := Op.assign (Operand.tmp 34), type := 23, pos := _, after := #[{ on := 12, ground := Ground.data }, { on := 13, ground := Ground.chain }, { on := 0, ground := Ground.phase }, { on := 1, ground := Ground.phase }, { on := 2, ground := Ground.phase }, { on := 3, ground := Ground.phase }, { on := 4, ground := Ground.phase }, { on := 5, ground := Ground.phase }, { on := 6, ground := Ground.phase }, { on := 7, ground := Ground.phase }, { on := 8, ground := Ground.phase }, { on := 9, ground := Ground.phase }, { on := 10, ground := Ground.phase }, { on := 11, ground := Ground.phase }, { on := 12, ground := Ground.phase }, { on := 13, ground := Ground.phase }], guard := none } rfl (by kernel_rfl) (by kernel_rfl) (by kernel_rfl) (fun _ _ _ h => h) (by rfl) hHeld ?_ ?_
    rotate_left
    · intro wS hSw; clear hSw; go_simp <;> with_reducible rfl
    try simp only [Act.put, List.setIfInBounds_toArray, List.set_cons_zero, List.set_cons_succ]
    refine wpAnyH_done (by kernel_rfl) ?_ _
    have dc := keep_cell d0 hHeld
    have hvb := HVb.out
    rw [HAB.out.2.2] at hvb
    have HVb2 := Lib.hid hvb; clear hvb HVb
    have hAB := And.intro HAB.out.1 HAB.out.2.1
    have HAB2 := Lib.hid hAB; clear hAB HAB
    have hlA : (l.take i).length ≤ 60 := by rw [List.length_take]; omega
    have hlR : (l.drop (i + 1)).length ≤ 60 := by rw [List.length_drop]; omega
    generalize l.take i = A at *
    generalize l.drop (i + 1) = R at *
    have hvb := HVb2.out
    obtain ⟨pa, ca, rfl, _⟩ := own_shape HVa.out
    obtain ⟨g, cb, rfl⟩ := ownsRow_succ (show wb.ownsRow _ _ _ vb (R.length + 1) _ from hvb)
    obtain ⟨hg0, hg1⟩ := ownL_lt hvb g (by simp [Value.ownBlock])
    have hva0 : OwnL wa w.heap.size _ A := own_base HVa.out H.out.size
    have hva := hva0.below HBb.out
    clear hva0
    have hka := ownL_lt HVa.out
    have hbw : Below w.heap.size w wb := below_call H.out hHeld
    by_cases hxy : y1 < x
    · have e1 : decide (y1 < x) = true := by simpa using hxy
      have hx1' : 1 ≤ x := by omega
      have hxU : x ≤ 18446744073709551615 := by omega
      obtain ⟨i0, hi', hz0, hz1, hz2⟩ := info_parts infoIv
      have HVA := Lib.hid (hva.below (below_new _ (.cells #[.int .u64 y1, .int .u64 (x - 1)] 37)))
      have HVB := Lib.hid (hvb.below (below_new _ (.cells #[.int .u64 y1, .int .u64 (x - 1)] 37)))
      have HBW := Lib.hid (below_alloc hbw (.cells #[.int .u64 y1, .int .u64 (x - 1)] 37))
      have HKA := Lib.hid hka
      have HG := Lib.hid (And.intro hg0 hg1)
      have HX := Lib.hid hxy
      have HWA : Hid (w.heap.size ≤ wa.heap.size) := Lib.hid (Nat.le_trans H.out.size HBa.out.size)
      have hws : w.heap.size ≤ wb.heap.size := hbw.size
      clear hva hvb hka hg0 hg1 hbw hxy hx0 hx1
      go_wp2_with (at_builtin; refine wpList_append_own_at _ rfl _ _ 23 rfl (w.heap.size) 37 i0 (.agg #[.int .u64 0, .int .u64 0]) 2 16 Try.underlying23 hi' hz0 hz1 hz2 rfl (by decide) _ _ _ rfl HVA.out ⟨wb.heap.size, 0, none⟩ 1 1 [.int .u64 y1, .int .u64 (x - 1)] rfl rfl (cell_two_at _ _ _ _ _ (by simp)) (by simp [Value.oneCell']) (by unfold maxLen; omega) (by omega) (by simp; omega) ?_; intro v' w2 hown' hgrow _ hat; obtain ⟨g', cap', rfl⟩ := ownsRow_succ hown'; have HOWN := Lib.hid hown'; have HGROW := Lib.hid hgrow; have HAT := Lib.hid hat; clear hown' hgrow hat; have hne : some g ≠ (Value.slice pa A.length ca).ownBlock := (fun e => by have h1 := (HKA.out g e.symm).2; have h2 := HG.out.1; omega); have hb2 := World.ownsRow.kept HVB.out HGROW.out (.inr hne); have k0 : w2.cell? ⟨g, 0, none⟩ = some (.int .u64 y1) := (hb2.cellAt 0 (by simp)).trans rfl; have k1 := hb2.frozenAt 0; have HB2 := Lib.hid hb2; clear hb2; have HNE := Lib.hid hne; clear hne)
      go_ret2
      have hA : OwnL w2 w.heap.size (.slice (some ⟨g', 0, none⟩) (A.length + 1) cap') (A ++ [(y1, x - 1)]) := by
        unfold OwnL
        rw [ivC_snoc, List.length_append]
        exact HOWN.out
      have hne : (Value.slice (some ⟨g', 0, none⟩) (A.length + 1) cap').ownBlock ≠ some g := by
        rcases HAT.out with h | h
        · rw [h]; exact fun e => HNE.out e.symm
        · rw [h]; intro e; have h1 := Option.some.inj e; have h2 := HG.out.2; rw [World.size_alloc] at h1; omega
      have h1 : OwnL (w2.setCell ⟨g, 0, none⟩ (.int .u64 x)) w.heap.size _ (A ++ [(y1, x - 1)]) := World.ownsRow.kept hA (grownBy_setCell' w2 g _) (.inr hne)
      have h2' : OwnL (w2.setCell ⟨g, 0, none⟩ (.int .u64 x)) wa.heap.size (.slice (some ⟨g, 0, none⟩) (R.length + 1) cb) ((x, y2) :: R) := OwnL.setFirst x rfl (show OwnL w2 wa.heap.size (.slice (some ⟨g, 0, none⟩) (R.length + 1) cb) ((y1, y2) :: R) from HB2.out)
      have h2 : OwnL (w2.setCell ⟨g, 0, none⟩ (.int .u64 x)) w.heap.size _ ((x, y2) :: R) := own_base h2' HWA.out
      have hb := (own_grown HBW.out HVA.out HGROW.out (by rw [World.size_alloc]; omega)).setCell (p := ⟨g, 0, none⟩) (Nat.le_trans HWA.out HG.out.1) (.int .u64 x)
      rw [HAB2.out.1, HAB2.out.2, if_pos HX.out, if_pos HX.out]
      exact ⟨.slice (some ⟨g', 0, none⟩) (A.length + 1) cap', .slice (some ⟨g, 0, none⟩) (R.length + 1) cb, rfl, h1.ivs (by simp; omega), h2.ivs (by simp; omega), softL_own h1, softL_own h2, hb⟩
    · have e1 : decide (y1 < x) = false := by simpa using hxy
      have HVA := Lib.hid hva
      have HVB := Lib.hid hvb
      have HBW := Lib.hid hbw
      have HX := Lib.hid hxy
      have HWA : Hid (w.heap.size ≤ wa.heap.size) := Lib.hid (Nat.le_trans H.out.size HBa.out.size)
      clear hva hvb hka hg0 hg1 hbw hxy hx0 hx1
      go_wp2_with fail
      go_ret2
      have h1 := HVA.out
      have h2 : OwnL wb w.heap.size _ ((y1, y2) :: R) := own_base HVB.out HWA.out
      rw [HAB2.out.1, HAB2.out.2, if_neg (show ¬ y1 < x by have := HX.out; omega), if_neg (show ¬ y1 < x by have := HX.out; omega)]
      exact ⟨.slice pa A.length ca, .slice (some ⟨g, 0, none⟩) (R.length + 1) cb, rfl, h1.ivs (by omega), h2.ivs (by simp; omega), softL_own h1, softL_own h2, HBW.out⟩
  · have e1 := hgone hh
    have hsA : splitA l n = l := by unfold splitA; rw [e1]
    have hsB : splitB l n = [] := by unfold splitB; rw [e1]
    have HAB := Lib.hid (And.intro hsA hsB)
    have HO1 := Lib.hid (ha.call h)
    have HS := Lib.hid hsv; clear hsv
    have H := Lib.hid h; clear h hh e1 hgone hsA hsB ha
    go_wp2_with fail
    refine (KC.out l _ w1 HO1.out.at' HS.out.1 hl).mono ?_
    rintro e w2 ⟨v, rfl, hv, h2⟩
    obtain ⟨pv, cv, rfl, _⟩ := own_shape hv
    have HV := Lib.hid hv; have H2 := Lib.hid h2; clear hv h2
    go_wp2_with fail
    go_ret2
    have hvw : OwnL w2 w.heap.size _ l := own_base HV.out H.out.size
    rw [HAB.out.1, HAB.out.2]
    exact ⟨.slice pv l.length cv, .slice none 0 0, rfl, hvw.ivs (by omega), (OwnL.nil _ w.heap.size : OwnL _ _ _ []).ivs (by simp), softL_own hvw, softL_own (OwnL.nil _ _), below_call H.out H2.out⟩
theorem measC : MeasC := ⟨mCount_any, mRank_any, mFirst_any, mLast_any, mHull_any, mNth_any, mSplit_any⟩
end Go.Proofs.Ytnihmmhmndgagaa
