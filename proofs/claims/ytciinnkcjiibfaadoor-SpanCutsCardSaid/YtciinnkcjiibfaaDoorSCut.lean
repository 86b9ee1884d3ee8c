/- Cut of package span: a slice of its own that holds the parts in order. Conditions: the ends are numbers of 64 bits. -/
import Derived.Test.YtciinnkcjiibfaaDoorSParts
import Derived.Maps.AppendAt
import Derived.RangeFuncBox
namespace Go.Proofs.YtciinnkcjiibfaaDoor
open Go.RowKit Go.Shelf Go.ChangeShapes Go.WideShapes
attribute [local go_sem] Oper.semAt_some

/-- The cells of a list of intervals. -/
def ivC (l : List Iv) : List Value := l.flatMap fun x => [.int .u64 x.1, .int .u64 x.2]
theorem ivC_snoc (l : List Iv) (x : Iv) : ivC (l ++ [x]) = ivC l ++ [.int .u64 x.1, .int .u64 x.2] := by simp [ivC]

theorem infoIv : (Tryd.prog.info? 24).map (fun i => (i.zero, i.size, i.bytes)) = some (some (.agg #[.int .u64 0, .int .u64 0]), 2, 16) := by kernel_rfl

theorem ownsRow_base {W : World} {base base' : Nat} {e : TypeId} {size : Nat} {v : Value} {k : Nat} {xs : List Value} (h : W.ownsRow base e size v k xs) (hb : base' ≤ base) : W.ownsRow base' e size v k xs := by
  refine ⟨h.1, ?_⟩
  rcases h.2 with h0 | ⟨g, cap, cur, h1, h2, h3⟩
  · exact .inl h0
  · exact .inr ⟨g, cap, cur, h1, Nat.le_trans hb h2, h3⟩
theorem ownsRow_block {W : World} {base : Nat} {e : TypeId} {size : Nat} {v : Value} {k : Nat} {xs : List Value} (h : W.ownsRow base e size v k xs) {j : Nat} (hj : j < base) : some j ≠ v.ownBlock := by
  rcases h.2 with ⟨rfl, _⟩ | ⟨g, cap, cur, rfl, h2, _⟩
  · simp [Value.ownBlock]
  · simp only [Value.ownBlock]
    intro e'
    have := Option.some.inj e'
    omega
theorem cell_append {W w1 : World} {tmp : Obj} {base bl : Nat} {e : TypeId} {size : Nat} {v v' : Value} {k : Nat} {xs : List Value} (hrow : W.ownsRow base e size v k xs) (hgrow : (W.alloc tmp).grownBy w1 v.ownBlock)
    {j o : Nat} {u : Value} (hj : j < base) (hne : j ≠ bl) (h : W.cell? ⟨j, o, none⟩ = some u) : (w1.setCell ⟨bl, 0, none⟩ v').cell? ⟨j, o, none⟩ = some u := by
  rw [World.cell?_setCell_other _ _ _ _ (fun e' => hne (congrArg Addr.block e').symm)]
  have hlt := World.block_lt_of_cell? W _ h
  have h2 : (W.alloc tmp).cell? ⟨j, o, none⟩ = some u := by rw [World.cell?_alloc_lt _ _ ⟨j, o, none⟩ hlt]; exact h
  exact (World.cell?_of_block (hgrow.block j (by simp; have : j < W.heap.size := hlt; omega) (ownsRow_block hrow hj))).trans h2
theorem KpC.append {ka kb : Nat} {W w1 : World} {tmp : Obj} {base bl : Nat} {e : TypeId} {size : Nat} {v v' : Value} {k : Nat} {xs : List Value} (hrow : W.ownsRow base e size v k xs) (hgrow : (W.alloc tmp).grownBy w1 v.ownBlock)
    (h1 : ka < base) (h2 : kb < base) (h3 : ka ≠ bl) (h4 : kb ≠ bl) : KpC ka kb W (w1.setCell ⟨bl, 0, none⟩ v') := fun _ _ =>
  ⟨fun x => cell_append hrow hgrow h1 h3 x, fun x => cell_append hrow hgrow h2 h4 x⟩
theorem KpC.alloc {ka kb : Nat} (W : World) (o : Obj) : KpC ka kb W (W.alloc o) := fun _ _ =>
  ⟨fun x => keep_cell x (below_new W o), fun x => keep_cell x (below_new W o)⟩
theorem cell_two_new (w : World) (x y : Value) (t : TypeId) : ∀ j u, [x, y][j]? = some u → (w.alloc (.cells #[x, y] t)).cell? ((⟨w.heap.size, 0, none⟩ : Addr).add j) = some u := by
  intro j u hj
  match j, hj with
  | 0, hj =>
    simp at hj
    subst hj
    rw [add_plain]
    simp
  | 1, hj =>
    simp at hj
    subst hj
    rw [add_plain]
    simp

/-- A call that returns a slice of its own. -/
def OwnIvs (l : List Iv) (w : World) (e : Ending) (w' : World) : Prop := ∃ v, e = .returned v ∧ w'.ownsRow w.heap.size 24 2 v l.length (ivC l) ∧ Below w.heap.size w w'

set_option maxRecDepth 100000 in
set_option maxHeartbeats 2000000 in
theorem cut_any (a b c d : Int) (w : World) (hd : 0 ≤ d ∧ d ≤ 18446744073709551615) (hc : 0 ≤ c ∧ c ≤ 18446744073709551615) (ha : 0 ≤ a) (hb : b ≤ 18446744073709551615) :
    Calls Tryd.prog 22 #[.agg #[.int .u64 a, .int .u64 b], .agg #[.int .u64 c, .int .u64 d]] w (OwnIvs (cutL a b c d) w) := by
  refine (callsIn_wide (n := 5)).1 ?_
  obtain ⟨i0, hi, hz0, hz1, hz2⟩ := info_parts infoIv
  have hlen : (cutL a b c d).length ≤ 2 := by
    unfold cutL frontL backL
    by_cases h1 : a < c <;> by_cases h2 : d < b <;> simp [h1, h2]
  have KP := Lib.hid (parts_call a b c d)
  refine callsIn_of_wp_marks Tryd.func22 rfl trivial ?_ rfl
  simp only [Tryd.ntmps22, List.size_toArray, List.length_cons, List.length_nil, Nat.reduceAdd, Nat.reduceSub, Array.replicate_succ, Array.replicate_zero, List.push_toArray, List.append_toArray, List.nil_append, List.cons_append]
  gi_wp2_with (refine ⟨trivial, ?_⟩; gi_at_call 30; refine (callsIn_wide.2 (KP.out _)).mono ?_; rintro e w' ⟨rfl, rfl⟩)
  have bL := ((Boxed.new ((w.alloc (.cells #[.int .u64 a, .int .u64 b] 24)).alloc (.cells #[.int .u64 c, .int .u64 d] 24)) 39 (.slice none 0 0)).alloc (.cells #[.int .u64 a, .int .u64 b] 24)).alloc (.cells #[.int .u64 c, .int .u64 d] 24)
  simp only [World.size_alloc] at bL
  have hA := At.new2 (At.new2 (w := ((w.alloc (.cells #[.int .u64 a, .int .u64 b] 24)).alloc (.cells #[.int .u64 c, .int .u64 d] 24)).alloc (.cells #[.slice none 0 0] 39)) (l := []) trivial (.int .u64 a) (.int .u64 b) 24 (w.heap.size + 1 + 1 + 1) (by simp)) (.int .u64 c) (.int .u64 d) 24 (w.heap.size + 1 + 1 + 1 + 1) (by simp)
  have hB0 := below_alloc (below_alloc (below_alloc (below_alloc (below_new w (.cells #[.int .u64 a, .int .u64 b] 24)) (.cells #[.int .u64 c, .int .u64 d] 24)) (.cells #[.slice none 0 0] 39)) (.cells #[.int .u64 a, .int .u64 b] 24)) (.cells #[.int .u64 c, .int .u64 d] 24)
  obtain ⟨W0, hW0⟩ : ∃ W0, ((((w.alloc (.cells #[.int .u64 a, .int .u64 b] 24)).alloc (.cells #[.int .u64 c, .int .u64 d] 24)).alloc (.cells #[.slice none 0 0] 39)).alloc (.cells #[.int .u64 a, .int .u64 b] 24)).alloc (.cells #[.int .u64 c, .int .u64 d] 24) = W0 := ⟨_, rfl⟩
  have hsz : W0.heap.size = w.heap.size + 1 + 1 + 1 + 1 + 1 := by rw [← hW0]; simp
  rw [hW0] at bL hA hB0 ⊢
  clear hW0
  refine wpIn_rangeFunc_ownH rfl (by omega) (gf := 37) (lb := #[.pointer (some ⟨w.heap.size + 1 + 1 + 1 + 1, 0, none⟩), .pointer (some ⟨w.heap.size + 1 + 1 + 1, 0, none⟩)]) rfl trivial (enters_of Tryd.func37 (by kernel_rfl) rfl)
    (parts1_in (5 - 1) (by omega) (w.heap.size + 1 + 1 + 1) (w.heap.size + 1 + 1 + 1 + 1) a b c d hd hc ha hb W0 ⟨hA.2.2.1, hA.2.2.2.1, hA.1, hA.2.1, trivial⟩) KpC.trans (fun W l o o' _ h hc _ => KpC.book W l o o' h hc) (Below.refl _ _) (fun _ => rfl)
    (fun pre W => (∃ v, Boxed W (w.heap.size + 1 + 1) 39 v ∧ W.ownsRow (w.heap.size + 1 + 1 + 1 + 1 + 1) 24 2 v pre.length (ivC pre) ∧ (v = .slice none 0 0 ↔ pre = [])) ∧ Below w.heap.size w W)
    (fun _ _ _ => False)
    (OwnFrom.and (Own.from (holdsRow_own (w.heap.size + 1 + 1 + 1 + 1 + 1) (w.heap.size + 1 + 1) 39 24 2 (fun pre => pre.length) (fun pre => ivC pre) (fun pre v => v = .slice none 0 0 ↔ pre = [])) _) (ownFrom_below (Nat.le_refl _) (by omega)))
    (fun _ _ _ _ _ hs _ _ => hs)
    ⟨⟨_, bL, World.ownsRow_nil _ _ _ _, by simp⟩, hB0⟩
    (fun x a' W => ∃ Bx, At W [(Bx, 0, .int .u64 x.1), (Bx, 1, .int .u64 x.2)] ∧ a' = { tmps := #[.agg #[.int .u64 a, .int .u64 b], .agg #[.int .u64 c, .int .u64 d], .pointer (some ⟨w.heap.size, 0, none⟩), .pointer (some ⟨w.heap.size + 1, 0, none⟩), .slice none 0 0, .pointer (some ⟨w.heap.size + 1 + 1, 0, none⟩), .pointer (some ⟨Bx, 0, none⟩), .agg #[.int .u64 a, .int .u64 b], .agg #[.int .u64 c, .int .u64 d], .func (.func 37) #[] #[.pointer (some ⟨w.heap.size + 1 + 1 + 1 + 1, 0, none⟩), .pointer (some ⟨w.heap.size + 1 + 1 + 1, 0, none⟩)], .agg #[.int .u64 x.1, .int .u64 x.2], undef, undef, undef, undef, undef], defers := [] })
    (fun x a' => Own.from (fun s A B row hs hg hr => by
      obtain ⟨Bx, hx, e⟩ := hs
      exact ⟨Bx, ⟨cell_kept hx.1 hg hr, cell_kept hx.2.1 hg hr, trivial⟩, e⟩) _) ?assign ?body ?done ?stop
  case assign =>
    rintro l pre x W K ⟨⟨v, hv, hrow, hnil⟩, hB⟩ hK
    unfold ivV
    gi_wp2
    exact hK _ _ ((KeepsOthers.alloc W _).from _) (KpC.alloc _ _) ⟨⟨v, hv.alloc _, hrow.alloc _, hnil⟩, below_alloc hB _⟩ ⟨W.heap.size, ⟨by simp, by simp, trivial⟩, rfl⟩
  case body =>
    rintro l pre x a' W hl ⟨r, hr⟩ ⟨⟨v, hv, hrow, hnil⟩, hB⟩ ⟨Bx, ⟨hx0, hx1, _⟩, rfl⟩ hlt
    have hcl := hv.cell
    have hs1 := hB.size
    have hs2 : l < W.heap.size := (Array.getElem?_eq_some_iff.1 hr).1
    have hm : pre.length + 1 ≤ maxLen := by unfold maxLen; omega
    have hm2 : (pre.length + 1) * 16 ≤ 140737488355328 := by omega
    have hm3 : w.heap.size + 1 + 1 + 1 + 1 + 1 ≤ (W.alloc (.cells #[.int .u64 x.1, .int .u64 x.2] 24)).heap.size := by simp; omega
    have HR := Lib.hid hr; clear hr
    have HS := Lib.hid hsz; clear hsz
    gi_wp2_with (gi_at_builtin; refine wpListIn_append_own _ rfl _ _ 39 rfl (w.heap.size + 1 + 1 + 1 + 1 + 1) 24 i0 (.agg #[.int .u64 0, .int .u64 0]) 2 16 Tryd.underlying39 hi hz0 hz1 hz2 rfl (by decide) _ _ _ rfl (hrow.alloc _) ⟨W.heap.size, 0, none⟩ 1 1 [.int .u64 x.1, .int .u64 x.2] rfl rfl (cell_two_new _ _ _ _) (by simp [Value.oneCell']) hm hm2 hm3 ?_; intro v' w1 hown' hgrow _; obtain ⟨g', cap', rfl⟩ := ownsRow_succ hown'; have hgr : (W.alloc (.cells #[.int .u64 x.1, .int .u64 x.2] 24)).grownBy w1 v.ownBlock := hgrow; clear hgrow; have HG := Lib.hid hgr; clear hgr; have hv1 : Boxed w1 (w.heap.size + 1 + 1) 39 v := (hv.alloc _).kept HG.out (ownsRow_block hrow (by omega)); have hc1 := hv1.cell; have hf1 := hv1.frozen; clear hv1)
    have hv1 : Boxed w1 (w.heap.size + 1 + 1) 39 v := (hv.alloc _).kept HG.out (ownsRow_block hrow (by omega))
    obtain ⟨_, hv2, _, hk2, hb2⟩ := hv.appended (by decide) (ownsRow_base hrow (base' := w.heap.size) (by omega)) hs1 (by omega) (ownsRow_base hown' (base' := w.heap.size) (by omega)) HG.out
    exact ⟨hk2.from _, KpC.append hrow HG.out (by omega) (by omega) (by omega) (by omega), ⟨_, hv2, by rw [ivC_snoc]; simpa using hown'.kept (grownBy_setCell' w1 (w.heap.size + 1 + 1) _) (.inr (hv1.not_row (by decide) hown').symm), by simp⟩, hB.trans hb2⟩
  case done =>
    rintro D ys W hD rfl ⟨⟨v, hv, hrow, hnil⟩, hB⟩ hK
    have hcl := hv.cell
    gi_wp2
    refine ⟨by simp, .inl ⟨_, _, rfl, run_takeDeferred hK, ?_⟩⟩
    exact ⟨_, results_tmp rfl _ _ _, v, rfl, ownsRow_base (ownsRow_putObj hrow _ hK rfl) (by omega), hB.trans (belowK_b (w := w) (Nat.le_refl _) W D _ _ (by omega) hK rfl rfl)⟩
  case stop =>
    rintro D c pre W _ _ h _
    exact h.elim
end Go.Proofs.YtciinnkcjiibfaaDoor
