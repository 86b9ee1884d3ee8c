/- The intervals of a list with their ranks, as package measure walks over them: counts of package word, and the iterator parts. Conditions: the list is correct, at most 20000 intervals, kept in memory between two rounds. -/
import Derived.Test.YtefiobfljhmkkaaMSet
import Derived.Test.YtefiobfljhmkkaaVApart
import Derived.Test.YtefiobfljhmkkaaVEdge
import Derived.Shelf.Abstract
import Derived.Shelf.RegionOpen
import Derived.WalkKit
import Derived.OwnWalkIn
import Derived.TacticsInMore
import Derived.LoopNIn
import Derived.LoopIn
import Derived.WalkLawsBesides
namespace Go.Proofs.Ytefiobfljhmkkaa
open Go.RowKit Go.Shelf
attribute [local go_sem] Oper.semAt_some
/-- How many numbers are in front of the i-th interval. -/
def rk (l : List Iv) (i : Nat) : Int := cntL (l.take i)
theorem cnt_append : ∀ (a b : List Iv), cntL (a ++ b) = cntL a + cntL b
  | [], b => by simp [cntL]
  | y :: a, b => by
    have ih := cnt_append a b
    simp only [List.cons_append, cntL, ih]; omega
theorem rk_zero (l : List Iv) : rk l 0 = 0 := by simp [rk, cntL]
theorem rk_succ {l : List Iv} {i : Nat} {y : Iv} (h : l[i]? = some y) : rk l (i + 1) = rk l i + (y.2 - y.1 + 1) := by
  unfold rk
  rw [show l.take (i + 1) = l.take i ++ [y] from by rw [List.take_add_one, h]; rfl, cnt_append]
  simp [cntL]
theorem rk_last (l : List Iv) : rk l l.length = cntL l := by simp [rk]
theorem rk_nn {l : List Iv} (h : GoodL l) (i : Nat) : 0 ≤ rk l i := cnt_nn fun y hy => h.ord6 y (List.mem_of_mem_take hy)
theorem rk_max {l : List Iv} (h : GoodL l) (i : Nat) : rk l i ≤ 18446744073709551616 := by
  have h1 := (cnt_max h).2
  have h2 : 0 ≤ cntL (l.drop i) := cnt_nn fun y hy => h.ord6 y (List.mem_of_mem_drop hy)
  have h3 : cntL (l.take i) + cntL (l.drop i) = cntL l := by rw [← cnt_append, List.take_append_drop]
  unfold rk
  unfold UM at h1
  omega
theorem width_c (lo hi : Int) (w : World) (h0 : 0 ≤ lo) (h : lo ≤ hi) (h1 : hi ≤ 18446744073709551615) : Calls Try.prog 74 #[.int .u64 lo, .int .u64 hi] w (IsC (hi - lo + 1) w) :=
  w_width_le lo hi _ _ w h0 h h1 rfl rfl
theorem plus_c (r s : Int) (w : World) (hr0 : 0 ≤ r) (hr1 : r ≤ 18446744073709551616) (hs0 : 0 ≤ s) (hs1 : s ≤ 18446744073709551616) :
    Calls Try.prog 16 #[.agg #[.int .u64 (r / 18446744073709551616), .int .u64 (r % 18446744073709551616)], .agg #[.int .u64 (s / 18446744073709551616), .int .u64 (s % 18446744073709551616)]] w (IsC (r + s) w) :=
  w_plus_any _ _ _ _ _ ((r % 18446744073709551616 + s % 18446744073709551616) / 18446744073709551616) _ w (by omega) (by omega) (by omega) (by omega) (by omega) (by omega) (by omega) (by omega) (by omega)
/-- What Compare says of a number and a count. -/
def cV (n r : Int) : Int := w_cmpC 0 n (r / 18446744073709551616) (r % 18446744073709551616)
/-- Two cells of a count in memory. -/
def Cnt (W : World) (b : Nat) (q r : Int) : Prop := W.heap[b]? = some (.cells #[.int .u64 q, .int .u64 r] 33 (0, 0))
section
variable {W : World} {b : Nat} {q r : Int}
theorem Cnt.lt (h : Cnt W b q r) : b < W.heap.size := (Array.getElem?_eq_some_iff.1 h).1
theorem Cnt.c0 (h : Cnt W b q r) : W.cell? ⟨b, 0, none⟩ = some (.int .u64 q) := by simp [World.cell?, show W.heap[b]? = _ from h]
theorem Cnt.c1 (h : Cnt W b q r) : W.cell? ⟨b, 1, none⟩ = some (.int .u64 r) := by simp [World.cell?, show W.heap[b]? = _ from h]
theorem Cnt.f0 (h : Cnt W b q r) : W.frozen? ⟨b, 0, none⟩ = false := by simp [World.frozen?, show W.heap[b]? = _ from h]
theorem Cnt.f1 (h : Cnt W b q r) : W.frozen? ⟨b, 1, none⟩ = false := by simp [World.frozen?, show W.heap[b]? = _ from h]
theorem Cnt.new (W : World) (q r : Int) : Cnt (W.alloc (.cells #[.int .u64 q, .int .u64 r] 33)) W.heap.size q r := World.alloc_heap_new W _
theorem Cnt.set (h : Cnt W b q r) (q' r' : Int) : Cnt ((W.setCell ⟨b, 0, none⟩ (.int .u64 q')).setCell ⟨b, 1, none⟩ (.int .u64 r')) b q' r' := by
  have h1 : (W.setCell ⟨b, 0, none⟩ (.int .u64 q')).heap[b]? = some (.cells #[.int .u64 q', .int .u64 r] 33 (0, 0)) := by
    obtain ⟨hlt, hk⟩ := Array.getElem?_eq_some_iff.1 h
    show (W.heap.modify b _)[b]? = _
    rw [Array.getElem?_eq_getElem (by rw [Array.size_modify]; exact hlt), Array.getElem_modify_self, hk]
    rfl
  obtain ⟨hlt, hk⟩ := Array.getElem?_eq_some_iff.1 h1
  show ((W.setCell ⟨b, 0, none⟩ (.int .u64 q')).heap.modify b _)[b]? = _
  rw [Array.getElem?_eq_getElem (by rw [Array.size_modify]; exact hlt), Array.getElem_modify_self, hk]
  rfl
theorem Cnt.apart {p : Nat → Prop} {A B : World} (h : Cnt A b q r) (hb : Apart p A B) (hn : ¬ p b) : Cnt B b q r := hb.obj h hn
theorem Cnt.below {A B : World} (h : Cnt A b q r) (hb : Below A.heap.size A B) : Cnt B b q r := (hb.block b h.lt).trans h
end
def pLo (l : List Iv) (i : Nat) : Int := (l.getD i (0, 0)).1
def pHi (l : List Iv) (i : Nat) : Int := (l.getD i (0, 0)).2
/-- The i-th interval of a list as it is handed on. -/
def encP (l : List Iv) (i : Nat) : Array Value :=
  #[.agg #[.int .u64 (pLo l i), .int .u64 (pHi l i), .int .i64 i, .int .u64 (rk l i / 18446744073709551616), .int .u64 (rk l i % 18446744073709551616),
    .int .u64 (rk l (i + 1) / 18446744073709551616), .int .u64 (rk l (i + 1) % 18446744073709551616)]]
/-- The call of parts: the closure over a new box. -/
def IsPt (s : Value) (w : World) (e : Ending) (w' : World) : Prop := e = .returned (.func (.func 73) #[] #[.pointer (some ⟨w.heap.size, 0, none⟩)]) ∧ w' = w.alloc (.cells #[s] 41)
theorem parts_call (p : Option Addr) (m c : Nat) (w : World) : Calls Try.prog 59 #[.slice p m c] w (IsPt (.slice p m c) w) := by
  go_enter Try.func59, Try.ntmps59
  go_wp2
  go_ret
  exact ⟨rfl, rfl⟩
theorem four_set {W w1 : World} {k m p : Nat} {a b c d : Value} (h : Below W.heap.size W w1 ∧ w1.cell? ⟨k, 0, none⟩ = some a ∧ w1.cell? ⟨k, 1, none⟩ = some b ∧ w1.cell? ⟨m, 0, none⟩ = some c ∧ w1.cell? ⟨m, 1, none⟩ = some d)
    (hp : W.heap.size ≤ p) (hk : k < W.heap.size) (hm : m < W.heap.size) (u v : Value) :
    Below W.heap.size W ((w1.setCell ⟨p, 0, none⟩ u).setCell ⟨p, 1, none⟩ v) ∧ ((w1.setCell ⟨p, 0, none⟩ u).setCell ⟨p, 1, none⟩ v).cell? ⟨k, 0, none⟩ = some a ∧ ((w1.setCell ⟨p, 0, none⟩ u).setCell ⟨p, 1, none⟩ v).cell? ⟨k, 1, none⟩ = some b ∧
      ((w1.setCell ⟨p, 0, none⟩ u).setCell ⟨p, 1, none⟩ v).cell? ⟨m, 0, none⟩ = some c ∧ ((w1.setCell ⟨p, 0, none⟩ u).setCell ⟨p, 1, none⟩ v).cell? ⟨m, 1, none⟩ = some d := by
  have far : ∀ (j o : Nat), j < W.heap.size → ((w1.setCell ⟨p, 0, none⟩ u).setCell ⟨p, 1, none⟩ v).cell? ⟨j, o, none⟩ = w1.cell? ⟨j, o, none⟩ := fun j o hj => by
    rw [World.cell?_setCell_other _ _ _ _ (fun e => by cases e; omega), World.cell?_setCell_other _ _ _ _ (fun e => by cases e; omega)]
  exact ⟨(h.1.setCell (p := ⟨p, 0, none⟩) hp _).setCell (p := ⟨p, 1, none⟩) hp _, by rw [far _ _ hk]; exact h.2.1, by rw [far _ _ hk]; exact h.2.2.1, by rw [far _ _ hm]; exact h.2.2.2.1, by rw [far _ _ hm]; exact h.2.2.2.2⟩
theorem range_next {m n : Nat} (h : m < n) : List.range m ++ [m] <+: List.range n := by
  rw [← List.range_succ, show List.range (m + 1) = (List.range n).take (m + 1) from by rw [List.take_range]; congr 1; omega]
  exact List.take_prefix _ _
theorem prefix_range {front : List Nat} {x n : Nat} (h : front ++ [x] <+: List.range n) : x < n ∧ front = List.range x := by
  have h1 : front ++ [x] = (List.range n).take (front.length + 1) := by simpa using (List.prefix_iff_eq_take.1 h)
  have h0 := h.length_le
  simp at h0
  rw [List.take_range, Nat.min_eq_left (by omega), List.range_succ] at h1
  obtain ⟨h2, h3⟩ := List.append_inj' h1 rfl
  simp at h3
  subst h3
  exact ⟨by omega, h2⟩
set_option maxRecDepth 100000 in
set_option maxHeartbeats 4000000 in
theorem parts_iter (n : Nat) (hn : 1 ≤ n) (ka : Nat) (s : Value) (l : List Iv) (keep : Nat → Prop) (W0 : World) (h1 : keep ka) (h2 : keep W0.heap.size) (h3 : KeptL keep s l) (hca : W0.cell? ⟨ka, 0, none⟩ = some s) (hla : OpAt W0 s l) :
    IterX n Try.prog 73 #[.pointer (some ⟨ka, 0, none⟩)] (encP l) (List.range l.length) (fun k => k = W0.heap.size) keep (W0.heap.size + 1) W0 := by
  intro ly J Jx hJ hJx hY hJ0
  obtain ⟨e0, he⟩ : ∃ e0, W0.heap.size = e0 := ⟨_, rfl⟩
  rw [he] at hJ hJx hY h2
  have HY := Lib.hid hY; clear hY
  have HK := Lib.hid (And.intro hJ hJx); clear hJ hJx
  have HP := Lib.hid (And.intro h1 (And.intro h2 h3)); clear h1 h2 h3
  have HJ0 := Lib.hid hJ0; clear hJ0
  obtain ⟨pA, nA, rfl, _⟩ := hla.at'.shape
  have hca1 := keep_cell hca (below_new W0 (.cells #[.int .u64 0, .int .u64 0] 33))
  have HLA := Lib.hid hla; clear hla
  have HE := Lib.hid he; clear he
  clear hca
  refine callsIn_of_wp Try.func73 rfl trivial ?_ rfl
  simp only [Try.ntmps73, List.size_toArray, List.length_cons, List.length_nil, Nat.reduceAdd, Nat.reduceSub, Array.replicate_succ, Array.replicate_zero, List.push_toArray, List.append_toArray, List.nil_append, List.cons_append]
  gi_wp2
  rw [HE.out]
  gi_loopw [10] (fun i wr => ∃ m : Nat, i = .int .i64 m ∧ m ≤ l.length ∧ Cnt wr e0 (rk l m / 18446744073709551616) (rk l m % 18446744073709551616) ∧ OpAt wr (.slice pA l.length nA) l ∧ J (List.range m) wr ∧ e0 + 1 ≤ wr.heap.size)
    (fun i _ => l.length - (intOf i).toNat)
  case atStart =>
    refine ⟨0, rfl, Nat.zero_le _, ?_, HLA.out.call (below_new _ _), HK.out.1 _ _ _ HJ0.out (Apart.alloc _ _ _), by have := HE.out; simp; omega⟩
    rw [rk_zero]
    exact HE.out ▸ Cnt.new W0 0 0
  case round =>
    obtain ⟨m, rfl, hm, hc, hop, hj, hsz⟩ := hrel
    by_cases hlt : m < l.length
    · have hy : l[m]? = some l[m] := by simp [hlt]
      have hlo : pLo l m = l[m].1 := by unfold pLo; rw [List.getD_eq_getElem?_getD, hy]; rfl
      have hhi : pHi l m = l[m].2 := by unfold pHi; rw [List.getD_eq_getElem?_getD, hy]; rfl
      have hr := rk_succ hy
      have ho := hop.good.ord6 _ (List.mem_of_getElem? hy)
      obtain ⟨⟨g0, g1⟩, g2, g3⟩ := hop.good.all.at hy
      obtain ⟨b, o, cp, e, c0, c1⟩ := hop.at'.elem hy
      cases e
      rw [← hlo] at c0 hr ho g0 g1
      rw [← hhi] at c1 hr ho g2 g3
      have i1 : (0 : Int) ≤ (m : Int) := by omega
      have i2 : (m : Int) < (l.length : Int) := by omega
      have a0 := hc.c0
      have a1 := hc.c1
      have z0 := hc.f0
      have z1 := hc.f1
      have hkw : ∀ W, Calls Try.prog 74 #[.int .u64 (pLo l m), .int .u64 (pHi l m)] W (IsC (pHi l m - pLo l m + 1) W) := fun W => width_c _ _ W g0 ho g3
      have hrn := rk_nn hop.good m
      have hrm := rk_max hop.good m
      have hkp : ∀ W, Calls Try.prog 16 #[.agg #[.int .u64 (rk l m / 18446744073709551616), .int .u64 (rk l m % 18446744073709551616)], .agg #[.int .u64 ((pHi l m - pLo l m + 1) / 18446744073709551616), .int .u64 ((pHi l m - pLo l m + 1) % 18446744073709551616)]] W (IsC (rk l (m + 1)) W) := fun W => by
        rw [hr]; exact plus_c _ _ W hrn hrm (by omega) (by omega)
      have henc : encP l m = #[.agg #[.int .u64 (pLo l m), .int .u64 (pHi l m), .int .i64 m, .int .u64 (rk l m / 18446744073709551616), .int .u64 (rk l m % 18446744073709551616), .int .u64 (rk l (m + 1) / 18446744073709551616), .int .u64 (rk l (m + 1) % 18446744073709551616)]] := rfl
      unfold IsC at hkw hkp
      clear hrn hrm hlo hhi hy hr ho g0 g1 g2 g3
      have hnext := range_next hlt
      obtain ⟨q, hq⟩ : ∃ q, rk l m / 18446744073709551616 = q := ⟨_, rfl⟩
      obtain ⟨r, hr⟩ : ∃ r, rk l m % 18446744073709551616 = r := ⟨_, rfl⟩
      obtain ⟨q', hq'⟩ : ∃ q', rk l (m + 1) / 18446744073709551616 = q' := ⟨_, rfl⟩
      obtain ⟨r', hr'⟩ : ∃ r', rk l (m + 1) % 18446744073709551616 = r' := ⟨_, rfl⟩
      obtain ⟨wq, hwq⟩ : ∃ wq, (pHi l m - pLo l m + 1) / 18446744073709551616 = wq := ⟨_, rfl⟩
      obtain ⟨ws, hws⟩ : ∃ ws, (pHi l m - pLo l m + 1) % 18446744073709551616 = ws := ⟨_, rfl⟩
      rw [hq] at a0 hc
      rw [hr] at a1 hc
      rw [hq, hr, hq', hr', hwq, hws] at hkp
      rw [hwq, hws] at hkw
      rw [hq, hr, hq', hr'] at henc
      have HSucc := Lib.hid (And.intro hq' hr')
      clear hq hr hq' hr' hwq hws
      have HEnc := Lib.hid henc; clear henc
      have KW := Lib.hid hkw; clear hkw
      have KP := Lib.hid hkp; clear hkp
      have HNext := Lib.hid hnext; clear hnext
      generalize pLo l m = lo at *
      generalize pHi l m = hi at *
      have d0 := keep_cell a0 (below_new wr (.cells #[.int .u64 lo, .int .u64 hi] 70))
      have d1 := keep_cell a1 (below_new wr (.cells #[.int .u64 lo, .int .u64 hi] 70))
      have HS : Hid (Below (wr.alloc (.cells #[.int .u64 lo, .int .u64 hi] 70)).heap.size (wr.alloc (.cells #[.int .u64 lo, .int .u64 hi] 70)) (wr.alloc (.cells #[.int .u64 lo, .int .u64 hi] 70)).drew ∧ (wr.alloc (.cells #[.int .u64 lo, .int .u64 hi] 70)).drew.cell? ⟨e0, 0, none⟩ = some (.int .u64 q) ∧
        (wr.alloc (.cells #[.int .u64 lo, .int .u64 hi] 70)).drew.cell? ⟨e0, 1, none⟩ = some (.int .u64 r) ∧ (wr.alloc (.cells #[.int .u64 lo, .int .u64 hi] 70)).drew.cell? ⟨wr.heap.size, 0, none⟩ = some (.int .u64 lo) ∧ (wr.alloc (.cells #[.int .u64 lo, .int .u64 hi] 70)).drew.cell? ⟨wr.heap.size, 1, none⟩ = some (.int .u64 hi)) :=
        Lib.hid (w_four_drew ⟨Below.refl _ _, d0, d1, by simp, by simp⟩)
      have HC := Lib.hid hc; clear hc
      have HOp := Lib.hid hop; clear hop
      have HJ := Lib.hid hj; clear hj
      gi_wp2
      obtain ⟨w1, hw1⟩ : ∃ w1, wr.alloc (.cells #[.int .u64 lo, .int .u64 hi] 70) = w1 := ⟨_, rfl⟩
      have HS1 : Hid (w1.heap.size = wr.heap.size + 1) := Lib.hid (by rw [← hw1]; simp)
      have HB1 : Hid (Below wr.heap.size wr w1) := Lib.hid (hw1 ▸ below_new wr _)
      rw [hw1] at HS d0 d1 ⊢
      clear hw1
      refine wpIn_mono (Q := fun e a W => e = .normal ∧ ∃ bE t15 t16 t17 t18 t19 t20 t21, w1.heap.size ≤ bE ∧ Cnt W bE q' r' ∧ (Below w1.heap.size w1 W ∧ W.cell? ⟨e0, 0, none⟩ = some (.int .u64 q) ∧ W.cell? ⟨e0, 1, none⟩ = some (.int .u64 r) ∧ W.cell? ⟨wr.heap.size, 0, none⟩ = some (.int .u64 lo) ∧ W.cell? ⟨wr.heap.size, 1, none⟩ = some (.int .u64 hi)) ∧
        a = { tmps := #[.func (.yield ly) #[] #[], .pointer (some ⟨ka, 0, none⟩), undef, .pointer (some ⟨e0, 0, none⟩), .int .i64 m, .pointer (some ⟨wr.heap.size, 0, none⟩), .pointer (some ⟨bE, 0, none⟩), .agg #[.int .u64 0, .int .u64 0], .slice (some ⟨b, o, none⟩) l.length nA, .int .i64 l.length, .int .i64 m, .bool true, .int .i64 m, .pointer (some ⟨b, o + m * 2, none⟩), .agg #[.int .u64 lo, .int .u64 hi], t15, t16, t17, t18, t19, t20, t21, u22, u23, u24, u25, u26, u27, u28, u29, u30, u31], defers := [] }) (wpIn_wide.2 ?_) ?_
      · go_region_held3 (fun w' => Below w1.heap.size w1 w' ∧ w'.cell? ⟨e0, 0, none⟩ = some (.int .u64 q) ∧ w'.cell? ⟨e0, 1, none⟩ = some (.int .u64 r) ∧ w'.cell? ⟨wr.heap.size, 0, none⟩ = some (.int .u64 lo) ∧ w'.cell? ⟨wr.heap.size, 1, none⟩ = some (.int .u64 hi))
          (first
            | exact w_four_call (by assumption) (by assumption)
            | exact w_four_alloc (by assumption) _
            | exact w_four_drew (by assumption)
            | exact HS.out
            | exact four_set (by assumption) (by have := HS1.out; omega) (by have := HS1.out; omega) (by have := HS1.out; omega) _ _
            | assumption)
          (first
            | (go_at_call 74; refine (KW.out _).mono ?_; rintro en w' ⟨rfl, h'⟩; (try have hcn : Cnt w' w1.heap.size 0 0 := Cnt.below (A := (w1.alloc (.cells #[.int .u64 0, .int .u64 0] 33)).drew) (Cnt.new w1 0 0) h'); have h' := Lib.hid h'; have hSv := w_four_call (by assumption) h'; have hz := hSv.1.size)
            | (go_at_call 16; refine (KP.out _).mono ?_; rintro en w' ⟨rfl, h'⟩; (try have hcn := (Cnt.new _ 0 0).below h'); (try have hcn := hcn.below h'); (try have hn0 := hcn.c0); (try have hn1 := hcn.c1); (try have hm0 := hcn.f0); (try have hm1 := hcn.f1); have h' := Lib.hid h'; have hSw := w_four_call (by assumption) h'))
        all_goals (refine ⟨rfl, _, _, _, _, _, _, _, _, ?_, ?_, by assumption, rfl⟩ <;> first | exact Nat.le_refl _ | exact hz | exact hSw.1.size | exact Cnt.new _ _ _ | exact Cnt.set (by assumption) _ _)
      · rintro _ a W ⟨rfl, bE, t15, t16, t17, t18, t19, t20, t21, hbE, hcE, ⟨hbw, x0, x1, x2, x3⟩, rfl⟩
        have HBW : Hid (Below wr.heap.size wr W) := Lib.hid (below_call HB1.out hbw)
        have hcW := HC.out.below HBW.out
        have HOW := Lib.hid (HOp.out.call HBW.out)
        have y0 := hcE.c0
        have y1 := hcE.c1
        have HKE := Lib.hid (KeptL.of (keep := fun k => k ≠ e0) HLA.out (fun k hk => by have := HE.out; omega))
        have HBE : Hid (wr.heap.size ≤ bE) := Lib.hid (by have := HS1.out; omega)
        obtain ⟨fn, tmps, assign, body, hy, hR⟩ := HY.out (List.range m) m wr W HJ.out (Apart.of_below _ HBW.out) HNext.out hsz
        rw [HEnc.out] at hy
        have HCE := Lib.hid hcE; clear hcE
        have HCW := Lib.hid hcW; clear hcW
        clear d0 d1 a0 a1 c0 c1 z0 z1 hbw
        gi_wp2
        refine (RoundIn.anyDepth hR).mono ?_
        clear hy hR y0 y1 x0 x1 x2 x3
        rintro e W3 ⟨hap, ⟨rfl, hJ3⟩ | ⟨rfl, hJ3⟩⟩
        · have hE3 := HCE.out.apart hap (fun h => h (.inr HBE.out))
          have hC3 := HCW.out.apart hap (fun h => h (.inl HP.out.2.1))
          have HO3 := Lib.hid (HOW.out.apart HP.out.2.2 (hap.mono fun _ _ h hn => h (.inl hn)))
          have HZ3 : Hid (e0 + 1 ≤ W3.heap.size) := Lib.hid (by have := hap.size; have := HBW.out.size; omega)
          have v0 := hE3.c0
          have v1 := hE3.c1
          have u0 := hC3.c0
          have u1 := hC3.c1
          have s0 := hC3.f0
          have s1 := hC3.f1
          have HC3 := Lib.hid hC3
          have HJ3 := Lib.hid hJ3; clear hJ3 hap hE3 hC3
          gi_wp2
          go_roundw
          case rel =>
            have hst : Apart (fun k => k = e0) W3 ((W3.setCell ⟨e0, 0, none⟩ (.int .u64 q')).setCell ⟨e0, 1, none⟩ (.int .u64 r')) := (Apart.set (q := fun k => k = e0) (b := e0) (o := 0) W3 (.int .u64 q') rfl).trans (Apart.set (q := fun k => k = e0) (b := e0) (o := 1) _ (.int .u64 r') rfl)
            refine ⟨m + 1, by go_num, hlt, ?_, HO3.out.apart HKE.out (hst.mono fun k _ h hn => hn h), ?_, by have := HZ3.out; have := hst.size; omega⟩
            · rw [HSucc.out.1, HSucc.out.2]; exact HC3.out.set q' r'
            · rw [List.range_succ]; exact HK.out.1 _ _ _ HJ3.out hst
          case measure => simp [intOf]; omega
        · have HJ3 := Lib.hid hJ3; clear hJ3 hap
          gi_wp2
          refine bodyPost_ret (results_none rfl _ _ _) rfl ?_
          exact ⟨⟨_, rfl⟩, .inr HJ3.out⟩
    · obtain rfl : m = l.length := by omega
      have HJ := Lib.hid hj; clear hj
      clear hc hop
      gi_wp2
      refine bodyPost_end (results_none rfl _ _ _) rfl ?_
      exact ⟨⟨_, rfl⟩, .inl HJ.out⟩
end Go.Proofs.Ytefiobfljhmkkaa
