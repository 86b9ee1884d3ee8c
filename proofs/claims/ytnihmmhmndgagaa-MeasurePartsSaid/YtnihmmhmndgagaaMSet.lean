/- What the laws of layer 6 ask of package measure, and their example out of it. No conditions of its own. -/
import Derived.Test.YtnihmmhmndgagaaMRef
import Derived.Test.YtnihmmhmndgagaaOSet
import Derived.Test.YtnihmmhmndgagaaOKeep
import Derived.Test.YtnihmmhmndgagaaROwn
namespace Go.Proofs.Ytnihmmhmndgagaa
open Go.RowKit
/-- A call that returns a count. -/
def IsC (n : Int) (w : World) (e : Ending) (w' : World) : Prop := e = .returned (.agg #[.int .u64 (n / 18446744073709551616), .int .u64 (n % 18446744073709551616)]) ∧ Below w.heap.size w w'
def firstV (l : List Iv) : Int := match l.head? with | some y => y.1 | none => 0
def lastV (l : List Iv) : Int := match l.getLast? with | some y => y.2 | none => 0
def someB (l : List Iv) : Bool := !l.isEmpty
def IsHull (a b : Int) (r : Bool) (w : World) (e : Ending) (w' : World) : Prop := e = .returned (.tuple #[.agg #[.int .u64 a, .int .u64 b], .bool r]) ∧ Below w.heap.size w w'
/-- A list of a call's own whose numbers may be written: its block lies from B on. -/
def SoftL (w : World) (B : Nat) (v : Value) (n : Nat) : Prop :=
  ∃ p cap, v = .slice p n cap ∧ n ≤ maxLen ∧ (0 < n → ∃ g o, p = some ⟨g, o, none⟩ ∧ B ≤ g ∧ ∀ i, i < n →
    ((∃ z : Int, w.cell? ⟨g, o + i * 2, none⟩ = some (.int .u64 z)) ∧ w.frozen? ⟨g, o + i * 2, none⟩ = false) ∧ (∃ z : Int, w.cell? ⟨g, o + i * 2 + 1, none⟩ = some (.int .u64 z)) ∧ w.frozen? ⟨g, o + i * 2 + 1, none⟩ = false)
/-- A call that returns two lists of its own (which may share memory with one another). -/
def IsSplit (a b : List Iv) (w : World) (e : Ending) (w' : World) : Prop :=
  ∃ v u, e = .returned (.tuple #[v, u]) ∧ IvsAt w' v a ∧ IvsAt w' u b ∧ SoftL w' w.heap.size v a.length ∧ SoftL w' w.heap.size u b.length ∧ Below w.heap.size w w'
theorem softL_own {w : World} {B : Nat} {v : Value} {L : List Iv} (h : OwnL w B v L) : SoftL w B v L.length := by
  have hrow : w.ownsRow B 37 2 v L.length (ivC L) := h
  rcases hrow.2 with ⟨rfl, h0⟩ | ⟨g, cap, cur, rfl, hbg, hg, hnc, hcm, _⟩
  · rw [h0]; exact ⟨none, 0, rfl, Nat.zero_le _, fun h => absurd h (Nat.lt_irrefl 0)⟩
  · refine ⟨_, cap, rfl, Nat.le_trans hnc hcm, fun _ => ⟨g, 0, rfl, hbg, fun i hi => ?_⟩⟩
    have hx : L[i]? = some L[i] := by simp [hi]
    rw [Nat.zero_add]
    exact ⟨⟨⟨L[i].1, by rw [hrow.cellAt (i * 2) (by omega)]; exact (ivC_at L i _ hx).1⟩, hrow.frozenAt _⟩, ⟨L[i].2, by rw [hrow.cellAt (i * 2 + 1) (by omega)]; exact (ivC_at L i _ hx).2⟩, hrow.frozenAt _⟩
/-- A slice that reaches no further than its capacity. -/
def SaneS (v : Value) : Prop := saneV v ∧ ∀ a n c, v = .slice (some a) n c → n ≤ c
/-- The contracts of package measure. -/
structure MeasC : Prop where
  count : ∀ (l : List Iv) (s : Value) (w : World), OpAt w s l → Calls Try.prog 12 #[s] w (IsC (cntL l) w)
  rank : ∀ (l : List Iv) (s : Value) (x : Int) (w : World), OpAt w s l → 0 ≤ x → x ≤ 18446744073709551615 → Calls Try.prog 13 #[s, .int .u64 x] w (IsC (rankL l x) w)
  first : ∀ (l : List Iv) (s : Value) (w : World), OpAt w s l → Calls Try.prog 14 #[s] w (IsNB6 (firstV l) (someB l) w)
  last : ∀ (l : List Iv) (s : Value) (w : World), OpAt w s l → Calls Try.prog 15 #[s] w (IsNB6 (lastV l) (someB l) w)
  hull : ∀ (l : List Iv) (s : Value) (w : World), OpAt w s l → Calls Try.prog 16 #[s] w (IsHull (firstV l) (lastV l) (someB l) w)
  nth : ∀ (l : List Iv) (s : Value) (n : Int) (w : World), OpAt w s l → 0 ≤ n → n ≤ 18446744073709551615 → Calls Try.prog 17 #[s, .int .u64 n] w (IsNB6 (nthV l n) (nthB l n) w)
  split : ∀ (l : List Iv) (s : Value) (n : Int) (w : World), OpAt w s l → SaneS s → l.length ≤ 60 → 0 ≤ n → n ≤ 18446744073709551615 → Calls Try.prog 20 #[s, .int .u64 n] w (IsSplit (splitA l n) (splitB l n) w)
def exL : List Iv := [(2, 3), (9, 9)]
theorem ex_two (w : World) (t : TypeId) (k : Nat) (hk : k = w.heap.size) : OpAt (w.alloc (.cells #[.int .u64 2, .int .u64 3, .int .u64 9, .int .u64 9] t)) (.slice (some ⟨k, 0, none⟩) 2 2) exL := two_new w 2 3 9 9 t k hk ex_good1
set_option maxRecDepth 100000 in
set_option maxHeartbeats 2000000 in
theorem alive6_any (C : MeasC) (w : World) : Calls Try.prog 10 #[] w (IsEnd true w) := by
  have K1 : Hid (∀ s W, OpAt W s exL → Calls Try.prog 17 #[s, .int .u64 1] W (IsNB6 3 true W)) := Lib.hid fun s W h => by
    have k := C.nth exL s 1 W h (by omega) (by omega)
    rwa [show nthV exL 1 = 3 from by decide, show nthB exL 1 = true from by decide] at k
  have K2 : Hid (∀ s W, OpAt W s exL → Calls Try.prog 17 #[s, .int .u64 3] W (IsNB6 0 false W)) := Lib.hid fun s W h => by
    have k := C.nth exL s 3 W h (by omega) (by omega)
    rwa [show nthV exL 3 = 0 from by decide, show nthB exL 3 = false from by decide] at k
  have K3 : Hid (∀ s W, OpAt W s exL → Calls Try.prog 16 #[s] W (IsHull 2 9 true W)) := Lib.hid fun s W h => by
    have k := C.hull exL s W h
    rwa [show firstV exL = 2 from by decide, show lastV exL = 9 from by decide, show someB exL = true from by decide] at k
  have K4 : Hid (∀ s W, OpAt W s exL → Calls Try.prog 13 #[s, .int .u64 9] W (fun e w' => e = .returned (.agg #[.int .u64 0, .int .u64 2]) ∧ Below W.heap.size W w')) := Lib.hid fun s W h => by
    have k := C.rank exL s 9 W h (by omega) (by omega)
    unfold IsC at k
    rwa [show rankL exL 9 / 18446744073709551616 = 0 from by decide, show rankL exL 9 % 18446744073709551616 = 2 from by decide] at k
  have K5 : Hid (∀ s W, OpAt W s exL → Calls Try.prog 12 #[s] W (fun e w' => e = .returned (.agg #[.int .u64 0, .int .u64 3]) ∧ Below W.heap.size W w')) := Lib.hid fun s W h => by
    have k := C.count exL s W h
    unfold IsC at k
    rwa [show cntL exL / 18446744073709551616 = 0 from by decide, show cntL exL % 18446744073709551616 = 3 from by decide] at k
  clear C
  go_enter Try.func10, Try.ntmps10
  go_wp2_with fail
  have HO := Lib.hid (ex_two w 37 _ rfl)
  have HB := Lib.hid (below_new w (.cells #[.int .u64 2, .int .u64 3, .int .u64 9, .int .u64 9] 37))
  refine (K1.out _ _ HO.out).mono ?_
  rintro e w1 ⟨rfl, h1⟩
  have HO1 := Lib.hid (HO.out.call h1); have HB1 := Lib.hid (below_call HB.out h1); clear h1
  go_wp2_with fail
  refine (K2.out _ _ HO1.out).mono ?_
  rintro e w2 ⟨rfl, h2⟩
  have HO2 := Lib.hid (HO1.out.call h2); have HB2 := Lib.hid (below_call HB1.out h2); clear h2
  go_wp2_with fail
  refine (K3.out _ _ HO2.out).mono ?_
  rintro e w3 ⟨rfl, h3⟩
  have HO3 := Lib.hid (HO2.out.call h3); have HB3 := Lib.hid (below_call HB2.out h3); clear h3
  go_wp2_with fail
  have hn := below_new w3 (.cells #[.int .u64 2, .int .u64 9] 37)
  have HO4 := Lib.hid (HO3.out.call hn); have HB4 := Lib.hid (below_call HB3.out hn); clear hn
  refine (K4.out _ _ HO4.out).mono ?_
  rintro e w4 ⟨rfl, h4⟩
  have d0 := keep_cell (p := ⟨w3.heap.size, 0, none⟩) (v := .int .u64 2) (by simp) h4
  have d1 := keep_cell (p := ⟨w3.heap.size, 1, none⟩) (v := .int .u64 9) (by simp) h4
  have HO5 := Lib.hid (HO4.out.call h4); have HB5 := Lib.hid (below_call HB4.out h4); clear h4
  go_wp2_with fail
  refine (K5.out _ _ HO5.out).mono ?_
  rintro e w5 ⟨rfl, h5⟩
  have f0 := keep_cell d0 h5
  have f1 := keep_cell d1 h5
  have HB6 := Lib.hid (below_call HB5.out h5); clear h5 d0 d1
  go_wp2_with fail
  go_ret
  exact ⟨rfl, HB6.out⟩
set_option maxRecDepth 100000 in
theorem right6_ok (l : List Iv) (s : Value) (w : World) (ha : OpAt w s l) (hl : l.length ≤ 60) : Calls Try.prog 9 #[s] w (IsEnd true w) := by
  obtain ⟨p, cap, rfl, _⟩ := ha.at'.shape
  have k := refRight_any l _ w ha.at' ha.good.all
  rw [(rightB_iff l).2 ha.good.can] at k
  have K := Lib.hid k; clear k ha
  have i3 : (l.length : Int) ≤ 60 := by omega
  go_enter Try.func9, Try.ntmps9
  go_wp2_with fail
  refine K.out.mono ?_
  rintro e w1 ⟨rfl, h1⟩
  have H1 := Lib.hid h1; clear h1
  go_wp2_with fail
  go_ret
  exact ⟨rfl, H1.out⟩
set_option maxRecDepth 100000 in
theorem right6_bad (s : Value) (w : World) (ha : badArg w s) : Calls Try.prog 9 #[s] w (IsEnd false w) := by
  obtain ⟨p, n, cap, rfl, hr⟩ := ha.right
  rcases hr with hl | ⟨hl, hr⟩
  · have i3 : ¬ (n : Int) ≤ 60 := by omega
    clear ha
    go_enter Try.func9, Try.ntmps9
    go_wp2_with fail
    go_ret
    exact ⟨rfl, Below.refl _ _⟩
  · have K := Lib.hid (hr w (Below.refl _ _)); clear hr ha
    have i3 : (n : Int) ≤ 60 := by omega
    go_enter Try.func9, Try.ntmps9
    go_wp2_with fail
    refine K.out.mono ?_
    rintro e w1 ⟨rfl, h1⟩
    have H1 := Lib.hid h1; clear h1
    go_wp2_with fail
    go_ret
    exact ⟨rfl, H1.out⟩
theorem okArg.op {w : World} {s : Value} (h : okArg w s) : ∃ l, OpAt w s l ∧ l.length ≤ 60 := by
  obtain ⟨l, h1, h2, h3⟩ := h
  exact ⟨l, ⟨h1, h2, by omega⟩, h3⟩
end Go.Proofs.Ytnihmmhmndgagaa
