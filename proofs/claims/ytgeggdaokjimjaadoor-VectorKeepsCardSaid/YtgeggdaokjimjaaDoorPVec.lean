/- What the laws of layer 9 ask of package vector; lists of numbers in memory, and slices.Equal of them. Conditions: as each theorem says. -/
import Derived.Test.YtgeggdaokjimjaaDoorPMath
import Derived.Test.YtgeggdaokjimjaaDoorEAs
import Derived.Test.YtgeggdaokjimjaaDoorRIv
import Derived.Deep.RegionHeld3
namespace Go.Proofs.YtgeggdaokjimjaaDoor
open Go.RowKit
/-- A list of numbers in memory. -/
def NumR (w : World) (v : Value) (L : List Int) : Prop :=
  ∃ p cap, v = .slice p L.length cap ∧ L.length ≤ maxLen ∧ (L ≠ [] → ∃ b o, p = some ⟨b, o, none⟩ ∧ ∀ (i : Nat) (x : Int), L[i]? = some x → w.cell? ⟨b, o + i, none⟩ = some (.int .u64 x))
theorem NumR.call {w w' : World} {v : Value} {L : List Int} (h : NumR w v L) (hb : Below w.heap.size w w') : NumR w' v L := by
  obtain ⟨p, cap, h1, h2, h3⟩ := h
  refine ⟨p, cap, h1, h2, fun hne => ?_⟩
  obtain ⟨b, o, h5, h6⟩ := h3 hne
  exact ⟨b, o, h5, fun i x hi => keep_cell (h6 i x hi) hb⟩
theorem own_numR {w : World} {B : Nat} {v : Value} {L : List Int} (h : OwnN w B v L) : NumR w v L := by
  have hrow : w.ownsRow B 34 1 v L.length (nmC L) := h
  have h3 := hrow
  rcases hrow.2 with ⟨rfl, h0⟩ | ⟨g, cap, cur, rfl, hbg, hg, hnc, hcm, _⟩
  · exact ⟨none, 0, by rw [h0], by omega, fun e => absurd (List.eq_nil_of_length_eq_zero h0) e⟩
  · exact ⟨_, cap, rfl, Nat.le_trans hnc hcm, fun _ => ⟨g, 0, rfl, fun i x hx => by
      rw [Nat.zero_add, h3.cellAt i (by have := (List.getElem?_eq_some_iff.1 hx).1; omega)]
      exact nm_at hx⟩⟩
set_option maxRecDepth 100000 in
set_option maxHeartbeats 2000000 in
theorem equalU_any (l m : List Int) (s t : Value) (w : World) (hl : NumR w s l) (hm : NumR w t m) :
    Calls Tryd.prog 22 #[s, t] w (IsEnd (decide (l = m)) w) := by
  obtain ⟨p, cap, rfl, hl1, hl2⟩ := hl
  obtain ⟨q, caq, rfl, hm1, hm2⟩ := hm
  have HL := Lib.hid hl2; clear hl2
  have HM := Lib.hid hm2; clear hm2
  have hl3 : l.length ≤ 9223372036854775807 := by unfold maxLen at hl1; omega
  have hm3 : m.length ≤ 9223372036854775807 := by unfold maxLen at hm1; omega
  clear hl1 hm1
  by_cases hlen : l.length = m.length
  · go_enter Tryd.func22, Tryd.ntmps22
    have hb : ((l.length : Int) != (m.length : Int)) = false := by simp [hlen]
    have HLEN := Lib.hid hlen; clear hlen
    go_wp2_with fail
    go_loopw [13] (fun i wr => ∃ k : Nat, k ≤ l.length ∧ i = .int .i64 k ∧ l.take k = m.take k ∧ Below w.heap.size w wr) (fun i _ => l.length - (intOf i).toNat)
    case atStart => exact ⟨0, Nat.zero_le _, rfl, by simp, Below.refl _ _⟩
    case round =>
      obtain ⟨k, hk, rfl, heq, hb⟩ := hrel
      have HB := Lib.hid hb; clear hb
      have HE := Lib.hid heq; clear heq
      by_cases hlt : k < l.length
      · obtain ⟨b, o, rfl, hcl⟩ := HL.out (by intro h; subst h; simp at hlt)
        obtain ⟨b', o', rfl, hcm⟩ := HM.out (fun h => by rw [HLEN.out, h] at hlt; exact absurd hlt (Nat.not_lt_zero k))
        have hgl : l[k]? = some l[k] := by simp [hlt]
        have hlt2 : k < m.length := by have := HLEN.out; omega
        have hgm : m[k]? = some m[k] := by simp [hlt2]
        generalize hX : l[k] = X at *
        generalize hY : m[k] = Y at *
        have c0 : wr.cell? ⟨b, o + k, none⟩ = some (.int .u64 X) := keep_cell (hcl k X hgl) HB.out
        have d0 : wr.cell? ⟨b', o' + k, none⟩ = some (.int .u64 Y) := keep_cell (hcm k Y hgm) HB.out
        clear hcl hcm hgl hgm
        have HX := Lib.hid hX; clear hX
        have HY := Lib.hid hY; clear hY
        by_cases hxy : X = Y
        · subst hxy
          go_wp2_with fail
          go_quiet (fail)
          go_wp2_with fail
          go_roundw
          case rel =>
            refine ⟨k + 1, by omega, by go_num, ?_, below_drewN HB.out _⟩
            rw [List.take_succ_eq_append_getElem hlt, List.take_succ_eq_append_getElem hlt2, HE.out, HX.out, HY.out]
          case measure => simp [intOf]; omega
        · have hne : decide (l = m) = false := by
            simp only [decide_eq_false_iff_not]
            intro e
            subst e
            exact hxy (HX.out.symm.trans HY.out)
          have HN := Lib.hid hne; clear hne
          have e1 : (X != Y) = true := by simpa using hxy
          clear hxy
          go_wp2_with fail
          go_quiet (fail)
          go_wp2_with fail
          go_ret
          exact ⟨ret_bool HN.out.symm, below_drewN HB.out _⟩
      · obtain rfl : k = l.length := by omega
        have hall : decide (l = m) = true := by
          have e := HE.out
          rw [List.take_length, HLEN.out, List.take_length] at e
          simpa using e
        have HN := Lib.hid hall; clear hall
        go_wp2_with fail
        go_ret
        exact ⟨ret_bool HN.out.symm, HB.out⟩
  · have hb : ((l.length : Int) != (m.length : Int)) = true := by simp; omega
    have hne : decide (l = m) = false := by
      simp only [decide_eq_false_iff_not]
      intro e
      exact hlen (congrArg List.length e)
    have HN := Lib.hid hne; clear hne
    clear hlen
    go_enter Tryd.func22, Tryd.ntmps22
    go_wp2_with fail
    go_ret
    exact ⟨ret_bool HN.out.symm, Below.refl _ _⟩
/-- A vector in memory, as the functions of package vector ask for it. -/
structure VecS (w : World) (v : Value) (V : List (Int × Int × List Iv)) : Prop where
  m : VecM w v V
  sane : SaneE v
  rng : ∀ x ∈ V, 0 ≤ x.1 ∧ x.1 ≤ 18446744073709551615
theorem VecS.call {w w' : World} {v : Value} {V : List (Int × Int × List Iv)} (h : VecS w v V) (hb : Below w.heap.size w w') : VecS w' v V := ⟨h.m.call hb, h.sane, h.rng⟩
/-- A vector of a call's own: the numbers of its entries and of its holes may be written; all its blocks lie from B on. -/
def SoftW (w : World) (B : Nat) (v : Value) (ns : List Nat) : Prop :=
  ∃ p cap, v = .slice p ns.length cap ∧ ns.length ≤ maxLen ∧ (ns ≠ [] → ∃ b o, p = some ⟨b, o, none⟩ ∧ B ≤ b ∧ ∀ (i : Nat) (n : Nat), ns[i]? = some n →
    (∃ z : Int, w.cell? ⟨b, o + i * 3, none⟩ = some (.int .u64 z)) ∧ (∃ z : Int, w.cell? ⟨b, o + i * 3 + 1, none⟩ = some (.int .u64 z)) ∧ w.frozen? ⟨b, o + i * 3, none⟩ = false ∧ w.frozen? ⟨b, o + i * 3 + 1, none⟩ = false ∧
    ∃ s, w.cell? ⟨b, o + i * 3 + 2, none⟩ = some s ∧ SoftE w B s n)
def nsV (V : List (Int × Int × List Iv)) : List Nat := V.map fun x => x.2.2.length
/-- A call that returns a vector of its own. -/
def IsVN (V : List (Int × Int × List Iv)) (w : World) (e : Ending) (w' : World) : Prop := ∃ u, e = .returned u ∧ VecS w' u V ∧ SoftW w' w.heap.size u (nsV V) ∧ Below w.heap.size w w'
/-- A call that returns numbers. -/
def IsNR (L : List Int) (w : World) (e : Ending) (w' : World) : Prop := ∃ u, e = .returned u ∧ NumR w' u L ∧ Below w.heap.size w w'
/-- The error of the check of a vector. -/
def chkE9 (V : List (Int × Int × List Iv)) : Option (Int × Option Int) := (chkVec V).map fun x => (x.1, some (x.2 : Int))
theorem chkE9_code (V : List (Int × Int × List Iv)) : codeE (chkE9 V) = vCode V := by unfold chkE9 vCode; cases chkVec V <;> rfl
/-- The contracts of package vector. -/
structure VecC : Prop where
  chk : ∀ (V : List (Int × Int × List Iv)) (v : Value) (w : World), ErrT w → VecS w v V → Calls Tryd.prog 10 #[v] w (IsErr (chkE9 V) w)
  find : ∀ (V : List (Int × Int × List Iv)) (v : Value) (r : Int) (w : World), VecS w v V → GoodV V → 0 ≤ r → r ≤ 18446744073709551615 → Calls Tryd.prog 17 #[v, .int .u64 r] w (IsInt (findV V r) w)
  has : ∀ (V : List (Int × Int × List Iv)) (v : Value) (r c : Int) (w : World), VecS w v V → GoodV V → 0 ≤ r → r ≤ 18446744073709551615 → 0 ≤ c → c ≤ 18446744073709551615 → Calls Tryd.prog 19 #[v, .int .u64 r, .int .u64 c] w (IsEnd (hasV V r c) w)
  can : ∀ (V : List (Int × Int × List Iv)) (v : Value) (w : World), ErrT w → VecS w v V → Calls Tryd.prog 14 #[v] w (IsEnd (canV V && rightV V) w)
  canon : ∀ (V : List (Int × Int × List Iv)) (v : Value) (w : World), VecS w v V → GoodV V → Calls Tryd.prog 28 #[v] w (IsVN (canonV V) w)
  nums : ∀ (V : List (Int × Int × List Iv)) (v : Value) (w : World), VecS w v V → Calls Tryd.prog 23 #[v] w (IsNR (numsV V) w)
  cmp : ∀ (V V' : List (Int × Int × List Iv)) (v v' : Value) (w : World), VecS w v V → VecS w v' V' → Calls Tryd.prog 21 #[v, v'] w (IsInt (cmpL (numsV V) (numsV V')) w)
end Go.Proofs.YtgeggdaokjimjaaDoor
