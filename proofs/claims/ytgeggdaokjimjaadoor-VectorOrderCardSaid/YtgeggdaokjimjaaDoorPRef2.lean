/- The reference's vectors: checked, correct, known, canonical, the same. Conditions: as each theorem says. -/
import Derived.Test.YtgeggdaokjimjaaDoorPRef
namespace Go.Proofs.YtgeggdaokjimjaaDoor
open Go.RowKit
/-- What is wrong with the entry at an index: 0 for nothing. -/
def badV (V : List (Int × Int × List Iv)) (i : Nat) : Int := match V[i]? with
  | none => 0
  | some x => if codeE (chkN x.2.1 x.2.2) ≠ 0 then codeE (chkN x.2.1 x.2.2) else match i with
    | 0 => 0
    | j + 1 => match V[j]? with
      | none => 0
      | some y => if x.1 ≤ y.1 then 3 else 0
def chkVec (V : List (Int × Int × List Iv)) : Option (Int × Nat) := (List.range V.length).findSome? fun i => if badV V i = 0 then none else some (badV V i, i)
theorem chkVec_none {V : List (Int × Int × List Iv)} (h : ∀ j, j < V.length → badV V j = 0) : chkVec V = none := by
  unfold chkVec
  rw [List.findSome?_eq_none_iff]
  intro i hi
  rw [if_pos (h i (by simpa using hi))]
theorem chkVec_some {V : List (Int × Int × List Iv)} {k : Nat} (hk : k < V.length) (h : ∀ j, j < k → badV V j = 0) (hb : badV V k ≠ 0) : chkVec V = some (badV V k, k) := by
  unfold chkVec
  obtain ⟨d, hd⟩ : ∃ d, V.length = k + (d + 1) := ⟨V.length - k - 1, by omega⟩
  rw [hd, List.range_add, List.findSome?_append]
  have h1 : (List.range k).findSome? (fun i => if badV V i = 0 then none else some (badV V i, i)) = none := by
    rw [List.findSome?_eq_none_iff]
    intro i hi
    rw [if_pos (h i (by simpa using hi))]
  rw [h1, List.range_succ_eq_map, List.map_cons, List.findSome?_cons]
  simp [hb]
def vCode (V : List (Int × Int × List Iv)) : Int := match chkVec V with | some x => x.1 | none => 0
def vAt (V : List (Int × Int × List Iv)) : Int := match chkVec V with | some x => (x.2 : Int) | none => -1
theorem badV_code {V : List (Int × Int × List Iv)} {k : Nat} {r m : Int} {H : List Iv} (hx : V[k]? = some (r, m, H)) (hc : codeE (chkN m H) ≠ 0) : badV V k = codeE (chkN m H) := by unfold badV; rw [hx]; simp only; rw [if_pos hc]
theorem badV_first {V : List (Int × Int × List Iv)} {r m : Int} {H : List Iv} (hx : V[0]? = some (r, m, H)) (hc : codeE (chkN m H) = 0) : badV V 0 = 0 := by unfold badV; rw [hx]; simp only; rw [if_neg (by simp [hc])]
theorem badV_next {V : List (Int × Int × List Iv)} {j : Nat} {r m r' m' : Int} {H H' : List Iv} (hx : V[j + 1]? = some (r, m, H)) (hy : V[j]? = some (r', m', H')) (hc : codeE (chkN m H) = 0) : badV V (j + 1) = if r ≤ r' then 3 else 0 := by
  unfold badV; rw [hx]; simp only; rw [if_neg (by simp [hc]), hy]
set_option maxRecDepth 100000 in
set_option maxHeartbeats 4000000 in
theorem refCheck9_any (V : List (Int × Int × List Iv)) (v : Value) (w : World) (hv : VecM w v V) : Calls Tryd.prog 11 #[v] w (IsPair (vCode V) (vAt V) w) := by
  obtain ⟨p, cap, rfl⟩ := hv.shape
  have hlen := hv.len
  have HV := Lib.hid hv; clear hv
  have KC := Lib.hid refCheckE_any
  go_enter Tryd.func11, Tryd.ntmps11
  go_wp2_with fail
  go_loopw [4] (fun i wr => ∃ k : Nat, i = .int .i64 k ∧ k ≤ V.length ∧ (∀ j, j < k → badV V j = 0) ∧ Below w.heap.size w wr) (fun i _ => V.length - (intOf i).toNat)
  case atStart => exact ⟨0, rfl, Nat.zero_le _, fun j hj => absurd hj (Nat.not_lt_zero j), Below.refl _ _⟩
  case round =>
    obtain ⟨k, rfl, hk, hbef, hb⟩ := hrel
    have HBF := Lib.hid hbef; clear hbef
    have HB := Lib.hid hb; clear hb
    by_cases hlt : k < V.length
    · obtain ⟨⟨x, m, H⟩, hx⟩ : ∃ x, V[k]? = some x := ⟨V[k], by simp [hlt]⟩
      obtain ⟨b, o, cap', q, n, c, e, c0, c1, c2, ha⟩ := (HV.out.call HB.out).elem hx
      cases e
      have K := Lib.hid (KC.out x m H (.slice q n c) wr ha.at' ha.all)
      have HX := Lib.hid hx; clear hx ha
      have i1 : (0 : Int) ≤ (k : Int) := by omega
      have i2 : (k : Int) < (V.length : Int) := by omega
      obtain ⟨cd, hcd⟩ : ∃ cd, codeE (chkN m H) = cd := ⟨_, rfl⟩
      obtain ⟨av, hav⟩ : ∃ av, (atE (chkN m H)).getD (-1) = av := ⟨_, rfl⟩
      rw [hcd, hav] at K
      have HCD := Lib.hid hcd; clear hcd hav
      go_wp2_with fail
      refine K.out.mono ?_
      rintro e w1 ⟨rfl, h⟩
      have H1 := Lib.hid (below_call HB.out h)
      replace c0 := keep_cell c0 h
      clear h c1 c2
      by_cases h0 : cd = 0
      · subst h0
        cases k with
        | zero =>
          have HZ := Lib.hid (badV_first HX.out HCD.out)
          go_wp2_with fail
          go_quiet (fail)
          go_wp2_with fail
          go_roundw
          case rel => exact ⟨1, by go_num, by omega, fun j hj => by
            obtain rfl : j = 0 := by omega
            exact HZ.out, below_drewN H1.out _⟩
          case measure => simp [intOf]; omega
        | succ j =>
          obtain ⟨⟨y, m', H'⟩, hy⟩ : ∃ y, V[j]? = some y := ⟨V[j], by simp [show j < V.length by omega]⟩
          obtain ⟨b', o', cap2, q', n', c', e', d0, _, _, _⟩ := (HV.out.call H1.out).elem hy
          cases e'
          have HZ := Lib.hid (badV_next HX.out hy HCD.out)
          have hj0 : (0 : Int) ≤ (j : Int) := by omega
          have hj1 : (j : Int) < (V.length : Int) := by omega
          have hj2 : (0 : Int) ≤ (j : Int) + 1 := by omega
          have hj3 : (j : Int) + 1 < (V.length : Int) := by omega
          have hj4 : (0 : Int) < (j : Int) + 1 := by omega
          have hw1 : IntKind.i64.wrap ((j : Int) + 1 - 1) = (j : Int) := (IntWalk.i64_in _ (by omega)).trans (by omega)
          have hw2 : IntKind.i64.wrap (j : Int) = (j : Int) := IntWalk.i64_in _ (by omega)
          have hw3 : IntKind.i64.wrap (((j + 1 : Nat) : Int) - 1) = (j : Int) := (IntWalk.i64_in _ (by omega)).trans (by omega)
          clear hy
          by_cases hle : x ≤ y
          · have e1 : decide (x ≤ y) = true := by simpa using hle
            rw [if_pos hle] at HZ
            have HE : Hid (vCode V = 3 ∧ vAt V = ((j : Int) + 1)) := Lib.hid (by
              have hs := chkVec_some hlt HBF.out (by rw [HZ.out]; decide)
              rw [HZ.out] at hs
              unfold vCode vAt
              rw [hs]
              exact ⟨rfl, by simp⟩)
            clear hle
            go_wp2_with fail
            go_quiet (fail)
            go_wp2_with fail
            go_ret2
            exact ⟨by rw [HE.out.1, HE.out.2]; rfl, below_drewN H1.out _⟩
          · have e1 : decide (x ≤ y) = false := by simpa using hle
            rw [if_neg hle] at HZ
            clear hle
            go_wp2_with fail
            go_quiet (fail)
            go_wp2_with fail
            go_roundw
            case rel => exact ⟨j + 1 + 1, by go_num, by omega, fun i hi => by
              rcases Nat.lt_or_eq_of_le (Nat.le_of_lt_succ hi) with h | h
              · exact HBF.out i h
              · rw [h]; exact HZ.out, below_drewN H1.out _⟩
            case measure => simp [intOf]; omega
      · have e1 : (cd != 0) = true := by simpa using h0
        have HE : Hid (vCode V = cd ∧ vAt V = (k : Int)) := Lib.hid (by
          have hz := badV_code HX.out (by rw [HCD.out]; exact h0)
          have hs := chkVec_some hlt HBF.out (by rw [hz, HCD.out]; exact h0)
          rw [hz, HCD.out] at hs
          unfold vCode vAt
          rw [hs]
          exact ⟨rfl, rfl⟩)
        clear h0
        go_wp2_with fail
        go_ret2
        exact ⟨by rw [HE.out.1, HE.out.2]; rfl, H1.out⟩
    · obtain rfl : k = V.length := by omega
      have HE : Hid (vCode V = 0 ∧ vAt V = -1) := Lib.hid (by unfold vCode vAt; rw [chkVec_none HBF.out]; exact ⟨rfl, rfl⟩)
      go_wp2_with fail
      go_ret2
      exact ⟨by rw [HE.out.1, HE.out.2]; rfl, HB.out⟩
end Go.Proofs.YtgeggdaokjimjaaDoor
