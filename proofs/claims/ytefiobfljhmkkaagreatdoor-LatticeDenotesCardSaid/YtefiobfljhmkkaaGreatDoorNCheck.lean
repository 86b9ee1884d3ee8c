/- Check of package entry: a list of two closures, called one behind the other. Conditions: as each theorem says. -/
import Derived.Test.YtefiobfljhmkkaaGreatDoorNRef
import Derived.Test.YtefiobfljhmkkaaGreatDoorRFind
namespace Go.Proofs.YtefiobfljhmkkaaGreatDoor
open Go.RowKit
set_option maxRecDepth 100000 in
theorem step1_any (H : List Iv) (s : Value) (b : Nat) (w : World) (hg : ErrT w) (hl : IvsAt w s H) (h64 : All64 H) (hc : w.cell? ⟨b, 2, none⟩ = some s) :
    Calls Tryz.prog 79 #[.pointer (some ⟨b, 0, none⟩)] w (IsErr (chkV H) w) := by
  obtain ⟨p, cap, rfl, _⟩ := hl.shape
  have K := Lib.hid (rcheck_any H _ w hg hl h64)
  clear hg hl h64
  go_enter Tryz.func79, Tryz.ntmps79
  go_wp2_with fail
  refine K.out.mono ?_
  rintro e w1 ⟨rfl, h⟩
  have H1 := Lib.hid h; clear h
  obtain ⟨v, hv⟩ : ∃ v, errV (chkV H) = v := ⟨_, rfl⟩
  rw [hv]
  have HV := Lib.hid hv; clear hv
  go_wp2_with fail
  go_ret
  exact ⟨by rw [HV.out]; rfl, H1.out⟩
set_option maxRecDepth 100000 in
theorem beyond1_any (x1 x2 m : Int) (b : Nat) (w : World) (hc : w.cell? ⟨b, 1, none⟩ = some (.int .u64 m)) :
    Calls Tryz.prog 83 #[.agg #[.int .u64 x1, .int .u64 x2], .pointer (some ⟨b, 0, none⟩)] w (IsEnd (decide (m < x2)) w) := by
  have hb := below_new w (.cells #[.int .u64 x1, .int .u64 x2] 67)
  have hc1 := keep_cell hc hb
  have HB := Lib.hid hb; clear hb hc
  go_enter Tryz.func83, Tryz.ntmps83
  go_wp2_with fail
  go_ret
  exact ⟨rfl, HB.out⟩
/-- The first hole that reaches beyond the greatest counter, or -1. -/
def idxV (m : Int) (H : List Iv) : Int := match beyond m H with | some k => (k : Int) | none => -1
set_option maxRecDepth 100000 in
set_option maxHeartbeats 2000000 in
theorem index_any (m : Int) (H : List Iv) (s : Value) (b : Nat) (w : World) (hl : IvsAt w s H) (hc : w.cell? ⟨b, 1, none⟩ = some (.int .u64 m)) :
    Calls Tryz.prog 82 #[s, .func (.func 83) #[] #[.pointer (some ⟨b, 0, none⟩)]] w (IsInt (idxV m H) w) := by
  obtain ⟨p, cap, rfl, hlen⟩ := hl.shape
  have HL := Lib.hid hl; clear hl
  have K := Lib.hid beyond1_any
  go_enter Tryz.func82, Tryz.ntmps82
  go_wp2_with fail
  go_loopw [8] (fun i wr => ∃ k : Nat, i = .int .i64 k ∧ k ≤ H.length ∧ (∀ j z, j < k → H[j]? = some z → z.2 ≤ m) ∧ Below w.heap.size w wr) (fun i _ => H.length - (intOf i).toNat)
  case atStart => exact ⟨0, rfl, Nat.zero_le _, fun j z hj => absurd hj (Nat.not_lt_zero j), Below.refl _ _⟩
  case round =>
    obtain ⟨k, rfl, hk, hbef, hbr⟩ := hrel
    have HBF := Lib.hid hbef; clear hbef
    have hcr := keep_cell hc hbr
    have HL2 := Lib.hid (HL.out.call hbr)
    have HBR := Lib.hid hbr; clear hbr
    by_cases hlt : k < H.length
    · have hy : H[k]? = some H[k] := by simp [hlt]
      obtain ⟨b1, o, cp, e, c0, c1⟩ := HL2.out.elem hy
      cases e
      have HY := Lib.hid hy; clear hy
      generalize H[k] = y at *
      obtain ⟨y1, y2⟩ := y
      dsimp only at c0 c1
      have i1 : (0 : Int) ≤ (k : Int) := by omega
      have i2 : (k : Int) < (H.length : Int) := by omega
      by_cases hgt : m < y2
      · have e1 : decide (m < y2) = true := by simpa using hgt
        have HZ := Lib.hid (beyond_some HY.out hgt HBF.out)
        clear hgt
        go_wp2_with fail
        refine (K.out y1 y2 m b _ hcr).mono ?_
        rintro e w1 ⟨rfl, h⟩
        have H1 := Lib.hid (below_call HBR.out h); clear h
        rw [e1]
        go_wp2_with fail
        go_ret
        exact ⟨by unfold idxV; rw [HZ.out]; rfl, H1.out⟩
      · have e1 : decide (m < y2) = false := by simpa using hgt
        have HG := Lib.hid hgt; clear hgt
        go_wp2_with fail
        refine (K.out y1 y2 m b _ hcr).mono ?_
        rintro e w1 ⟨rfl, h⟩
        have H1 := Lib.hid (below_call HBR.out h); clear h
        rw [e1]
        go_wp2_with fail
        go_roundw
        case rel => exact ⟨k + 1, by go_num, by omega, fun j z hj hz => by
          rcases Nat.lt_or_eq_of_le (Nat.le_of_lt_succ hj) with h | h
          · exact HBF.out j z h hz
          · subst h
            have := HY.out.symm.trans hz
            obtain rfl := Option.some.inj this
            have := HG.out
            dsimp only
            omega, H1.out⟩
        case measure => simp [intOf]; omega
    · obtain rfl : k = H.length := by omega
      have HZ := Lib.hid (beyond_none fun i y hy => HBF.out i y (List.getElem?_eq_some_iff.1 hy).1 hy)
      go_wp2_with fail
      go_ret
      exact ⟨by unfold idxV; rw [HZ.out]; rfl, HBR.out⟩
/-- The second step's word: the first hole beyond. -/
def bydV (m : Int) (H : List Iv) : Option (Int × Option Int) := (beyond m H).map fun i => (4, some (i : Int))
set_option maxRecDepth 100000 in
set_option maxHeartbeats 2000000 in
theorem step2_any (m : Int) (H : List Iv) (s : Value) (b : Nat) (w : World) (hl : IvsAt w s H) (hm : w.cell? ⟨b, 1, none⟩ = some (.int .u64 m)) (hc : w.cell? ⟨b, 2, none⟩ = some s) :
    Calls Tryz.prog 81 #[.pointer (some ⟨b, 0, none⟩)] w (IsErr (bydV m H) w) := by
  obtain ⟨p, cap, rfl, _⟩ := hl.shape
  have K := Lib.hid (index_any m H _ b w hl hm)
  have KN := Lib.hid new_ok
  clear hl hm
  cases hb : beyond m H with
  | none =>
    have e1 : idxV m H = -1 := by unfold idxV; rw [hb]
    have e2 : bydV m H = none := by unfold bydV; rw [hb]; rfl
    rw [e1] at K; rw [e2]; clear e1 e2 hb
    go_enter Tryz.func81, Tryz.ntmps81
    go_wp2_with fail
    refine K.out.mono ?_
    rintro e w1 ⟨rfl, h⟩
    have H1 := Lib.hid h; clear h
    go_wp2_with fail
    go_ret
    exact ⟨rfl, H1.out⟩
  | some k =>
    have e1 : idxV m H = (k : Int) := by unfold idxV; rw [hb]
    have e2 : bydV m H = some (4, some (k : Int)) := by unfold bydV; rw [hb]; rfl
    rw [e1] at K; rw [e2]; clear e1 e2 hb
    have i1 : (0 : Int) ≤ (k : Int) := by omega
    go_enter Tryz.func81, Tryz.ntmps81
    go_wp2_with fail
    refine K.out.mono ?_
    rintro e w1 ⟨rfl, h⟩
    have H1 := Lib.hid h; clear h
    go_wp2_with fail
    refine (KN.out 4 (k : Int) _ (by decide)).mono ?_
    rintro e w3 ⟨rfl, rfl⟩
    go_wp2_with fail
    go_ret
    exact ⟨rfl, H1.out⟩
/-- The list of the steps of a check, over an entry's block. -/
def IsSteps (r m : Int) (s : Value) (w : World) (e : Ending) (w' : World) : Prop :=
  e = .returned (.slice (some ⟨w.heap.size + 1, 0, none⟩) 2 2) ∧
    w' = (w.alloc (.cells #[.int .u64 r, .int .u64 m, s] 36)).alloc (.cells #[.func (.func 79) #[] #[.pointer (some ⟨w.heap.size, 0, none⟩)], .func (.func 81) #[] #[.pointer (some ⟨w.heap.size, 0, none⟩)]] 105)
set_option maxRecDepth 100000 in
theorem steps_call (r m : Int) (p : Option Addr) (n c : Nat) (w : World) : Calls Tryz.prog 65 #[.agg #[.int .u64 r, .int .u64 m, .slice p n c]] w (IsSteps r m (.slice p n c) w) := by
  go_enter Tryz.func65, Tryz.ntmps65
  go_wp2_with fail
  go_ret
  exact ⟨by simp, by simp⟩
theorem errV_some {x : Option (Int × Option Int)} (h : x ≠ none) : ∃ t v, errV x = .iface t v := by
  match x, h with
  | some (c, none), _ => exact ⟨_, _, rfl⟩
  | some (c, some a), _ => exact ⟨_, _, rfl⟩
theorem steps_cells (W : World) (x y z f h : Value) (t u : TypeId) (g : Nat) (hg : W.heap.size = g) :
    ((W.alloc (.cells #[x, y, z] t)).alloc (.cells #[f, h] u)).cell? ⟨g, 1, none⟩ = some y ∧ ((W.alloc (.cells #[x, y, z] t)).alloc (.cells #[f, h] u)).cell? ⟨g, 2, none⟩ = some z ∧
      ((W.alloc (.cells #[x, y, z] t)).alloc (.cells #[f, h] u)).cell? ⟨g + 1, 0, none⟩ = some f ∧ ((W.alloc (.cells #[x, y, z] t)).alloc (.cells #[f, h] u)).cell? ⟨g + 1, 1, none⟩ = some h := by
  subst hg
  refine ⟨keep_cell (by simp) (below_new _ _), keep_cell (by simp) (below_new _ _), ?_, ?_⟩
  · rw [World.cell?_alloc_at _ _ _ _ (by simp)]; rfl
  · rw [World.cell?_alloc_at _ _ _ _ (by simp)]; rfl
set_option maxRecDepth 100000 in
set_option maxHeartbeats 4000000 in
theorem eCheck_any (r m : Int) (H : List Iv) (s : Value) (w : World) (hg : ErrT w) (ha : AnyAt w s m H) :
    Calls Tryz.prog 44 #[.agg #[.int .u64 r, .int .u64 m, s]] w (IsErr (chkN m H) w) := by
  have hl := ha.at'
  obtain ⟨p, cap, rfl, _⟩ := hl.shape
  have hb := below_new w (.cells #[.int .u64 r, .int .u64 m, .slice p H.length cap] 36)
  have KS := Lib.hid steps_call
  have HB := Lib.hid hb; clear hb
  have HL := Lib.hid hl; clear hl
  have HG := Lib.hid hg; clear hg
  have H64 := Lib.hid ha.all; clear ha
  go_enter Tryz.func44, Tryz.ntmps44
  go_wp2_with fail
  refine (KS.out _ _ _ _ _ _).mono ?_
  rintro e w1 ⟨rfl, hw1⟩
  have hb1 : Below w.heap.size w w1 := hw1 ▸ below_alloc (below_alloc HB.out _) _
  obtain ⟨g, hgs⟩ : ∃ g, (w.alloc (.cells #[.int .u64 r, .int .u64 m, .slice p H.length cap] 36)).heap.size = g := ⟨_, rfl⟩
  have hcs := steps_cells (w.alloc (.cells #[.int .u64 r, .int .u64 m, .slice p H.length cap] 36)) (.int .u64 r) (.int .u64 m) (.slice p H.length cap) (.func (.func 79) #[] #[.pointer (some ⟨g, 0, none⟩)]) (.func (.func 81) #[] #[.pointer (some ⟨g, 0, none⟩)]) 36 105 g hgs
  rw [hgs] at hw1 ⊢
  rw [← hw1] at hcs
  obtain ⟨c1, c2, f0, f1⟩ := hcs
  have HB1 := Lib.hid hb1; clear hb1 hw1 hgs
  go_wp2_with fail
  go_loopw [9] (fun i wr => ∃ k : Nat, i = .int .i64 k ∧ k ≤ 2 ∧ (1 ≤ k → chkV H = none) ∧ (2 ≤ k → beyond m H = none) ∧ Below w1.heap.size w1 wr) (fun i _ => 2 - (intOf i).toNat)
  case atStart => exact ⟨0, rfl, by omega, fun h => absurd h (by omega), fun h => absurd h (by omega), Below.refl _ _⟩
  case round =>
    obtain ⟨k, rfl, hk, hn1, hn2, hbr⟩ := hrel
    have d1 := keep_cell c1 hbr
    have d2 := keep_cell c2 hbr
    have g0 := keep_cell f0 hbr
    have g1 := keep_cell f1 hbr
    have HBR := Lib.hid hbr; clear hbr
    have HW := Lib.hid (below_call HB1.out HBR.out)
    have hcase : k = 0 ∨ k = 1 ∨ k = 2 := by omega
    rcases hcase with rfl | rfl | rfl
    · clear hn1 hn2 hk
      have K := Lib.hid (step1_any H (.slice p H.length cap) g wr (HG.out.here HW.out) (HL.out.call HW.out) H64.out d2)
      go_wp2_with fail
      refine K.out.mono ?_
      rintro e w2 ⟨rfl, h⟩
      have H2 := Lib.hid (below_call HBR.out h); clear h
      cases hc : chkV H with
      | none =>
        rw [show errV none = .nilIface from rfl]
        have HC := Lib.hid hc; clear hc
        go_wp2_with fail
        go_roundw
        case rel => exact ⟨1, by go_num, by omega, fun _ => HC.out, fun h => absurd h (by omega), H2.out⟩
        case measure => simp [intOf]
      | some x =>
        have HX : Hid (chkN m H = some x) := Lib.hid (by unfold chkN; rw [hc])
        obtain ⟨t, v, hv⟩ := errV_some (x := some x) (by simp)
        rw [hv]
        have HV := Lib.hid hv; clear hv hc
        go_wp2_with fail
        go_ret
        exact ⟨by rw [HX.out, HV.out]; rfl, (below_call HB1.out H2.out)⟩
    · have HC := Lib.hid (hn1 (by omega)); clear hn1 hn2 hk
      have K := Lib.hid (step2_any m H (.slice p H.length cap) g wr (HL.out.call HW.out) d1 d2)
      go_wp2_with fail
      refine K.out.mono ?_
      rintro e w2 ⟨rfl, h⟩
      have H2 := Lib.hid (below_call HBR.out h); clear h
      cases hc : beyond m H with
      | none =>
        rw [show bydV m H = none from by unfold bydV; rw [hc]; rfl, show errV none = .nilIface from rfl]
        have HD := Lib.hid hc; clear hc
        go_wp2_with fail
        go_roundw
        case rel => exact ⟨2, by go_num, by omega, fun _ => HC.out, fun _ => HD.out, H2.out⟩
        case measure => simp [intOf]
      | some i =>
        have HX : Hid (chkN m H = some (4, some (i : Int))) := Lib.hid (by unfold chkN; rw [HC.out, hc]; rfl)
        rw [show bydV m H = some (4, some (i : Int)) from by unfold bydV; rw [hc]; rfl]
        obtain ⟨t, v, hv⟩ := errV_some (x := some ((4 : Int), some (i : Int))) (by simp)
        rw [hv]
        have HV := Lib.hid hv; clear hv hc
        go_wp2_with fail
        go_ret
        exact ⟨by rw [HX.out, HV.out]; rfl, (below_call HB1.out H2.out)⟩
    · have HX : Hid (chkN m H = none) := Lib.hid (by unfold chkN; rw [hn1 (by omega), hn2 (by omega)]; rfl)
      clear hn1 hn2 hk
      go_wp2_with fail
      go_ret
      exact ⟨by rw [HX.out]; rfl, HW.out⟩
end Go.Proofs.YtefiobfljhmkkaaGreatDoor
