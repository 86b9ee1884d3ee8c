/- Least of package fault, for a slice of errors in memory. Condition: the variable errors.errorType holds the type error. -/
import Derived.Test.YtenfchkellkifaaDoorWraps
import Derived.Deep.QuietTactic
import Derived.BigQuiet
namespace Go.Proofs.YtenfchkellkifaaDoor
open Go.RowKit Go.Extern.Stop Go.Stop Go.Extern

theorem below_drewN {B : Nat} {a w : World} (h : Below B a w) (n : Nat) : Below B a (w.drewN n) := ⟨h.os, h.tape, h.output, h.size, h.block⟩

/-- The index and the offset of the first fault with the least offset among the first i errors. -/
def bestTo (A : Nat → Option Int) : Nat → Option (Nat × Int)
  | 0 => none
  | i + 1 => match A i with
    | none => bestTo A i
    | some a => match bestTo A i with
      | none => some (i, a)
      | some (j, b) => if a < b then some (i, a) else some (j, b)

/-- The index of the first error that is not nil among the first i errors. -/
def firstTo (N : Nat → Bool) : Nat → Option Nat
  | 0 => none
  | i + 1 => match firstTo N i with
    | some j => some j
    | none => if N i then some i else none

theorem bestTo_none {A : Nat → Option Int} {i : Nat} (h : A i = none) : bestTo A (i + 1) = bestTo A i := by simp [bestTo, h]
theorem bestTo_first {A : Nat → Option Int} {i : Nat} {a : Int} (h : A i = some a) (hb : bestTo A i = none) : bestTo A (i + 1) = some (i, a) := by simp [bestTo, h, hb]
theorem bestTo_less {A : Nat → Option Int} {i j : Nat} {a b : Int} (h : A i = some a) (hb : bestTo A i = some (j, b)) (hl : a < b) : bestTo A (i + 1) = some (i, a) := by simp [bestTo, h, hb, hl]
theorem bestTo_more {A : Nat → Option Int} {i j : Nat} {a b : Int} (h : A i = some a) (hb : bestTo A i = some (j, b)) (hl : ¬ a < b) : bestTo A (i + 1) = some (j, b) := by simp [bestTo, h, hb, hl]
theorem firstTo_some {N : Nat → Bool} {i j : Nat} (h : firstTo N i = some j) : firstTo N (i + 1) = some j := by simp [firstTo, h]
theorem firstTo_new {N : Nat → Bool} {i : Nat} (h : firstTo N i = none) (hN : N i = true) : firstTo N (i + 1) = some i := by simp [firstTo, h, hN]
theorem firstTo_nil {N : Nat → Bool} {i : Nat} (h : firstTo N i = none) (hN : N i = false) : firstTo N (i + 1) = none := by simp [firstTo, h, hN]

/-- What least and at hold. -/
def LVal (vv : Nat → Value) (b : Option (Nat × Int)) (l a : Value) : Prop :=
  match b with
  | none => l = .nilIface ∧ a = .int .i64 0
  | some (j, x) => l = vv j ∧ a = .int .i64 x ∧ ∃ t u, vv j = .iface t u
/-- What other holds. -/
def OVal (vv : Nat → Value) (b : Option Nat) (o : Value) : Prop :=
  match b with
  | none => o = .nilIface
  | some j => o = vv j ∧ ∃ t u, vv j = .iface t u

/-- What Least returns. -/
def leastV (vv : Nat → Value) (b : Option (Nat × Int)) (f : Option Nat) : Value :=
  match b with
  | some (j, _) => vv j
  | none => match f with
    | some j => vv j
    | none => .nilIface

/-- A slice of errors in memory. -/
def ErrsAt (W : World) (v : Value) (n : Nat) (ee : Nat → Option (Option (Int × Option Int))) (nn : Nat → List ByteArray) (vv : Nat → Value) : Prop :=
  ∃ p cap, v = .slice p n cap ∧ n ≤ 1000 ∧ (0 < n → ∃ g, p = some ⟨g, 0, none⟩ ∧ g < W.heap.size ∧ ∀ i, i < n → W.cell? ⟨g, i, none⟩ = some (vv i)) ∧
    ∀ i, i < n → ErrN W (ee i) ⟨#[]⟩ (nn i) (vv i)

def LeastEnd (v : Value) (w : World) (e : Ending) (w' : World) : Prop := e = .returned v ∧ Below w.heap.size w w'

/-- The round's tests and what they come to, for one error. -/
def Rel (ee : Nat → Option (Option (Int × Option Int))) (vv : Nat → Value) (i : Nat) (l o a : Value) (w wr : World) : Prop :=
  LVal vv (bestTo (fun k => atOf (ee k)) i) l a ∧ OVal vv (firstTo (fun k => (ee k).isSome) i) o ∧ Below w.heap.size w wr

set_option maxRecDepth 100000 in
set_option maxHeartbeats 8000000 in
theorem least_any (n : Nat) (ee : Nat → Option (Option (Int × Option Int))) (nn : Nat → List ByteArray) (vv : Nat → Value) (v : Value) (w : World) (hg : ErrT w) (h : ErrsAt w v n ee nn vv) :
    Calls Tryd.prog 25 #[v] w (LeastEnd (leastV vv (bestTo (fun k => atOf (ee k)) n) (firstTo (fun k => (ee k).isSome) n)) w) := by
  obtain ⟨p, cap, rfl, hn, hc, he⟩ := h
  have HC := Lib.hid hc; clear hc
  have HE := Lib.hid he; clear he
  have Hg := Lib.hid hg; clear hg
  go_enter Tryd.func25, Tryd.ntmps25
  go_wp2_with fail
  go_loopg [3, 4, 5, 12] (n + 1) (fun g l o a j wr => ∃ i : Nat, j = .int .i64 i ∧ i ≤ n ∧ n + 1 - i ≤ g ∧ Rel ee vv i l o a w wr)
  case atStart => exact ⟨0, rfl, Nat.zero_le _, by omega, ⟨rfl, rfl⟩, rfl, Below.refl _ _⟩
  case round =>
    obtain ⟨i, rfl, hi, hgk, hl, ho, hb⟩ := hrel
    have Hb := Lib.hid hb; clear hb
    by_cases hlt : i < n
    · have hi63 : (i : Int) + 1 ≤ 9223372036854775807 := by omega
      obtain ⟨g, rfl, hgs, hc⟩ := HC.out (by omega)
      have hcell := (Hb.out.cell (p := ⟨g, i, none⟩) hgs).trans (hc i hlt)
      clear hc hgs
      have hei := (HE.out i hlt).below Hb.out
      have KF := Lib.hid (fault_any (ee i) ⟨#[]⟩ (nn i) (vv i) wr (Hg.out.here Hb.out) hei)
      have hnil : (ee i).isSome = false → vv i = .nilIface := by
        intro hs
        cases hq : ee i with
        | none => rw [hq] at hei; exact hei
        | some b => rw [hq] at hs; cases hs
      have hsome : (ee i).isSome = true → ∃ t u, vv i = .iface t u := by
        intro hs
        cases hq : ee i with
        | none => rw [hq] at hs; cases hs
        | some b => rw [hq] at hei; exact ErrV.not_nil hei
      clear hei
      have HNil := Lib.hid hnil; clear hnil
      have HSome := Lib.hid hsome; clear hsome
      generalize hx : vv i = x at hcell KF
      have HX := Lib.hid hx; clear hx
      go_wp2_with fail
      refine KF.out.mono ?_
      intro en w1 ⟨hb1, he⟩
      have Hb1 := Lib.hid hb1; clear hb1
      cases hA : atOf (ee i) with
      | none =>
        rw [hA] at he
        subst he
        have HA := Lib.hid hA; clear hA
        have HL := Lib.hid hl; clear hl
        cases hft : firstTo (fun k => (ee k).isSome) i with
        | some m =>
          rw [hft] at ho
          obtain ⟨ho1, t2, u2, hm⟩ := ho
          rw [hm] at ho1
          subst ho1
          have HFT := Lib.hid hft; clear hft
          have HM := Lib.hid hm; clear hm
          go_wp2_with fail
          go_roundg (gk - 1)
          case measure => omega
          case rel => exact ⟨i + 1, by go_num, by omega, by omega, by rw [bestTo_none HA.out]; exact HL.out, by rw [firstTo_some HFT.out]; exact ⟨HM.out.symm, _, _, HM.out⟩, Hb.out.trans ((Hb1.out.trans (((Below.refl _ _).alloc (Nat.le_refl _) _).mono Hb1.out.size)).mono Hb.out.size)⟩
        | none =>
          rw [hft] at ho
          obtain rfl : _ = Value.nilIface := ho
          have HFT := Lib.hid hft; clear hft
          cases hs : (ee i).isSome with
          | false =>
            obtain rfl : x = .nilIface := by rw [← HX.out]; exact HNil.out hs
            have HS := Lib.hid hs; clear hs
            go_wp2_with fail
            go_roundg (gk - 1)
            case measure => omega
            case rel => exact ⟨i + 1, by go_num, by omega, by omega, by rw [bestTo_none HA.out]; exact HL.out, by rw [firstTo_nil HFT.out HS.out]; rfl, Hb.out.trans ((Hb1.out.trans (((Below.refl _ _).alloc (Nat.le_refl _) _).mono Hb1.out.size)).mono Hb.out.size)⟩
          | true =>
            obtain ⟨t3, u3', hx3⟩ := HSome.out hs
            rw [HX.out] at hx3
            subst hx3
            have HS := Lib.hid hs; clear hs
            go_wp2_with fail
            go_roundg (gk - 1)
            case measure => omega
            case rel => exact ⟨i + 1, by go_num, by omega, by omega, by rw [bestTo_none HA.out]; exact HL.out, by rw [firstTo_new HFT.out HS.out]; exact ⟨HX.out.symm, _, _, HX.out⟩, Hb.out.trans ((Hb1.out.trans (((Below.refl _ _).alloc (Nat.le_refl _) _).mono Hb1.out.size)).mono Hb.out.size)⟩
      | some a =>
        rw [hA] at he
        subst he
        have hs : (ee i).isSome = true := by
          cases hq : ee i with
          | none => rw [hq] at hA; cases hA
          | some b => rfl
        obtain ⟨t3, u3', hx3⟩ := HSome.out hs
        rw [HX.out] at hx3
        subst hx3
        have HS := Lib.hid hs; clear hs
        have HA := Lib.hid hA; clear hA
        cases hbt : bestTo (fun k => atOf (ee k)) i with
        | none =>
          rw [hbt] at hl
          have HBT := Lib.hid hbt; clear hbt
          obtain ⟨rfl, rfl⟩ := hl
          cases hft : firstTo (fun k => (ee k).isSome) i with
          | some m =>
            rw [hft] at ho
            obtain ⟨ho1, t2, u2, hm⟩ := ho
            rw [hm] at ho1
            subst ho1
            have HFT := Lib.hid hft; clear hft
            have HM := Lib.hid hm; clear hm
            go_wp2_with fail
            go_quiet (fail)
            go_wp2_with fail
            go_roundg (gk - 1)
            case measure => omega
            case rel => exact ⟨i + 1, by go_num, by omega, by omega, by rw [bestTo_first HA.out HBT.out]; exact ⟨HX.out.symm, rfl, _, _, HX.out⟩, by rw [firstTo_some HFT.out]; exact ⟨HM.out.symm, _, _, HM.out⟩, below_drewN (Hb.out.trans ((Hb1.out.trans (((Below.refl _ _).alloc (Nat.le_refl _) _).mono Hb1.out.size)).mono Hb.out.size)) _⟩
          | none =>
            rw [hft] at ho
            obtain rfl : _ = Value.nilIface := ho
            have HFT := Lib.hid hft; clear hft
            go_wp2_with fail
            go_quiet (fail)
            go_wp2_with fail
            go_roundg (gk - 1)
            case measure => omega
            case rel => exact ⟨i + 1, by go_num, by omega, by omega, by rw [bestTo_first HA.out HBT.out]; exact ⟨HX.out.symm, rfl, _, _, HX.out⟩, by rw [firstTo_new HFT.out HS.out]; exact ⟨HX.out.symm, _, _, HX.out⟩, below_drewN (Hb.out.trans ((Hb1.out.trans (((Below.refl _ _).alloc (Nat.le_refl _) _).mono Hb1.out.size)).mono Hb.out.size)) _⟩
        | some y =>
          obtain ⟨j, b⟩ := y
          rw [hbt] at hl
          have HBT := Lib.hid hbt; clear hbt
          obtain ⟨hl1, rfl, t4, u4', hj⟩ := hl
          rw [hj] at hl1
          subst hl1
          have HJ := Lib.hid hj; clear hj
          by_cases hab : a < b
          · have hd : decide (a < b) = true := by simpa using hab
            have HAB := Lib.hid hab; clear hab
            cases hft : firstTo (fun k => (ee k).isSome) i with
            | some m =>
              rw [hft] at ho
              obtain ⟨ho1, t2, u2, hm⟩ := ho
              rw [hm] at ho1
              subst ho1
              have HFT := Lib.hid hft; clear hft
              have HM := Lib.hid hm; clear hm
              go_wp2_with fail
              go_quiet (fail)
              go_wp2_with fail
              go_roundg (gk - 1)
              case measure => omega
              case rel => exact ⟨i + 1, by go_num, by omega, by omega, by rw [bestTo_less HA.out HBT.out HAB.out]; exact ⟨HX.out.symm, rfl, _, _, HX.out⟩, by rw [firstTo_some HFT.out]; exact ⟨HM.out.symm, _, _, HM.out⟩, below_drewN (Hb.out.trans ((Hb1.out.trans (((Below.refl _ _).alloc (Nat.le_refl _) _).mono Hb1.out.size)).mono Hb.out.size)) _⟩
            | none =>
              rw [hft] at ho
              obtain rfl : _ = Value.nilIface := ho
              have HFT := Lib.hid hft; clear hft
              go_wp2_with fail
              go_quiet (fail)
              go_wp2_with fail
              go_roundg (gk - 1)
              case measure => omega
              case rel => exact ⟨i + 1, by go_num, by omega, by omega, by rw [bestTo_less HA.out HBT.out HAB.out]; exact ⟨HX.out.symm, rfl, _, _, HX.out⟩, by rw [firstTo_new HFT.out HS.out]; exact ⟨HX.out.symm, _, _, HX.out⟩, below_drewN (Hb.out.trans ((Hb1.out.trans (((Below.refl _ _).alloc (Nat.le_refl _) _).mono Hb1.out.size)).mono Hb.out.size)) _⟩
          · have hd : decide (a < b) = false := by simpa using hab
            have HAB := Lib.hid hab; clear hab
            cases hft : firstTo (fun k => (ee k).isSome) i with
            | some m =>
              rw [hft] at ho
              obtain ⟨ho1, t2, u2, hm⟩ := ho
              rw [hm] at ho1
              subst ho1
              have HFT := Lib.hid hft; clear hft
              have HM := Lib.hid hm; clear hm
              go_wp2_with fail
              go_roundg (gk - 1)
              case measure => omega
              case rel => exact ⟨i + 1, by go_num, by omega, by omega, by rw [bestTo_more HA.out HBT.out (Int.not_lt.2 HAB.out)]; exact ⟨HJ.out.symm, rfl, _, _, HJ.out⟩, by rw [firstTo_some HFT.out]; exact ⟨HM.out.symm, _, _, HM.out⟩, Hb.out.trans ((Hb1.out.trans (((Below.refl _ _).alloc (Nat.le_refl _) _).mono Hb1.out.size)).mono Hb.out.size)⟩
            | none =>
              rw [hft] at ho
              obtain rfl : _ = Value.nilIface := ho
              have HFT := Lib.hid hft; clear hft
              go_wp2_with fail
              go_roundg (gk - 1)
              case measure => omega
              case rel => exact ⟨i + 1, by go_num, by omega, by omega, by rw [bestTo_more HA.out HBT.out (Int.not_lt.2 HAB.out)]; exact ⟨HJ.out.symm, rfl, _, _, HJ.out⟩, by rw [firstTo_new HFT.out HS.out]; exact ⟨HX.out.symm, _, _, HX.out⟩, Hb.out.trans ((Hb1.out.trans (((Below.refl _ _).alloc (Nat.le_refl _) _).mono Hb1.out.size)).mono Hb.out.size)⟩
    · obtain rfl : i = n := by omega
      have HLt := Lib.hid hlt; clear hlt
      have hd0 : decide ((i : Int) < (i : Int)) = false := by simp
      cases hbt : bestTo (fun k => atOf (ee k)) i with
      | none =>
        rw [hbt] at hl
        have HBT := Lib.hid hbt; clear hbt
        obtain ⟨rfl, rfl⟩ := hl
        cases hft : firstTo (fun k => (ee k).isSome) i with
        | none =>
          rw [hft] at ho
          have HFT := Lib.hid hft; clear hft
          obtain rfl := ho
          go_wp2_with fail
          go_ret
          exact ⟨by rw [HBT.out, HFT.out]; rfl, Hb.out⟩
        | some j =>
          rw [hft] at ho
          have HFT := Lib.hid hft; clear hft
          obtain ⟨rfl, _⟩ := ho
          go_wp2_with fail
          go_ret
          exact ⟨by rw [HBT.out, HFT.out]; rfl, Hb.out⟩
      | some y =>
        obtain ⟨j, b⟩ := y
        rw [hbt] at hl
        have HBT := Lib.hid hbt; clear hbt
        obtain ⟨hl1, rfl, t, u, hj⟩ := hl
        rw [hj] at hl1
        subst hl1
        have HJ := Lib.hid hj; clear hj
        have HO := Lib.hid ho; clear ho
        go_wp2_with fail
        go_ret
        exact ⟨by rw [HBT.out]; show _ = Ending.returned (vv j); rw [HJ.out]; rfl, Hb.out⟩
end Go.Proofs.YtenfchkellkifaaDoor
