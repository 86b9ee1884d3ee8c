/- Right, Check, Has, Relate of package span and the reference's. Conditions: the ends are numbers of 64 bits. -/
import Derived.Test.YtciinnkcjiibfaaDoorEFirst
import Derived.Test.YtciinnkcjiibfaaDoorCells
import Derived.Outline
namespace Go.Proofs.YtciinnkcjiibfaaDoor
open Go.RowKit

def IsTup (a : Int) (b : Bool) (w : World) (e : Ending) (w' : World) : Prop := e = .returned (.tuple #[.int .u64 a, .bool b]) ∧ w = w'


theorem between_lt (a b : Int) (w : World) (h0 : 0 ≤ a) (h : a < b) (h1 : b ≤ 18446744073709551615) :
    Calls Tryd.prog 36 #[.int .u64 a, .int .u64 b] w (IsTup (b - a - 1) true w) := by
  go_enter Tryd.func36, Tryd.ntmps36
  go_wp2
  go_ret2
  exact ⟨rfl, rfl⟩
theorem between_ge (a b : Int) (w : World) (h : b ≤ a) :
    Calls Tryd.prog 36 #[.int .u64 a, .int .u64 b] w (IsTup 0 false w) := by
  go_enter Tryd.func36, Tryd.ntmps36
  go_wp2
  go_ret2
  exact ⟨rfl, rfl⟩

theorem right_any (a b : Int) (w : World) :
    Calls Tryd.prog 10 #[.agg #[.int .u64 a, .int .u64 b]] w (IsEnd (decide (a ≤ b)) w) := by
  go_enter Tryd.func10, Tryd.ntmps10
  go_wp2
  go_ret
  exact ⟨rfl, below_alloc (Below.refl _ _) _⟩

/-- The error of an interval. -/
def chkE (a b : Int) : Option (Int × Option Int) := if a ≤ b then none else some (2, none)
theorem check_any (a b : Int) (w : World) :
    Calls Tryd.prog 9 #[.agg #[.int .u64 a, .int .u64 b]] w fun e w' => e = .returned (errV (chkE a b)) ∧ Below w.heap.size w w' := by
  by_cases h : a ≤ b
  · have e : errV (chkE a b) = .nilIface := by unfold chkE; rw [if_pos h]; rfl
    rw [e]
    go_enter Tryd.func9, Tryd.ntmps9
    go_wp2
    go_ret
    exact ⟨rfl, below_alloc (Below.refl _ _) _⟩
  · have e : errV (chkE a b) = .iface 30 (.int .i64 2) := by unfold chkE; rw [if_neg h]; rfl
    rw [e]
    go_enter Tryd.func9, Tryd.ntmps9
    go_wp2
    go_ret
    exact ⟨rfl, below_alloc (Below.refl _ _) _⟩

def hasB (a b x : Int) : Bool := decide (a ≤ x) && decide (x ≤ b)
theorem has_any (a b x : Int) (w : World) :
    Calls Tryd.prog 14 #[.agg #[.int .u64 a, .int .u64 b], .int .u64 x] w (IsEnd (hasB a b x) w) := by
  by_cases h : a ≤ x
  · have hd : decide (a ≤ x) = true := by simpa using h
    have e := Lib.hid (show hasB a b x = decide (x ≤ b) by unfold hasB; rw [hd]; rfl)
    clear h
    go_enter Tryd.func14, Tryd.ntmps14
    go_wp2
    go_ret
    exact ⟨ret_bool e.out.symm, below_alloc (Below.refl _ _) _⟩
  · have hd : decide (a ≤ x) = false := by simpa using h
    have e := Lib.hid (show hasB a b x = false by unfold hasB; rw [hd]; rfl)
    clear h
    go_enter Tryd.func14, Tryd.ntmps14
    go_wp2
    go_ret
    exact ⟨ret_bool e.out.symm, below_alloc (Below.refl _ _) _⟩
theorem refHas_any (a b x : Int) (w : World) :
    Calls Tryd.prog 15 #[.agg #[.int .u64 a, .int .u64 b], .int .u64 x] w (IsEnd (hasB a b x) w) := by
  by_cases h : a ≤ x
  · have hd : decide (a ≤ x) = true := by simpa using h
    have e := Lib.hid (show hasB a b x = decide (x ≤ b) by unfold hasB; rw [hd]; rfl)
    clear h
    go_enter Tryd.func15, Tryd.ntmps15
    go_wp2
    go_ret
    exact ⟨ret_bool e.out.symm, below_alloc (Below.refl _ _) _⟩
  · have hd : decide (a ≤ x) = false := by simpa using h
    have e := Lib.hid (show hasB a b x = false by unfold hasB; rw [hd]; rfl)
    clear h
    go_enter Tryd.func15, Tryd.ntmps15
    go_wp2
    go_ret
    exact ⟨ret_bool e.out.symm, below_alloc (Below.refl _ _) _⟩

theorem touches_any (a b c d : Int) (w : World) (hb : 0 ≤ b) (hc : c ≤ 18446744073709551615) :
    Calls Tryd.prog 29 #[.agg #[.int .u64 a, .int .u64 b], .agg #[.int .u64 c, .int .u64 d]] w (IsEnd (decide (b + 1 = c)) w) := by
  by_cases h : b < c
  · have K := Lib.hid (fun w => between_lt b c w hb h hc)
    have e := Lib.hid (show (c - b - 1 == 0) = decide (b + 1 = c) by rw [Bool.eq_iff_iff]; simp; omega)
    clear h hb hc
    go_enter Tryd.func29, Tryd.ntmps29
    go_wp2_with fail
    refine (K.out _).mono ?_
    rintro e w' ⟨rfl, rfl⟩
    go_wp2_with fail
    go_ret
    exact ⟨ret_bool e.out, below_alloc (below_alloc (Below.refl _ _) _) _⟩
  · have K := Lib.hid (fun w => between_ge b c w (by omega))
    have e := Lib.hid (show decide (b + 1 = c) = false by simp; omega)
    clear h hb hc
    go_enter Tryd.func29, Tryd.ntmps29
    go_wp2_with fail
    refine (K.out _).mono ?_
    rintro e w' ⟨rfl, rfl⟩
    go_wp2_with fail
    go_ret
    exact ⟨ret_bool e.out.symm, below_alloc (below_alloc (Below.refl _ _) _) _⟩
end Go.Proofs.YtciinnkcjiibfaaDoor
