/- Right, Check, Has, Relate of package span and the reference's. Conditions: the ends are numbers of 64 bits. -/
import Derived.Test.YtefiobfljhmkkaaEFirst
import Derived.Test.YtefiobfljhmkkaaCells
import Derived.Outline
namespace Go.Proofs.Ytefiobfljhmkkaa
open Go.RowKit
theorem right_any (a b : Int) (w : World) :
    Calls Try.prog 81 #[.agg #[.int .u64 a, .int .u64 b]] w (IsEnd (decide (a ≤ b)) w) := by
  go_enter Try.func81, Try.ntmps81
  go_wp2
  go_ret
  exact ⟨rfl, below_alloc (Below.refl _ _) _⟩
def hasB (a b x : Int) : Bool := decide (a ≤ x) && decide (x ≤ b)
theorem refHas_any (a b x : Int) (w : World) :
    Calls Try.prog 69 #[.agg #[.int .u64 a, .int .u64 b], .int .u64 x] w (IsEnd (hasB a b x) w) := by
  by_cases h : a ≤ x
  · have hd : decide (a ≤ x) = true := by simpa using h
    have e := Lib.hid (show hasB a b x = decide (x ≤ b) by unfold hasB; rw [hd]; rfl)
    clear h
    go_enter Try.func69, Try.ntmps69
    go_wp2
    go_ret
    exact ⟨ret_bool e.out.symm, below_alloc (Below.refl _ _) _⟩
  · have hd : decide (a ≤ x) = false := by simpa using h
    have e := Lib.hid (show hasB a b x = false by unfold hasB; rw [hd]; rfl)
    clear h
    go_enter Try.func69, Try.ntmps69
    go_wp2
    go_ret
    exact ⟨ret_bool e.out.symm, below_alloc (Below.refl _ _) _⟩
end Go.Proofs.Ytefiobfljhmkkaa

/- Relate of package span and the reference's. Conditions: the ends are numbers of 64 bits. -/
namespace Go.Proofs.Ytefiobfljhmkkaa
open Go.RowKit
/-- How two intervals are related. -/
def relN (a b c d : Int) : Int := if b + 1 = c then 1 else if b < c then 0 else if d + 1 = a then 3 else if d < a then 4 else 2
theorem rel1 {a b c d : Int} (h : b + 1 = c) : relN a b c d = 1 := by unfold relN; rw [if_pos h]
theorem rel0 {a b c d : Int} (h : ¬ b + 1 = c) (h2 : b < c) : relN a b c d = 0 := by unfold relN; rw [if_neg h, if_pos h2]
theorem rel3 {a b c d : Int} (h2 : ¬ b < c) (h3 : d + 1 = a) : relN a b c d = 3 := by unfold relN; rw [if_neg (by omega), if_neg h2, if_pos h3]
theorem rel4 {a b c d : Int} (h2 : ¬ b < c) (h3 : ¬ d + 1 = a) (h4 : d < a) : relN a b c d = 4 := by unfold relN; rw [if_neg (by omega), if_neg h2, if_neg h3, if_pos h4]
theorem rel2 {a b c d : Int} (h2 : ¬ b < c) (h4 : ¬ d < a) : relN a b c d = 2 := by unfold relN; rw [if_neg (by omega), if_neg h2, if_neg (by omega), if_neg h4]
def IsInt (n : Int) (w : World) (e : Ending) (w' : World) : Prop := e = .returned (.int .i64 n) ∧ Below w.heap.size w w'
set_option maxRecDepth 100000 in
theorem refRelate_any (a b c d : Int) (w : World) (hb : 0 ≤ b) (hc : c ≤ 18446744073709551615) (hd : 0 ≤ d) (ha : a ≤ 18446744073709551615) :
    Calls Try.prog 70 #[.agg #[.int .u64 a, .int .u64 b], .agg #[.int .u64 c, .int .u64 d]] w (IsInt (relN a b c d) w) := by
  have HS := Lib.hid (below_alloc (below_alloc (Below.refl w.heap.size w) (.cells #[.int .u64 a, .int .u64 b] 70)) (.cells #[.int .u64 c, .int .u64 d] 70))
  by_cases h2 : b < c
  · by_cases h1 : b + 1 = c
    · have R := Lib.hid (rel1 (a := a) (d := d) h1)
      have e : (c - b == 1) = true := by simp; omega
      clear h1 hd ha
      go_enter Try.func70, Try.ntmps70
      go_wp2_with fail
      go_ret
      exact ⟨ret_num R.out.symm, HS.out⟩
    · have R := Lib.hid (rel0 (a := a) (d := d) h1 h2)
      have e : (c - b == 1) = false := by simp; omega
      clear h1 hd ha
      go_enter Try.func70, Try.ntmps70
      go_wp2_with fail
      go_ret
      exact ⟨ret_num R.out.symm, HS.out⟩
  · by_cases h4 : d < a
    · by_cases h3 : d + 1 = a
      · have R := Lib.hid (rel3 (a := a) (d := d) h2 h3)
        have e : (a - d == 1) = true := by simp; omega
        clear h3 hb hc
        go_enter Try.func70, Try.ntmps70
        go_wp2_with fail
        go_ret
        exact ⟨ret_num R.out.symm, HS.out⟩
      · have R := Lib.hid (rel4 (a := a) (d := d) h2 h3 h4)
        have e : (a - d == 1) = false := by simp; omega
        clear h3 hb hc
        go_enter Try.func70, Try.ntmps70
        go_wp2_with fail
        go_ret
        exact ⟨ret_num R.out.symm, HS.out⟩
    · have R := Lib.hid (rel2 (a := a) (d := d) h2 h4)
      clear hb hc hd ha
      go_enter Try.func70, Try.ntmps70
      go_wp2_with fail
      go_ret
      exact ⟨ret_num R.out.symm, HS.out⟩
end Go.Proofs.Ytefiobfljhmkkaa
