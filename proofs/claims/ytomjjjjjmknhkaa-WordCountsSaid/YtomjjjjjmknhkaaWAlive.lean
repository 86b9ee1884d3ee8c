/- The laws' example holds in every state. No conditions. -/
import Derived.Test.YtomjjjjjmknhkaaWText
namespace Go.Proofs.Ytomjjjjjmknhkaa
open Go.RowKit

def IsEnd (b : Bool) (w : World) (e : Ending) (w' : World) : Prop := e = .returned (.bool b) ∧ Below w.heap.size w w'

theorem text_big : decText 18446744073709551616 = [49, 56, 52, 52, 54, 55, 52, 52, 48, 55, 51, 55, 48, 57, 53, 53, 49, 54, 49, 54] :=
  (ds_text 19 18446744073709551616 (by decide) (Or.inr (by decide))).symm.trans (by decide)
theorem text_one : decText 1 = [49] := (ds_text 0 1 (by decide) (Or.inl rfl)).symm.trans (by decide)

set_option maxRecDepth 100000 in
theorem alive_any (w : World) : Calls Try.prog 11 #[] w (IsEnd true w) := by
  have k1 := fun w => width_le 0 18446744073709551615 1 0 w (by omega) (by omega) (by omega) (by omega) (by omega)
  have k2 := fun w => text_any 18446744073709551616 (by omega) w
  have k3 := fun w => width_le 5 5 0 1 w (by omega) (by omega) (by omega) (by omega) (by omega)
  have k4 := fun w => text_any 1 (by omega) w
  simp only [text_big, text_one] at k2 k4
  have h1 : hiN 18446744073709551616 = 1 := rfl
  have h2 : loN 18446744073709551616 = 0 := rfl
  have h3 : hiN 1 = 0 := rfl
  have h4 : loN 1 = 1 := rfl
  rw [h1, h2] at k2
  rw [h3, h4] at k4
  have K1 := Lib.hid k1; clear k1
  have K2 := Lib.hid k2; clear k2
  have K3 := Lib.hid k3; clear k3
  have K4 := Lib.hid k4; clear k4
  clear h1 h2 h3 h4
  go_enter Try.func11, Try.ntmps11
  go_wp2_with fail
  refine (K1.out _).mono ?_
  rintro e w1 ⟨rfl, b1⟩
  have B1 := Lib.hid b1; clear b1
  go_wp2_with fail
  refine (K2.out _).mono ?_
  rintro e w2 ⟨rfl, b2⟩
  have B2 := Lib.hid (keep_below B1.out (Nat.le_refl _) b2); clear b2 B1
  go_wp2_with fail
  refine (K3.out _).mono ?_
  rintro e w3 ⟨rfl, b3⟩
  have B3 := Lib.hid (keep_below B2.out (Nat.le_refl _) b3); clear b3 B2
  go_wp2_with fail
  refine (K4.out _).mono ?_
  rintro e w4 ⟨rfl, b4⟩
  have B4 := Lib.hid (keep_below B3.out (Nat.le_refl _) b4); clear b4 B3
  go_wp2_with fail
  go_ret
  exact ⟨rfl, B4.out⟩
end Go.Proofs.Ytomjjjjjmknhkaa
