/- The law WordTexts returns true for every count. Conditions: the count's parts are numbers of 64 bits. -/
import Derived.Test.YtomjjjjjmknhkaaWRefText
import Derived.Test.YtomjjjjjmknhkaaRow
import Derived.Deep.RegionHeld3
import Derived.Lib.SmallJoins
namespace Go.Proofs.Ytomjjjjjmknhkaa
open Go.RowKit Go.ChangeShapes Go.WideShapes

theorem two_call {W w1 w2 : World} {k : Nat} {v0 v1 : Value}
    (h : Below W.heap.size W w1 ∧ w1.cell? ⟨k, 0, none⟩ = some v0 ∧ w1.cell? ⟨k, 1, none⟩ = some v1)
    (hb : Hid (Below w1.heap.size w1 w2)) :
    Below W.heap.size W w2 ∧ w2.cell? ⟨k, 0, none⟩ = some v0 ∧ w2.cell? ⟨k, 1, none⟩ = some v1 :=
  ⟨keep_below h.1 (Nat.le_refl _) hb.out, keep_cell h.2.1 hb.out, keep_cell h.2.2 hb.out⟩
theorem two_drew {W w1 : World} {k : Nat} {v0 v1 : Value}
    (h : Below W.heap.size W w1 ∧ w1.cell? ⟨k, 0, none⟩ = some v0 ∧ w1.cell? ⟨k, 1, none⟩ = some v1) :
    Below W.heap.size W w1.drew ∧ w1.drew.cell? ⟨k, 0, none⟩ = some v0 ∧ w1.drew.cell? ⟨k, 1, none⟩ = some v1 :=
  two_call h ((Below.refl _ _).drew)

set_option maxRecDepth 100000 in
theorem texts_any (a b : Nat) (w : World) (h1 : a < 18446744073709551616) (h2 : b < 18446744073709551616) :
    Calls Try.prog 8 #[.agg #[.int .u64 (a : Int), .int .u64 (b : Int)]] w (TrueEnd w) := by
  have k1 := fun w => text_any (a * 18446744073709551616 + b) (by omega) w
  have e1 : hiN (a * 18446744073709551616 + b) = a := by unfold hiN; omega
  have e2 : loN (a * 18446744073709551616 + b) = b := by unfold loN; omega
  rw [e1, e2] at k1
  have k2 := fun w => refText_any a b w h1 h2
  obtain ⟨T, hT⟩ : ∃ T, decText (a * 18446744073709551616 + b) = T := ⟨_, rfl⟩
  rw [hT] at k1 k2
  have K1 := Lib.hid k1; clear k1
  have K2 := Lib.hid k2; clear k2
  clear hT e1 e2 h1 h2
  have hb : Below w.heap.size w (w.alloc (.cells #[.int .u64 (a : Int), .int .u64 (b : Int)] 34)) ∧ (w.alloc (.cells #[.int .u64 (a : Int), .int .u64 (b : Int)] 34)).cell? ⟨w.heap.size, 0, none⟩ = some (.int .u64 (a : Int)) ∧ (w.alloc (.cells #[.int .u64 (a : Int), .int .u64 (b : Int)] 34)).cell? ⟨w.heap.size, 1, none⟩ = some (.int .u64 (b : Int)) :=
    ⟨below_alloc (Below.refl _ _) _, by simp, by simp⟩
  go_enter Try.func8, Try.ntmps8
  go_wp2_with fail
  go_region_held3 (fun w' => Below w.heap.size w w' ∧ w'.cell? ⟨w.heap.size, 0, none⟩ = some (.int .u64 (a : Int)) ∧ w'.cell? ⟨w.heap.size, 1, none⟩ = some (.int .u64 (b : Int)))
    (first
      | exact two_call (by assumption) (by assumption)
      | exact two_drew (by assumption)
      | exact hb)
    (first
      | (go_at_call 11; refine (alive_any _).mono ?_; rintro en w' ⟨rfl, hb4'⟩; have hb4 := Lib.hid hb4'; clear hb4')
      | (go_at_call 22; refine (K1.out _).mono ?_; rintro en w' ⟨rfl, hb4'⟩; have hb4 := Lib.hid hb4'; clear hb4')
      | (go_at_call 23; refine (K2.out _).mono ?_; rintro en w' ⟨rfl, hb4'⟩; have hb4 := Lib.hid hb4'; clear hb4'))
  rename_i hE
  go_wp2_with fail
  go_ret
  exact ⟨rfl, hE.1⟩

section
variable {H : Type} {enc : TypeId × Value → H}
theorem count_open {W : World} {base : Nat} {v : Value} {d : DataW H} {p : List MemPlace} (hv : Value.okWide Try.prog W .any base 34 v) (h : DataW.Trod enc Try.prog W 0 (fun _ => true) true 34 v d p) :
    ∃ a b : Nat, v = .agg #[.int .u64 (a : Int), .int .u64 (b : Int)] ∧ a < 18446744073709551616 ∧ b < 18446744073709551616 := by
  obtain ⟨c0, c1, y0, y1, m, rfl, _, _, hy0, hy1⟩ := Go.Joins.open_agg2 Try.underlying34 (by kernel_rfl) (by kernel_rfl) hv h
  obtain ⟨a, e0, _, wa⟩ := DataW.trod_int Try.underlying22 hy0
  obtain ⟨b, e1, _, wb⟩ := DataW.trod_int Try.underlying22 hy1
  simp at e0 e1
  subst e0 e1
  have ba := bounds_u64 wa
  have bb := bounds_u64 wb
  obtain ⟨x, rfl⟩ := Int.eq_ofNat_of_zero_le ba.1
  obtain ⟨y, rfl⟩ := Int.eq_ofNat_of_zero_le bb.1
  exact ⟨x, y, rfl, by omega, by omega⟩
end
end Go.Proofs.Ytomjjjjjmknhkaa
