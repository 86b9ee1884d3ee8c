/- Div64 at the divisor 10, LeadingZeros64 at 10 and divide. Conditions: the high part is less than 10. -/
import Derived.Test.YtomjjjjjmknhkaaWCount
import Derived.Deep.QuietTactic
import Derived.BigQuiet
import Derived.Laws.BitsAllLaws
namespace Go.Proofs.Ytomjjjjjmknhkaa
open Go.RowKit

set_option maxRecDepth 100000 in
theorem len_ten (w : World) : Calls Try.prog 33 #[.int .u64 10] w (IsNum .i64 4 w) := by
  go_enter Try.func33, Try.ntmps33
  go_wp2
  go_ret
  exact ⟨by kernel_rfl, rfl⟩

theorem zeros_ten (w : World) : Calls Try.prog 32 #[.int .u64 10] w (IsNum .i64 60 w) := by
  go_enter Try.func32, Try.ntmps32
  go_wp2_with fail
  refine (len_ten _).mono ?_
  rintro e w' ⟨rfl, rfl⟩
  go_wp2_with fail
  go_ret
  exact ⟨rfl, rfl⟩

theorem ret_pair {a b c d : Int} (h : a = c) (k : b = d) : Ending.returned (.tuple #[.int .u64 a, .int .u64 b]) = .returned (.tuple #[.int .u64 c, .int .u64 d]) := by rw [h, k]
def PairB (a b : Int) (w : World) (e : Ending) (w' : World) : Prop := e = .returned (.tuple #[.int .u64 a, .int .u64 b]) ∧ Below w.heap.size w w'

theorem below_drewN (w : World) (n : Nat) : Below w.heap.size w (w.drewN n) := ⟨rfl, rfl, rfl, Nat.le_refl _, fun _ _ => rfl⟩

theorem wrap_u64 (n : Int) : IntKind.u64.wrap n = n % 18446744073709551616 := by
  simp [IntKind.wrap, IntKind.bits, IntKind.signed]

/-- The high part moved up, and the low part's upper bits. -/
theorem or_up (hi lo : Int) (h0 : 0 ≤ lo) (h1 : lo ≤ 18446744073709551615) (h2 : 1 ≤ hi) (h3 : hi ≤ 9) :
    bits BinOp.or IntKind.u64 (hi * 1152921504606846976) (lo / 16) = hi * 1152921504606846976 + lo / 16 := by
  obtain ⟨m, hm⟩ := Int.eq_ofNat_of_zero_le (a := lo / 16) (by omega)
  obtain ⟨k, rfl⟩ := Int.eq_ofNat_of_zero_le (a := hi) (by omega)
  rw [hm]
  have e : ((k : Int) * 1152921504606846976) = ((k * 1152921504606846976 : Nat) : Int) := by omega
  rw [e, u64_or_nat (k * 1152921504606846976) m (by omega) (by omega)]
  have hd : (1152921504606846976 : Nat) = 2 ^ 60 := by decide
  have h : k * 2 ^ 60 ||| m = k * 2 ^ 60 + m := by
    rw [← Nat.shiftLeft_eq, Nat.shiftLeft_add_eq_or_of_lt (by omega)]
  rw [hd, h]
  omega

theorem and_zero (lo : Int) :
    bits BinOp.and IntKind.u64 (lo % 16 * 1152921504606846976) 4294967295 = 0 := by
  obtain ⟨m, hm⟩ := Int.eq_ofNat_of_zero_le (a := lo % 16) (by omega)
  have hlt : m < 16 := by omega
  rw [hm]
  have : ∀ x : Fin 16, bits BinOp.and IntKind.u64 (((x.val : Nat) : Int) * 1152921504606846976) 4294967295 = 0 := by decide
  exact this ⟨m, hlt⟩

set_option maxRecDepth 100000 in
theorem div_low (lo : Int) (w : World) (h0 : 0 ≤ lo) (h1 : lo ≤ 18446744073709551615) :
    Calls Try.prog 31 #[.int .u64 0, .int .u64 lo, .int .u64 10] w (PairB (lo / 10) (lo % 10) w) := by
  go_enter Try.func31, Try.ntmps31
  go_wp2_with fail
  go_quiet (fail)
  go_wp2_with fail
  go_ret2
  exact ⟨rfl, below_drewN _ _⟩
set_option maxRecDepth 100000 in
set_option maxHeartbeats 1000000 in
theorem div_high (hi lo : Int) (w : World) (h0 : 0 ≤ lo) (h1 : lo ≤ 18446744073709551615) (h2 : 1 ≤ hi) (h3 : hi ≤ 9) :
    Calls Try.prog 31 #[.int .u64 hi, .int .u64 lo, .int .u64 10] w (PairB ((hi * 18446744073709551616 + lo) / 10) ((hi * 18446744073709551616 + lo) % 10) w) := by
  have hb : (hi == 0) = false := by simp; omega
  have e1 := or_up hi lo h0 h1 h2 h3
  have e2 : bits BinOp.and IntKind.u64 11529215046068469760 4294967295 = 0 := by kernel_rfl
  have e3 : IntKind.u64.wrap (lo * 1152921504606846976) = lo % 16 * 1152921504606846976 := by rw [wrap_u64]; omega
  have e4 := and_zero lo
  obtain ⟨T, hT⟩ : ∃ T, lo % 16 * 1152921504606846976 = T := ⟨_, rfl⟩
  obtain ⟨T1, hT1⟩ : ∃ T1, T / 4294967296 = T1 := ⟨_, rfl⟩
  obtain ⟨U, hU⟩ : ∃ U, hi * 1152921504606846976 + lo / 16 = U := ⟨_, rfl⟩
  obtain ⟨q1, hq1⟩ : ∃ q1, U / 2684354560 = q1 := ⟨_, rfl⟩
  obtain ⟨r1, hr1⟩ : ∃ r1, U - q1 * 2684354560 = r1 := ⟨_, rfl⟩
  rw [hT] at e3 e4
  rw [hU] at e1
  have u0 : 0 ≤ U := by omega
  have u1 : U ≤ 11529215046068469759 := by omega
  have a0 : 0 ≤ q1 := by omega
  have a1 : q1 ≤ 4294967295 := by omega
  have b0 : 0 ≤ r1 := by omega
  have b1 : r1 ≤ 2684354559 := by omega
  have c0 : 0 ≤ T1 := by omega
  have c1 : T1 ≤ 4294967295 := by omega
  obtain ⟨V, hV⟩ : ∃ V, r1 * 4294967296 + T1 = V := ⟨_, rfl⟩
  obtain ⟨q0, hq0⟩ : ∃ q0, V / 2684354560 = q0 := ⟨_, rfl⟩
  obtain ⟨r0, hr0⟩ : ∃ r0, V - q0 * 2684354560 = r0 := ⟨_, rfl⟩
  have v0 : 0 ≤ V := by omega
  have v1 : V ≤ 11529215046068469759 := by omega
  have d0 : 0 ≤ q0 := by omega
  have d1 : q0 ≤ 4294967295 := by omega
  have f0 : 0 ≤ r0 := by omega
  have f1 : r0 ≤ 2684354559 := by omega
  have e5 : IntKind.u64.wrap (IntKind.u64.wrap (IntKind.u64.wrap (U * 4294967296) + T1) - IntKind.u64.wrap (q1 * 11529215046068469760)) = V := by
    rw [wrap_u64, wrap_u64, wrap_u64, wrap_u64]; omega
  have e6 : IntKind.u64.wrap (IntKind.u64.wrap (IntKind.u64.wrap (V * 4294967296)) - IntKind.u64.wrap (q0 * 11529215046068469760)) = r0 * 4294967296 := by
    rw [wrap_u64, wrap_u64, wrap_u64, wrap_u64]; omega
  have eq : q1 * 4294967296 + q0 = (hi * 18446744073709551616 + lo) / 10 := by omega
  have er : r0 * 4294967296 / 1152921504606846976 = (hi * 18446744073709551616 + lo) % 10 := by omega
  have EQ := Lib.hid eq; clear eq
  have ER := Lib.hid er; clear er
  have HT := Lib.hid hT; clear hT
  have HU := Lib.hid hU; clear hU
  have HV := Lib.hid hV; clear hV
  go_enter Try.func31, Try.ntmps31
  go_wp2_with fail
  refine (zeros_ten _).mono ?_
  rintro e w' ⟨rfl, rfl⟩
  go_wp2_with fail
  go_loop [15, 16] (fun a b => a = .int .u64 q1 ∧ b = .int .u64 r1) (fun _ _ => 0)
  case atStart => exact ⟨by rw [hq1], rfl⟩
  case round =>
    obtain ⟨rfl, rfl⟩ := hrel
    go_wp2_with fail
    go_loop [18, 16] (fun a b => a = .int .u64 q0 ∧ b = .int .u64 r0) (fun _ _ => 0)
    case atStart => exact ⟨rfl, rfl⟩
    case round =>
      obtain ⟨rfl, rfl⟩ := hrel
      go_wp2_with fail
      go_ret2
      exact ⟨ret_pair EQ.out ER.out, Below.refl _ _⟩

theorem div_any (hi lo : Int) (w : World) (h0 : 0 ≤ lo) (h1 : lo ≤ 18446744073709551615) (h2 : 0 ≤ hi) (h3 : hi ≤ 9) :
    Calls Try.prog 31 #[.int .u64 hi, .int .u64 lo, .int .u64 10] w (PairB ((hi * 18446744073709551616 + lo) / 10) ((hi * 18446744073709551616 + lo) % 10) w) := by
  by_cases h : hi = 0
  · subst h
    have := div_low lo w h0 h1
    simpa using this
  · exact div_high hi lo w h0 h1 (by omega) h3

set_option maxRecDepth 100000 in
/-- divide: the count a * 2^64 + b by 10, and the rest. -/
theorem divide_any (a b : Int) (w : World) (h0 : 0 ≤ a) (h1 : a ≤ 18446744073709551615) (h2 : 0 ≤ b) (h3 : b ≤ 18446744073709551615) :
    Calls Try.prog 28 #[.agg #[.int .u64 a, .int .u64 b]] w (fun e w' => e = .returned (.tuple #[.agg #[.int .u64 (a / 10), .int .u64 ((a % 10 * 18446744073709551616 + b) / 10)], .int .u64 ((a % 10 * 18446744073709551616 + b) % 10)]) ∧ Below w.heap.size w w') := by
  obtain ⟨q, hq⟩ : ∃ q, (a % 10 * 18446744073709551616 + b) / 10 = q := ⟨_, rfl⟩
  obtain ⟨r, hr⟩ : ∃ r, (a % 10 * 18446744073709551616 + b) % 10 = r := ⟨_, rfl⟩
  have k := fun w => div_any (a % 10) b w h2 h3 (by omega) (by omega)
  rw [hq, hr] at *
  have K := Lib.hid k; clear k
  have HQ := Lib.hid hq; clear hq
  have HR := Lib.hid hr; clear hr
  go_enter Try.func28, Try.ntmps28
  go_wp2_with fail
  refine (K.out _).mono ?_
  rintro e w' ⟨rfl, hw⟩
  have c0 := keep_cell (p := ⟨w.heap.size, 0, none⟩) (v := .int .u64 a) (by simp) hw
  have d0 := keep_cell (p := ⟨w.heap.size + 1, 0, none⟩) (v := .int .u64 0) (by simp) hw
  have d1 := keep_cell (p := ⟨w.heap.size + 1, 1, none⟩) (v := .int .u64 0) (by simp) hw
  have f0 := keep_free (p := ⟨w.heap.size + 1, 0, none⟩) (by simp) (by simp) hw
  have f1 := keep_free (p := ⟨w.heap.size + 1, 1, none⟩) (by simp) (by simp) hw
  have HW := Lib.hid hw; clear hw
  go_wp2_with fail
  have hs := two_stored d0 d1 (.int .u64 (a / 10)) (.int .u64 q)
  refine bodyPost_ret (v := .tuple #[.agg #[.int .u64 (a / 10), .int .u64 q], .int .u64 r]) (by simp [results, Try.results28, go_sem, hs.1, hs.2.1]) rfl ⟨rfl, ?_⟩
  exact ((keep_below (below_alloc (below_alloc (Below.refl _ _) _) _) (by simp) HW.out).setCell (by simp) _).setCell (by simp) _
end Go.Proofs.Ytomjjjjjmknhkaa
