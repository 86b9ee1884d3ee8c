/- Next, Prev, Between, Max and Add64, and the reference's Between. Conditions: the arguments are numbers of 64 bits. -/
import Derived.Test.YtomjjjjjmknhkaaLaw
import Derived.Laws.Externs
namespace Go.Proofs.Ytomjjjjjmknhkaa
open Go.RowKit

def IsTup (a : Int) (b : Bool) (w : World) (e : Ending) (w' : World) : Prop := e = .returned (.tuple #[.int .u64 a, .bool b]) ∧ w = w'
def IsNum (k : IntKind) (a : Int) (w : World) (e : Ending) (w' : World) : Prop := e = .returned (.int k a) ∧ w = w'
def IsPair (a b : Int) (w : World) (e : Ending) (w' : World) : Prop := e = .returned (.tuple #[.int .u64 a, .int .u64 b]) ∧ w = w'

theorem next_any (x : Int) (w : World) (h0 : 0 ≤ x) (h : x < 18446744073709551615) :
    Calls Try.prog 9 #[.int .u64 x] w (IsTup (x + 1) true w) := by
  go_enter Try.func9, Try.ntmps9
  go_wp2
  go_ret2
  exact ⟨rfl, rfl⟩
theorem next_top (w : World) :
    Calls Try.prog 9 #[.int .u64 18446744073709551615] w (IsTup 0 false w) := by
  go_enter Try.func9, Try.ntmps9
  go_wp2
  go_ret2
  exact ⟨rfl, rfl⟩
theorem prev_any (x : Int) (w : World) (h0 : 0 < x) (h : x ≤ 18446744073709551615) :
    Calls Try.prog 10 #[.int .u64 x] w (IsTup (x - 1) true w) := by
  go_enter Try.func10, Try.ntmps10
  go_wp2
  go_ret2
  exact ⟨rfl, rfl⟩
theorem prev_zero (w : World) :
    Calls Try.prog 10 #[.int .u64 0] w (IsTup 0 false w) := by
  go_enter Try.func10, Try.ntmps10
  go_wp2
  go_ret2
  exact ⟨rfl, rfl⟩
theorem between_lt (a b : Int) (w : World) (h0 : 0 ≤ a) (h : a < b) (h1 : b ≤ 18446744073709551615) :
    Calls Try.prog 14 #[.int .u64 a, .int .u64 b] w (IsTup (b - a - 1) true w) := by
  go_enter Try.func14, Try.ntmps14
  go_wp2
  go_ret2
  exact ⟨rfl, rfl⟩
theorem between_ge (a b : Int) (w : World) (h : b ≤ a) :
    Calls Try.prog 14 #[.int .u64 a, .int .u64 b] w (IsTup 0 false w) := by
  go_enter Try.func14, Try.ntmps14
  go_wp2
  go_ret2
  exact ⟨rfl, rfl⟩
theorem refBetween_lt (a b : Int) (w : World) (h0 : 0 ≤ a) (h : a < b) (h1 : b ≤ 18446744073709551615) :
    Calls Try.prog 15 #[.int .u64 a, .int .u64 b] w (IsTup (b - a - 1) true w) := by
  go_enter Try.func15, Try.ntmps15
  go_wp2
  go_ret2
  exact ⟨rfl, rfl⟩
theorem refBetween_ge (a b : Int) (w : World) (h : b ≤ a) :
    Calls Try.prog 15 #[.int .u64 a, .int .u64 b] w (IsTup 0 false w) := by
  go_enter Try.func15, Try.ntmps15
  go_wp2
  go_ret2
  exact ⟨rfl, rfl⟩
theorem max_any (w : World) :
    Calls Try.prog 25 #[] w (IsNum .u64 18446744073709551615 w) := by
  go_enter Try.func25, Try.ntmps25
  go_wp2
  go_ret
  exact ⟨rfl, rfl⟩
/-- Add64, as an equation of the call. -/
theorem add64_run (x y c : Int) (w : World) (hx : 0 ≤ x) (hy : 0 ≤ y) (hc0 : 0 ≤ c) (hc : c ≤ 1) :
    (callFunc 24 #[.int .u64 x, .int .u64 y, .int .u64 c]).run Try.prog w = .ok (.value (.tuple #[.int .u64 ((x + y + c) % 18446744073709551616), .int .u64 ((x + y + c) / 18446744073709551616)])) w := by
  rw [run_callFunc_extern Try.func24 (by kernel_rfl) (by kernel_rfl) (by kernel_rfl) (e := add64Entry) (by kernel_rfl), run_add64 x y c hx hy hc0 hc]
  simp only [Result.andThen]
end Go.Proofs.Ytomjjjjjmknhkaa
