/- Put and Normal of the reference. Conditions: the intervals are right, their ends numbers of 64 bits, at most 1048576 of them. -/
import Derived.Test.YtgeggdaokjimjaaGreatDoorRStarts
import Derived.Test.YtgeggdaokjimjaaGreatDoorRIv
namespace Go.Proofs.YtgeggdaokjimjaaGreatDoor
open Go.RowKit
theorem put_any (L : List Iv) (x : Iv) (v : Value) (B : Nat) (w : World) (hown : OwnL w B v L) (hB : B ≤ w.heap.size) (hlen : L.length ≤ 4194304) (h64 : All64 L) (hx : In64 x) :
    Calls Tryz.prog 80 #[v, .agg #[.int .u64 x.1, .int .u64 x.2]] w (PutEnd B (putL L x) w) := by
  obtain ⟨x1, x2⟩ := x
  by_cases hL : L = []
  · subst hL
    exact put_nil v B x1 x2 w hown hB
  · obtain ⟨m, y, rfl⟩ := snoc_of hL
    have hm : m.length ≤ 4194304 := by simp at hlen; omega
    by_cases hn : y.2 + 1 = x1
    · rw [putL_near m y (x1, x2) hn]
      exact put_near m y v B x1 x2 w hown hB hm (h64 y (by simp)) hx hn
    · rw [putL_far m y (x1, x2) hn]
      exact put_far m y v B x1 x2 w hown hB hm (h64 y (by simp)) hx hn
theorem UU_eq : (18446744073709551615 : Int) = UU := rfl
def IsOwnR (L : List Iv) (w : World) (e : Ending) (w' : World) : Prop := ∃ v, e = .returned v ∧ OwnL w' w.heap.size v L ∧ Below w.heap.size w w'
theorem hasLR (l : List Iv) (s : Value) (x : Int) (r : Bool) (w : World) (hl : IvsAt w s l) (h : hasL l x = r) :
    Calls Tryz.prog 44 #[s, .int .u64 x] w (IsEnd r w) := by
  subst h; exact refHasL_any l s x w hl
end Go.Proofs.YtgeggdaokjimjaaGreatDoor
