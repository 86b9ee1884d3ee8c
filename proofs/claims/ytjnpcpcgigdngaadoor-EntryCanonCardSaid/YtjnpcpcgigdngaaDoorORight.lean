/- The laws' look at their arguments: all lists correct and short, or not. No conditions. -/
import Derived.Test.YtjnpcpcgigdngaaDoorORef
import Derived.Test.YtjnpcpcgigdngaaDoorRIv
namespace Go.Proofs.YtjnpcpcgigdngaaDoor
open Go.RowKit
/-- A list that the laws take. -/
def okArg (w : World) (v : Value) : Prop := ∃ l, IvsAt w v l ∧ GoodL l ∧ l.length ≤ 60
/-- A list that the laws turn away. -/
def badArg (w : World) (v : Value) : Prop := (∃ q n cap, v = .slice q n cap ∧ 60 < n) ∨ ∃ l, IvsAt w v l ∧ All64 l ∧ l.length ≤ 60 ∧ ¬ canon l
theorem arg_split {w : World} {v : Value} (h : (∃ q n cap, v = .slice q n cap ∧ 60 < n) ∨ ∃ l, l.length ≤ 60 ∧ All64 l ∧ IvsAt w v l) : okArg w v ∨ badArg w v := by
  rcases h with h | ⟨l, hl, h64, hi⟩
  · exact .inr (.inl h)
  · by_cases hc : canon l
    · exact .inl ⟨l, hi, good_of hc h64, hl⟩
    · exact .inr (.inr ⟨l, hi, h64, hl, hc⟩)
theorem okArg.call {w w' : World} {v : Value} (h : okArg w v) (hb : Below w.heap.size w w') : okArg w' v := by
  obtain ⟨l, h1, h2, h3⟩ := h
  exact ⟨l, h1.call hb, h2, h3⟩
theorem badArg.call {w w' : World} {v : Value} (h : badArg w v) (hb : Below w.heap.size w w') : badArg w' v := by
  rcases h with h | ⟨l, h1, h2⟩
  · exact .inl h
  · exact .inr ⟨l, h1.call hb, h2⟩
/-- One round that does not turn away. -/
theorem okArg.right {w : World} {v : Value} (h : okArg w v) : ∃ p n cap, v = .slice p n cap ∧ n ≤ 60 ∧ ∀ W, Below w.heap.size w W → Calls Tryd.prog 23 #[v] W (IsEnd true W) := by
  obtain ⟨l, h1, h2, h3⟩ := h
  obtain ⟨p, cap, rfl, _⟩ := h1.shape
  refine ⟨p, l.length, cap, rfl, h3, fun W hW => ?_⟩
  have k := refRight_any l _ W (h1.call hW) h2.all
  rw [(rightB_iff l).2 h2.can] at k
  exact k
theorem badArg.right {w : World} {v : Value} (h : badArg w v) : ∃ p n cap, v = .slice p n cap ∧ (60 < n ∨ n ≤ 60 ∧ ∀ W, Below w.heap.size w W → Calls Tryd.prog 23 #[v] W (IsEnd false W)) := by
  rcases h with ⟨q, n, cap, rfl, hn⟩ | ⟨l, h1, h64, h3, hc⟩
  · exact ⟨q, n, cap, rfl, .inl hn⟩
  · obtain ⟨p, cap, rfl, _⟩ := h1.shape
    refine ⟨p, l.length, cap, rfl, .inr ⟨h3, fun W hW => ?_⟩⟩
    have k := refRight_any l _ W (h1.call hW) h64
    rw [show rightB l = false from by
      cases hr : rightB l with
      | false => rfl
      | true => exact absurd ((rightB_iff l).1 hr) hc] at k
    exact k
end Go.Proofs.YtjnpcpcgigdngaaDoor
