/- Put and Normal of the reference. Conditions: the intervals are right, their ends numbers of 64 bits, at most 1048576 of them. -/
import Derived.Test.YtefiobfljhmkkaaGreatDoorRPut
import Derived.Test.YtefiobfljhmkkaaGreatDoorRIv
import Derived.Test.YtefiobfljhmkkaaGreatDoorOAlg
import Derived.Deep.RegionHeld3
import Derived.Laws.OwnMore
namespace Go.Proofs.YtefiobfljhmkkaaGreatDoor
open Go.RowKit
def IsOwnR (L : List Iv) (w : World) (e : Ending) (w' : World) : Prop := ∃ v, e = .returned v ∧ OwnL w' w.heap.size v L ∧ Below w.heap.size w w'
end Go.Proofs.YtefiobfljhmkkaaGreatDoor

/- The reference's union, meet, difference, complement and subset. Conditions: correct lists of at most 20000 intervals. -/
namespace Go.Proofs.YtefiobfljhmkkaaGreatDoor
open Go.RowKit
/-- A list in memory that is correct and not too long. -/
structure OpAt (w : World) (s : Value) (l : List Iv) : Prop where
  at' : IvsAt w s l
  good : GoodL l
  len : l.length ≤ 20000
theorem OpAt.call {w w' : World} {s : Value} {l : List Iv} (h : OpAt w s l) (hb : Below w.heap.size w w') : OpAt w' s l := ⟨h.at'.call hb, h.good, h.len⟩
end Go.Proofs.YtefiobfljhmkkaaGreatDoor

/- What the laws of layer 5 ask of package setops, and their example out of it. No conditions of its own. -/
namespace Go.Proofs.YtefiobfljhmkkaaGreatDoor
open Go.RowKit
theorem orL_len (a b : List Iv) : (orL a b).length ≤ 1 + 2 * (a.length + b.length) := by
  have h1 := op_len fOr a b
  have h2 := starts_len UM (a ++ b)
  rw [List.length_append] at h2
  unfold orL
  omega
theorem andL_len (a b : List Iv) : (andL a b).length ≤ 1 + 2 * (a.length + b.length) := by
  have h1 := op_len fAnd a b
  have h2 := starts_len UM (a ++ b)
  rw [List.length_append] at h2
  unfold andL
  omega
theorem subL_len (a b : List Iv) : (subL a b).length ≤ 1 + 2 * (a.length + b.length) := by
  have h1 := op_len fSub a b
  have h2 := starts_len UM (a ++ b)
  rw [List.length_append] at h2
  unfold subL
  omega
end Go.Proofs.YtefiobfljhmkkaaGreatDoor

/- The law SetopsKeep in every state, out of what package setops says. Conditions: the contracts of package setops. -/
namespace Go.Proofs.YtefiobfljhmkkaaGreatDoor
open Go.RowKit
/-- A nil slice has no room. -/
def saneV (v : Value) : Prop := ∀ n c, v = .slice none n c → n = 0 ∧ c = 0
end Go.Proofs.YtefiobfljhmkkaaGreatDoor
