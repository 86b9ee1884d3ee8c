/-
  No cell of these rows narrows 'for every input' (looked for: loops, veiled, ifaces, maps, wideKeys, modest, calm, conditions, laid).
  DERIVED. THE GIVEN ROWS OF THIS SEAT. 5 by the template 'for every input the law returns true; each argument reads behind the call as it read before'; 0 by the template 'total and deterministic' (their statements: YtnlbohaealkelaaTotals.lean).
  GIVEN WITH THE SEED: the statements are not yours to turn. If you find one false, say at which input.
  Laid BY PROGRAM, IN A SANDBOX (cutbox-rows.mjs): the forced cells as the released guide's own fill.sh prints them over the translation 3398595dde354608… (all of the seat's roots in one cut). By AI agents, Wed Nov 11 2026. No macro, syntax, notation, axiom, sorry.
-/
import Derived.Test.YtnlbohaealkelaaChecked
import GoSem.Claim
import GoSem.ClaimJoined
import GoSem.ClaimMapViews
import Derived.JoinedTies
import Derived.KernelRfl
namespace Go.Proofs.Ytnlbohaealkelaa
/- THE CELL 'sum', in the pinned program and in every row, IS THE sha256 OF THE DUMP (.gsa) THAT YtnlbohaealkelaaProg.lean LOADS. Nothing in Lean hashes anything: it is a label: what it is worth is what the hold of that sum in a sandbox is worth. -/
noncomputable def Try.pinned : Pinned := { name := "ytnlbohaealkelaa", sum := "3398595dde354608af8c03168396717055bf600861c7dc46440ac13b9ffc6fcc", checked := Try.checked }
namespace Rows
def none {H : Type} : Left H := { results := [], args := [] }

/-- 'kenninglaw08.JoinMatches': WHATEVER THE INPUT: true; the input reads as it did. -/
def joinMatchesSpec : ChangeSpec := { name := "joinMatches", fn := fun _ => fun
  | [d1, d2] => { results := [.lit (.bool true)], args := [d1, d2] }
  | _ => none }
def joinMatchesRow : OpenClaim := { program := "ytnlbohaealkelaa", sum := "3398595dde354608af8c03168396717055bf600861c7dc46440ac13b9ffc6fcc", func := "kenning/kenninglaw08.JoinMatches", spec := "joinMatches", unfollowed := true, recurses := true, apart := false }
def JoinMatchesSaid : Prop := joinMatchesRow.holds Try.pinned (OpenSpec.ofChange joinMatchesSpec)

/-- ITS FALSE NEIGHBOUR: 'it returns false'. Refute it at one input. -/
def joinMatchesWrong : ChangeSpec := { name := "joinMatches", fn := fun _ => fun
  | [d1, d2] => { results := [.lit (.bool false)], args := [d1, d2] }
  | _ => none }
def JoinMatchesWrongFalsely : Prop := joinMatchesRow.holds Try.pinned (OpenSpec.ofChange joinMatchesWrong)

/-- 'kenninglaw08.JoinSubset': WHATEVER THE INPUT: true; the input reads as it did. -/
def joinSubsetSpec : ChangeSpec := { name := "joinSubset", fn := fun _ => fun
  | [d1, d2] => { results := [.lit (.bool true)], args := [d1, d2] }
  | _ => none }
def joinSubsetRow : OpenClaim := { program := "ytnlbohaealkelaa", sum := "3398595dde354608af8c03168396717055bf600861c7dc46440ac13b9ffc6fcc", func := "kenning/kenninglaw08.JoinSubset", spec := "joinSubset", unfollowed := true, recurses := true, apart := false }
def JoinSubsetSaid : Prop := joinSubsetRow.holds Try.pinned (OpenSpec.ofChange joinSubsetSpec)

/-- ITS FALSE NEIGHBOUR: 'it returns false'. Refute it at one input. -/
def joinSubsetWrong : ChangeSpec := { name := "joinSubset", fn := fun _ => fun
  | [d1, d2] => { results := [.lit (.bool false)], args := [d1, d2] }
  | _ => none }
def JoinSubsetWrongFalsely : Prop := joinSubsetRow.holds Try.pinned (OpenSpec.ofChange joinSubsetWrong)

/-- 'kenninglaw08.JoinAdds': WHATEVER THE INPUT: true; the input reads as it did. -/
def joinAddsSpec : ChangeSpec := { name := "joinAdds", fn := fun _ => fun
  | [d1, d2] => { results := [.lit (.bool true)], args := [d1, d2] }
  | _ => none }
def joinAddsRow : OpenClaim := { program := "ytnlbohaealkelaa", sum := "3398595dde354608af8c03168396717055bf600861c7dc46440ac13b9ffc6fcc", func := "kenning/kenninglaw08.JoinAdds", spec := "joinAdds", unfollowed := true, recurses := true, apart := false }
def JoinAddsSaid : Prop := joinAddsRow.holds Try.pinned (OpenSpec.ofChange joinAddsSpec)

/-- ITS FALSE NEIGHBOUR: 'it returns false'. Refute it at one input. -/
def joinAddsWrong : ChangeSpec := { name := "joinAdds", fn := fun _ => fun
  | [d1, d2] => { results := [.lit (.bool false)], args := [d1, d2] }
  | _ => none }
def JoinAddsWrongFalsely : Prop := joinAddsRow.holds Try.pinned (OpenSpec.ofChange joinAddsWrong)

/-- 'kenninglaw08.JoinNext': WHATEVER THE INPUT: true; the input reads as it did. -/
def joinNextSpec : ChangeSpec := { name := "joinNext", fn := fun _ => fun
  | [d] => { results := [.lit (.bool true)], args := [d] }
  | _ => none }
def joinNextRow : OpenClaim := { program := "ytnlbohaealkelaa", sum := "3398595dde354608af8c03168396717055bf600861c7dc46440ac13b9ffc6fcc", func := "kenning/kenninglaw08.JoinNext", spec := "joinNext", unfollowed := true, recurses := true, apart := false }
def JoinNextSaid : Prop := joinNextRow.holds Try.pinned (OpenSpec.ofChange joinNextSpec)

/-- ITS FALSE NEIGHBOUR: 'it returns false'. Refute it at one input. -/
def joinNextWrong : ChangeSpec := { name := "joinNext", fn := fun _ => fun
  | [d] => { results := [.lit (.bool false)], args := [d] }
  | _ => none }
def JoinNextWrongFalsely : Prop := joinNextRow.holds Try.pinned (OpenSpec.ofChange joinNextWrong)

/-- 'kenninglaw08.JoinAlgebra': WHATEVER THE INPUT: true; the input reads as it did. -/
def joinAlgebraSpec : ChangeSpec := { name := "joinAlgebra", fn := fun _ => fun
  | [d1, d2, d3] => { results := [.lit (.bool true)], args := [d1, d2, d3] }
  | _ => none }
def joinAlgebraRow : OpenClaim := { program := "ytnlbohaealkelaa", sum := "3398595dde354608af8c03168396717055bf600861c7dc46440ac13b9ffc6fcc", func := "kenning/kenninglaw08.JoinAlgebra", spec := "joinAlgebra", unfollowed := true, recurses := true, apart := false }
def JoinAlgebraSaid : Prop := joinAlgebraRow.holds Try.pinned (OpenSpec.ofChange joinAlgebraSpec)

/-- ITS FALSE NEIGHBOUR: 'it returns false'. Refute it at one input. -/
def joinAlgebraWrong : ChangeSpec := { name := "joinAlgebra", fn := fun _ => fun
  | [d1, d2, d3] => { results := [.lit (.bool false)], args := [d1, d2, d3] }
  | _ => none }
def JoinAlgebraWrongFalsely : Prop := joinAlgebraRow.holds Try.pinned (OpenSpec.ofChange joinAlgebraWrong)

/- THE SECOND FORM. 'bulk': how many values and letters a reading holds, each counted each time it is reached (what is shared counts as often as it is met; a slice's spare places count too). A statement '..UptoSaid' is the law's where the arguments, and the package variables that the reading takes, are together of bulk at most 1048576: NARROWER than '..Said'. Prove '..Said' where nothing that the law and all that it calls make is longer than what came in: it says more and counts as full. Else prove '..UptoSaid'. A law counts once. -/
mutual
def uptoBulk {H : Type} : DataW H → Nat
  | .lit (.string bytes) => bytes.length + 1
  | .lit _ => 1
  | .nil => 1
  | .ptr d => uptoBulk d + 1
  | .slice elems spare => uptoBulkAll elems + uptoBulkAll spare + 1
  | .agg parts => uptoBulkAll parts + 1
  | .iface _ d => uptoBulk d + 1
  | .map entries => uptoBulkEntries entries + 1
  | .held _ => 1
def uptoBulkAll {H : Type} : List (DataW H) → Nat
  | [] => 0
  | d :: r => uptoBulk d + uptoBulkAll r
def uptoBulkEntries {H : Type} : List (Lit × DataW H) → Nat
  | [] => 0
  | x :: r => uptoBulkEntry x + uptoBulkEntries r
def uptoBulkEntry {H : Type} : Lit × DataW H → Nat
  | (.string bytes, d) => bytes.length + uptoBulk d + 1
  | (_, d) => uptoBulk d + 1
 end
def uptoSmall : (H : Type) → List (DataW H) → Bool := fun _ ds => decide (uptoBulkAll ds ≤ 1048576)
def OpenSpec.upto (s : _root_.Go.ChangeSpec) : _root_.Go.OpenSpec := { _root_.Go.OpenSpec.ofChange s with cond := some uptoSmall }

/-- 'kenninglaw08.JoinMatches', WHERE WHAT IT READS IS OF BULK AT MOST 1048576: true; the input reads as it did. -/
def joinMatchesUptoRow : OpenClaim := { program := "ytnlbohaealkelaa", sum := "3398595dde354608af8c03168396717055bf600861c7dc46440ac13b9ffc6fcc", func := "kenning/kenninglaw08.JoinMatches", spec := "joinMatches", unfollowed := true, recurses := true, apart := false, narrowed := true }
def JoinMatchesUptoSaid : Prop := joinMatchesUptoRow.holds Try.pinned (OpenSpec.upto joinMatchesSpec)

/-- 'kenninglaw08.JoinSubset', WHERE WHAT IT READS IS OF BULK AT MOST 1048576: true; the input reads as it did. -/
def joinSubsetUptoRow : OpenClaim := { program := "ytnlbohaealkelaa", sum := "3398595dde354608af8c03168396717055bf600861c7dc46440ac13b9ffc6fcc", func := "kenning/kenninglaw08.JoinSubset", spec := "joinSubset", unfollowed := true, recurses := true, apart := false, narrowed := true }
def JoinSubsetUptoSaid : Prop := joinSubsetUptoRow.holds Try.pinned (OpenSpec.upto joinSubsetSpec)

/-- 'kenninglaw08.JoinAdds', WHERE WHAT IT READS IS OF BULK AT MOST 1048576: true; the input reads as it did. -/
def joinAddsUptoRow : OpenClaim := { program := "ytnlbohaealkelaa", sum := "3398595dde354608af8c03168396717055bf600861c7dc46440ac13b9ffc6fcc", func := "kenning/kenninglaw08.JoinAdds", spec := "joinAdds", unfollowed := true, recurses := true, apart := false, narrowed := true }
def JoinAddsUptoSaid : Prop := joinAddsUptoRow.holds Try.pinned (OpenSpec.upto joinAddsSpec)

/-- 'kenninglaw08.JoinNext', WHERE WHAT IT READS IS OF BULK AT MOST 1048576: true; the input reads as it did. -/
def joinNextUptoRow : OpenClaim := { program := "ytnlbohaealkelaa", sum := "3398595dde354608af8c03168396717055bf600861c7dc46440ac13b9ffc6fcc", func := "kenning/kenninglaw08.JoinNext", spec := "joinNext", unfollowed := true, recurses := true, apart := false, narrowed := true }
def JoinNextUptoSaid : Prop := joinNextUptoRow.holds Try.pinned (OpenSpec.upto joinNextSpec)

/-- 'kenninglaw08.JoinAlgebra', WHERE WHAT IT READS IS OF BULK AT MOST 1048576: true; the input reads as it did. -/
def joinAlgebraUptoRow : OpenClaim := { program := "ytnlbohaealkelaa", sum := "3398595dde354608af8c03168396717055bf600861c7dc46440ac13b9ffc6fcc", func := "kenning/kenninglaw08.JoinAlgebra", spec := "joinAlgebra", unfollowed := true, recurses := true, apart := false, narrowed := true }
def JoinAlgebraUptoSaid : Prop := joinAlgebraUptoRow.holds Try.pinned (OpenSpec.upto joinAlgebraSpec)

end Rows
end Go.Proofs.Ytnlbohaealkelaa
