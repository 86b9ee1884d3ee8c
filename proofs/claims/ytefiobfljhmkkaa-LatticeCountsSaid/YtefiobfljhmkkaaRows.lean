/-
  No cell of these rows narrows 'for every input' (looked for: loops, veiled, ifaces, maps, wideKeys, modest, calm, conditions, laid).
  DERIVED. THE GIVEN ROWS OF THIS SEAT. 4 by the template 'for every input the law returns true; each argument reads behind the call as it read before'; 0 by the template 'total and deterministic' (their statements: YtefiobfljhmkkaaTotals.lean).
  GIVEN WITH THE SEED: the statements are not yours to turn. If you find one false, say at which input.
  Laid BY PROGRAM, IN A SANDBOX (cutbox-rows.mjs): the forced cells as the released guide's own fill.sh prints them over the translation 3136aa0b7c43eb04… (all of the seat's roots in one cut). By AI agents, Wed Nov 11 2026. No macro, syntax, notation, axiom, sorry.
-/
import Derived.Test.YtefiobfljhmkkaaChecked
import GoSem.Claim
import GoSem.ClaimJoined
import GoSem.ClaimMapViews
import Derived.JoinedTies
import Derived.KernelRfl
namespace Go.Proofs.Ytefiobfljhmkkaa
/- THE CELL 'sum', in the pinned program and in every row, IS THE sha256 OF THE DUMP (.gsa) THAT YtefiobfljhmkkaaProg.lean LOADS. Nothing in Lean hashes anything: it is a label: what it is worth is what the hold of that sum in a sandbox is worth. -/
noncomputable def Try.pinned : Pinned := { name := "ytefiobfljhmkkaa", sum := "3136aa0b7c43eb04c67c9f4588103f0dda7c096d467d03efe870ada0ba057e4d", checked := Try.checked }
namespace Rows
def none {H : Type} : Left H := { results := [], args := [] }

/-- 'kenninglaw10.LatticeMatches': WHATEVER THE INPUT: true; the input reads as it did. -/
def latticeMatchesSpec : ChangeSpec := { name := "latticeMatches", fn := fun _ => fun
  | [d1, d2] => { results := [.lit (.bool true)], args := [d1, d2] }
  | _ => none }
def latticeMatchesRow : OpenClaim := { program := "ytefiobfljhmkkaa", sum := "3136aa0b7c43eb04c67c9f4588103f0dda7c096d467d03efe870ada0ba057e4d", func := "kenning/kenninglaw10.LatticeMatches", spec := "latticeMatches", inPlace := ["math/bits.Add64"], unfollowed := true, recurses := true, apart := false }
def LatticeMatchesSaid : Prop := latticeMatchesRow.holds Try.pinned (OpenSpec.ofChange latticeMatchesSpec)

/-- ITS FALSE NEIGHBOUR: 'it returns false'. Refute it at one input. -/
def latticeMatchesWrong : ChangeSpec := { name := "latticeMatches", fn := fun _ => fun
  | [d1, d2] => { results := [.lit (.bool false)], args := [d1, d2] }
  | _ => none }
def LatticeMatchesWrongFalsely : Prop := latticeMatchesRow.holds Try.pinned (OpenSpec.ofChange latticeMatchesWrong)

/-- 'kenninglaw10.LatticeSubset': WHATEVER THE INPUT: true; the input reads as it did. -/
def latticeSubsetSpec : ChangeSpec := { name := "latticeSubset", fn := fun _ => fun
  | [d1, d2] => { results := [.lit (.bool true)], args := [d1, d2] }
  | _ => none }
def latticeSubsetRow : OpenClaim := { program := "ytefiobfljhmkkaa", sum := "3136aa0b7c43eb04c67c9f4588103f0dda7c096d467d03efe870ada0ba057e4d", func := "kenning/kenninglaw10.LatticeSubset", spec := "latticeSubset", inPlace := ["math/bits.Add64"], unfollowed := true, recurses := true, apart := false }
def LatticeSubsetSaid : Prop := latticeSubsetRow.holds Try.pinned (OpenSpec.ofChange latticeSubsetSpec)

/-- ITS FALSE NEIGHBOUR: 'it returns false'. Refute it at one input. -/
def latticeSubsetWrong : ChangeSpec := { name := "latticeSubset", fn := fun _ => fun
  | [d1, d2] => { results := [.lit (.bool false)], args := [d1, d2] }
  | _ => none }
def LatticeSubsetWrongFalsely : Prop := latticeSubsetRow.holds Try.pinned (OpenSpec.ofChange latticeSubsetWrong)

/-- 'kenninglaw10.LatticeCounts': WHATEVER THE INPUT: true; the input reads as it did. -/
def latticeCountsSpec : ChangeSpec := { name := "latticeCounts", fn := fun _ => fun
  | [d1, d2] => { results := [.lit (.bool true)], args := [d1, d2] }
  | _ => none }
def latticeCountsRow : OpenClaim := { program := "ytefiobfljhmkkaa", sum := "3136aa0b7c43eb04c67c9f4588103f0dda7c096d467d03efe870ada0ba057e4d", func := "kenning/kenninglaw10.LatticeCounts", spec := "latticeCounts", inPlace := ["math/bits.Add64"], unfollowed := true, recurses := true, apart := false }
def LatticeCountsSaid : Prop := latticeCountsRow.holds Try.pinned (OpenSpec.ofChange latticeCountsSpec)

/-- ITS FALSE NEIGHBOUR: 'it returns false'. Refute it at one input. -/
def latticeCountsWrong : ChangeSpec := { name := "latticeCounts", fn := fun _ => fun
  | [d1, d2] => { results := [.lit (.bool false)], args := [d1, d2] }
  | _ => none }
def LatticeCountsWrongFalsely : Prop := latticeCountsRow.holds Try.pinned (OpenSpec.ofChange latticeCountsWrong)

/-- 'kenninglaw10.LatticeAlgebra': WHATEVER THE INPUT: true; the input reads as it did. -/
def latticeAlgebraSpec : ChangeSpec := { name := "latticeAlgebra", fn := fun _ => fun
  | [d1, d2, d3] => { results := [.lit (.bool true)], args := [d1, d2, d3] }
  | _ => none }
def latticeAlgebraRow : OpenClaim := { program := "ytefiobfljhmkkaa", sum := "3136aa0b7c43eb04c67c9f4588103f0dda7c096d467d03efe870ada0ba057e4d", func := "kenning/kenninglaw10.LatticeAlgebra", spec := "latticeAlgebra", inPlace := ["math/bits.Add64"], unfollowed := true, recurses := true, apart := false }
def LatticeAlgebraSaid : Prop := latticeAlgebraRow.holds Try.pinned (OpenSpec.ofChange latticeAlgebraSpec)

/-- ITS FALSE NEIGHBOUR: 'it returns false'. Refute it at one input. -/
def latticeAlgebraWrong : ChangeSpec := { name := "latticeAlgebra", fn := fun _ => fun
  | [d1, d2, d3] => { results := [.lit (.bool false)], args := [d1, d2, d3] }
  | _ => none }
def LatticeAlgebraWrongFalsely : Prop := latticeAlgebraRow.holds Try.pinned (OpenSpec.ofChange latticeAlgebraWrong)

/- THE SECOND FORM. 'bulk': how many values and letters a reading holds, each counted each time it is reached (what is shared counts as often as it is met; a slice's spare places count too). A statement '..UptoSaid' is the law's where the arguments, and the package variables that the reading takes, are together of bulk at most 1048576: NARROWER than '..Said'. Prove '..Said' where nothing that the law and all that it calls make is longer than what came in: it says more and counts as full. Else prove '..UptoSaid'. A law counts once. -/
mutual
def uptoBulk {H : Type} : DataW H → Nat
  | .lit (.string bytes) => bytes.length + 1
  | .lit _ => 1
  | .nil => 1
  | .ptr d => uptoBulk d + 1
  | .slice elems spare => uptoBulkAll elems + uptoBulkAll spare + 1
  | .agg parts => uptoBulkAll parts + 1
  | .iface _ d => uptoBulk d + 1
  | .map entries => uptoBulkEntries entries + 1
  | .held _ => 1
def uptoBulkAll {H : Type} : List (DataW H) → Nat
  | [] => 0
  | d :: r => uptoBulk d + uptoBulkAll r
def uptoBulkEntries {H : Type} : List (Lit × DataW H) → Nat
  | [] => 0
  | x :: r => uptoBulkEntry x + uptoBulkEntries r
def uptoBulkEntry {H : Type} : Lit × DataW H → Nat
  | (.string bytes, d) => bytes.length + uptoBulk d + 1
  | (_, d) => uptoBulk d + 1
 end
def uptoSmall : (H : Type) → List (DataW H) → Bool := fun _ ds => decide (uptoBulkAll ds ≤ 1048576)
def OpenSpec.upto (s : _root_.Go.ChangeSpec) : _root_.Go.OpenSpec := { _root_.Go.OpenSpec.ofChange s with cond := some uptoSmall }

/-- 'kenninglaw10.LatticeMatches', WHERE WHAT IT READS IS OF BULK AT MOST 1048576: true; the input reads as it did. -/
def latticeMatchesUptoRow : OpenClaim := { program := "ytefiobfljhmkkaa", sum := "3136aa0b7c43eb04c67c9f4588103f0dda7c096d467d03efe870ada0ba057e4d", func := "kenning/kenninglaw10.LatticeMatches", spec := "latticeMatches", inPlace := ["math/bits.Add64"], unfollowed := true, recurses := true, apart := false, narrowed := true }
def LatticeMatchesUptoSaid : Prop := latticeMatchesUptoRow.holds Try.pinned (OpenSpec.upto latticeMatchesSpec)

/-- 'kenninglaw10.LatticeSubset', WHERE WHAT IT READS IS OF BULK AT MOST 1048576: true; the input reads as it did. -/
def latticeSubsetUptoRow : OpenClaim := { program := "ytefiobfljhmkkaa", sum := "3136aa0b7c43eb04c67c9f4588103f0dda7c096d467d03efe870ada0ba057e4d", func := "kenning/kenninglaw10.LatticeSubset", spec := "latticeSubset", inPlace := ["math/bits.Add64"], unfollowed := true, recurses := true, apart := false, narrowed := true }
def LatticeSubsetUptoSaid : Prop := latticeSubsetUptoRow.holds Try.pinned (OpenSpec.upto latticeSubsetSpec)

/-- 'kenninglaw10.LatticeCounts', WHERE WHAT IT READS IS OF BULK AT MOST 1048576: true; the input reads as it did. -/
def latticeCountsUptoRow : OpenClaim := { program := "ytefiobfljhmkkaa", sum := "3136aa0b7c43eb04c67c9f4588103f0dda7c096d467d03efe870ada0ba057e4d", func := "kenning/kenninglaw10.LatticeCounts", spec := "latticeCounts", inPlace := ["math/bits.Add64"], unfollowed := true, recurses := true, apart := false, narrowed := true }
def LatticeCountsUptoSaid : Prop := latticeCountsUptoRow.holds Try.pinned (OpenSpec.upto latticeCountsSpec)

/-- 'kenninglaw10.LatticeAlgebra', WHERE WHAT IT READS IS OF BULK AT MOST 1048576: true; the input reads as it did. -/
def latticeAlgebraUptoRow : OpenClaim := { program := "ytefiobfljhmkkaa", sum := "3136aa0b7c43eb04c67c9f4588103f0dda7c096d467d03efe870ada0ba057e4d", func := "kenning/kenninglaw10.LatticeAlgebra", spec := "latticeAlgebra", inPlace := ["math/bits.Add64"], unfollowed := true, recurses := true, apart := false, narrowed := true }
def LatticeAlgebraUptoSaid : Prop := latticeAlgebraUptoRow.holds Try.pinned (OpenSpec.upto latticeAlgebraSpec)

end Rows
end Go.Proofs.Ytefiobfljhmkkaa
