/-
  No cell of these rows narrows 'for every input' (looked for: loops, veiled, ifaces, maps, wideKeys, modest, calm, conditions, laid).
  DERIVED. THE GIVEN ROWS OF THIS SEAT. 5 by the template 'for every input the law returns true; each argument reads behind the call as it read before'; 0 by the template 'total and deterministic' (their statements: YtdchddiilnhbcaaTotals.lean).
  GIVEN WITH THE SEED: the statements are not yours to turn. If you find one false, say at which input.
  Laid BY PROGRAM, IN A SANDBOX (cutbox-rows.mjs): the forced cells as the released guide's own fill.sh prints them over the translation 4cdb1235820fa55d… (all of the seat's roots in one cut). By AI agents, Wed Nov 11 2026. No macro, syntax, notation, axiom, sorry.
-/
import Derived.Test.YtdchddiilnhbcaaChecked
import GoSem.Claim
import GoSem.ClaimJoined
import GoSem.ClaimMapViews
import Derived.JoinedTies
import Derived.KernelRfl
namespace Go.Proofs.Ytdchddiilnhbcaa
/- THE CELL 'sum', in the pinned program and in every row, IS THE sha256 OF THE DUMP (.gsa) THAT YtdchddiilnhbcaaProg.lean LOADS. Nothing in Lean hashes anything: it is a label: what it is worth is what the hold of that sum in a sandbox is worth. -/
noncomputable def Try.pinned : Pinned := { name := "ytdchddiilnhbcaa", sum := "4cdb1235820fa55da0993fa359d80a78985583d8a4941e44ff7c74e0c20500fb", checked := Try.checked }
namespace Rows
def none {H : Type} : Left H := { results := [], args := [] }

/-- 'kenninglaw05.SetopsMatch': WHATEVER THE INPUT: true; the input reads as it did. -/
def setopsMatchSpec : ChangeSpec := { name := "setopsMatch", fn := fun _ => fun
  | [d1, d2] => { results := [.lit (.bool true)], args := [d1, d2] }
  | _ => none }
def setopsMatchRow : OpenClaim := { program := "ytdchddiilnhbcaa", sum := "4cdb1235820fa55da0993fa359d80a78985583d8a4941e44ff7c74e0c20500fb", func := "kenning/kenninglaw05.SetopsMatch", spec := "setopsMatch", unfollowed := true, recurses := true, apart := false }
def SetopsMatchSaid : Prop := setopsMatchRow.holds Try.pinned (OpenSpec.ofChange setopsMatchSpec)

/-- ITS FALSE NEIGHBOUR: 'it returns false'. Refute it at one input. -/
def setopsMatchWrong : ChangeSpec := { name := "setopsMatch", fn := fun _ => fun
  | [d1, d2] => { results := [.lit (.bool false)], args := [d1, d2] }
  | _ => none }
def SetopsMatchWrongFalsely : Prop := setopsMatchRow.holds Try.pinned (OpenSpec.ofChange setopsMatchWrong)

/-- 'kenninglaw05.SetopsNot': WHATEVER THE INPUT: true; the input reads as it did. -/
def setopsNotSpec : ChangeSpec := { name := "setopsNot", fn := fun _ => fun
  | [d1, d2] => { results := [.lit (.bool true)], args := [d1, d2] }
  | _ => none }
def setopsNotRow : OpenClaim := { program := "ytdchddiilnhbcaa", sum := "4cdb1235820fa55da0993fa359d80a78985583d8a4941e44ff7c74e0c20500fb", func := "kenning/kenninglaw05.SetopsNot", spec := "setopsNot", unfollowed := true, recurses := true, apart := false }
def SetopsNotSaid : Prop := setopsNotRow.holds Try.pinned (OpenSpec.ofChange setopsNotSpec)

/-- ITS FALSE NEIGHBOUR: 'it returns false'. Refute it at one input. -/
def setopsNotWrong : ChangeSpec := { name := "setopsNot", fn := fun _ => fun
  | [d1, d2] => { results := [.lit (.bool false)], args := [d1, d2] }
  | _ => none }
def SetopsNotWrongFalsely : Prop := setopsNotRow.holds Try.pinned (OpenSpec.ofChange setopsNotWrong)

/-- 'kenninglaw05.SetopsRelate': WHATEVER THE INPUT: true; the input reads as it did. -/
def setopsRelateSpec : ChangeSpec := { name := "setopsRelate", fn := fun _ => fun
  | [d1, d2] => { results := [.lit (.bool true)], args := [d1, d2] }
  | _ => none }
def setopsRelateRow : OpenClaim := { program := "ytdchddiilnhbcaa", sum := "4cdb1235820fa55da0993fa359d80a78985583d8a4941e44ff7c74e0c20500fb", func := "kenning/kenninglaw05.SetopsRelate", spec := "setopsRelate", unfollowed := true, recurses := true, apart := false }
def SetopsRelateSaid : Prop := setopsRelateRow.holds Try.pinned (OpenSpec.ofChange setopsRelateSpec)

/-- ITS FALSE NEIGHBOUR: 'it returns false'. Refute it at one input. -/
def setopsRelateWrong : ChangeSpec := { name := "setopsRelate", fn := fun _ => fun
  | [d1, d2] => { results := [.lit (.bool false)], args := [d1, d2] }
  | _ => none }
def SetopsRelateWrongFalsely : Prop := setopsRelateRow.holds Try.pinned (OpenSpec.ofChange setopsRelateWrong)

/-- 'kenninglaw05.SetopsAlgebra': WHATEVER THE INPUT: true; the input reads as it did. -/
def setopsAlgebraSpec : ChangeSpec := { name := "setopsAlgebra", fn := fun _ => fun
  | [d1, d2, d3] => { results := [.lit (.bool true)], args := [d1, d2, d3] }
  | _ => none }
def setopsAlgebraRow : OpenClaim := { program := "ytdchddiilnhbcaa", sum := "4cdb1235820fa55da0993fa359d80a78985583d8a4941e44ff7c74e0c20500fb", func := "kenning/kenninglaw05.SetopsAlgebra", spec := "setopsAlgebra", unfollowed := true, recurses := true, apart := false }
def SetopsAlgebraSaid : Prop := setopsAlgebraRow.holds Try.pinned (OpenSpec.ofChange setopsAlgebraSpec)

/-- ITS FALSE NEIGHBOUR: 'it returns false'. Refute it at one input. -/
def setopsAlgebraWrong : ChangeSpec := { name := "setopsAlgebra", fn := fun _ => fun
  | [d1, d2, d3] => { results := [.lit (.bool false)], args := [d1, d2, d3] }
  | _ => none }
def SetopsAlgebraWrongFalsely : Prop := setopsAlgebraRow.holds Try.pinned (OpenSpec.ofChange setopsAlgebraWrong)

/-- 'kenninglaw05.SetopsKeep': WHATEVER THE INPUT: true; the input reads as it did. -/
def setopsKeepSpec : ChangeSpec := { name := "setopsKeep", fn := fun _ => fun
  | [d1, d2] => { results := [.lit (.bool true)], args := [d1, d2] }
  | _ => none }
def setopsKeepRow : OpenClaim := { program := "ytdchddiilnhbcaa", sum := "4cdb1235820fa55da0993fa359d80a78985583d8a4941e44ff7c74e0c20500fb", func := "kenning/kenninglaw05.SetopsKeep", spec := "setopsKeep", unfollowed := true, recurses := true, apart := false }
def SetopsKeepSaid : Prop := setopsKeepRow.holds Try.pinned (OpenSpec.ofChange setopsKeepSpec)

/-- ITS FALSE NEIGHBOUR: 'it returns false'. Refute it at one input. -/
def setopsKeepWrong : ChangeSpec := { name := "setopsKeep", fn := fun _ => fun
  | [d1, d2] => { results := [.lit (.bool false)], args := [d1, d2] }
  | _ => none }
def SetopsKeepWrongFalsely : Prop := setopsKeepRow.holds Try.pinned (OpenSpec.ofChange setopsKeepWrong)

/- THE SECOND FORM. 'bulk': how many values and letters a reading holds, each counted each time it is reached (what is shared counts as often as it is met; a slice's spare places count too). A statement '..UptoSaid' is the law's where the arguments, and the package variables that the reading takes, are together of bulk at most 1048576: NARROWER than '..Said'. Prove '..Said' where nothing that the law and all that it calls make is longer than what came in: it says more and counts as full. Else prove '..UptoSaid'. A law counts once. -/
mutual
def uptoBulk {H : Type} : DataW H → Nat
  | .lit (.string bytes) => bytes.length + 1
  | .lit _ => 1
  | .nil => 1
  | .ptr d => uptoBulk d + 1
  | .slice elems spare => uptoBulkAll elems + uptoBulkAll spare + 1
  | .agg parts => uptoBulkAll parts + 1
  | .iface _ d => uptoBulk d + 1
  | .map entries => uptoBulkEntries entries + 1
  | .held _ => 1
def uptoBulkAll {H : Type} : List (DataW H) → Nat
  | [] => 0
  | d :: r => uptoBulk d + uptoBulkAll r
def uptoBulkEntries {H : Type} : List (Lit × DataW H) → Nat
  | [] => 0
  | x :: r => uptoBulkEntry x + uptoBulkEntries r
def uptoBulkEntry {H : Type} : Lit × DataW H → Nat
  | (.string bytes, d) => bytes.length + uptoBulk d + 1
  | (_, d) => uptoBulk d + 1
 end
def uptoSmall : (H : Type) → List (DataW H) → Bool := fun _ ds => decide (uptoBulkAll ds ≤ 1048576)
def OpenSpec.upto (s : _root_.Go.ChangeSpec) : _root_.Go.OpenSpec := { _root_.Go.OpenSpec.ofChange s with cond := some uptoSmall }

/-- 'kenninglaw05.SetopsMatch', WHERE WHAT IT READS IS OF BULK AT MOST 1048576: true; the input reads as it did. -/
def setopsMatchUptoRow : OpenClaim := { program := "ytdchddiilnhbcaa", sum := "4cdb1235820fa55da0993fa359d80a78985583d8a4941e44ff7c74e0c20500fb", func := "kenning/kenninglaw05.SetopsMatch", spec := "setopsMatch", unfollowed := true, recurses := true, apart := false, narrowed := true }
def SetopsMatchUptoSaid : Prop := setopsMatchUptoRow.holds Try.pinned (OpenSpec.upto setopsMatchSpec)

/-- 'kenninglaw05.SetopsNot', WHERE WHAT IT READS IS OF BULK AT MOST 1048576: true; the input reads as it did. -/
def setopsNotUptoRow : OpenClaim := { program := "ytdchddiilnhbcaa", sum := "4cdb1235820fa55da0993fa359d80a78985583d8a4941e44ff7c74e0c20500fb", func := "kenning/kenninglaw05.SetopsNot", spec := "setopsNot", unfollowed := true, recurses := true, apart := false, narrowed := true }
def SetopsNotUptoSaid : Prop := setopsNotUptoRow.holds Try.pinned (OpenSpec.upto setopsNotSpec)

/-- 'kenninglaw05.SetopsRelate', WHERE WHAT IT READS IS OF BULK AT MOST 1048576: true; the input reads as it did. -/
def setopsRelateUptoRow : OpenClaim := { program := "ytdchddiilnhbcaa", sum := "4cdb1235820fa55da0993fa359d80a78985583d8a4941e44ff7c74e0c20500fb", func := "kenning/kenninglaw05.SetopsRelate", spec := "setopsRelate", unfollowed := true, recurses := true, apart := false, narrowed := true }
def SetopsRelateUptoSaid : Prop := setopsRelateUptoRow.holds Try.pinned (OpenSpec.upto setopsRelateSpec)

/-- 'kenninglaw05.SetopsAlgebra', WHERE WHAT IT READS IS OF BULK AT MOST 1048576: true; the input reads as it did. -/
def setopsAlgebraUptoRow : OpenClaim := { program := "ytdchddiilnhbcaa", sum := "4cdb1235820fa55da0993fa359d80a78985583d8a4941e44ff7c74e0c20500fb", func := "kenning/kenninglaw05.SetopsAlgebra", spec := "setopsAlgebra", unfollowed := true, recurses := true, apart := false, narrowed := true }
def SetopsAlgebraUptoSaid : Prop := setopsAlgebraUptoRow.holds Try.pinned (OpenSpec.upto setopsAlgebraSpec)

/-- 'kenninglaw05.SetopsKeep', WHERE WHAT IT READS IS OF BULK AT MOST 1048576: true; the input reads as it did. -/
def setopsKeepUptoRow : OpenClaim := { program := "ytdchddiilnhbcaa", sum := "4cdb1235820fa55da0993fa359d80a78985583d8a4941e44ff7c74e0c20500fb", func := "kenning/kenninglaw05.SetopsKeep", spec := "setopsKeep", unfollowed := true, recurses := true, apart := false, narrowed := true }
def SetopsKeepUptoSaid : Prop := setopsKeepUptoRow.holds Try.pinned (OpenSpec.upto setopsKeepSpec)

end Rows
end Go.Proofs.Ytdchddiilnhbcaa
