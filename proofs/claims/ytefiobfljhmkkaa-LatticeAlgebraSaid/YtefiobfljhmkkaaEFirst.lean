/- errors.As, first, Code and At of package fault, for nil and for errors that are a code or a fault. Condition: the variable errors.errorType holds the type error. -/
import Derived.Test.YtefiobfljhmkkaaLaw
import Derived.LaidEql
import Derived.Stop.Asserts
import Derived.WalkSpells
import Derived.Deep.LoopGhost
import Derived.Deep.DeepFit
import Derived.Deep.DeepCutAuto
namespace Go.Proofs.Ytefiobfljhmkkaa
open Go.RowKit Go.Extern.Stop Go.Stop Go.Extern
def codeE : Option (Int × Option Int) → Int
  | none => 0
  | some (c, _) => c
def atE : Option (Int × Option Int) → Option Int
  | none => none
  | some (_, o) => o
end Go.Proofs.Ytefiobfljhmkkaa
