/- errors.As, first, Code and At of package fault, for nil and for errors that are a code or a fault. Condition: the variable errors.errorType holds the type error. -/
import Derived.Test.YtcajknjhkabhjaaGreatDoorKLaw
namespace Go.Proofs.YtcajknjhkabhjaaGreatDoor
open Go.RowKit Go.Extern.Stop Go.Stop Go.Extern
def errV : Option (Int × Option Int) → Value
 | none => .nilIface
 | some (c, o) => baseV c o
def codeE : Option (Int × Option Int) → Int
 | none => 0
 | some (c, _) => c
def atE : Option (Int × Option Int) → Option Int
 | none => none
 | some (_, o) => o
end Go.Proofs.YtcajknjhkabhjaaGreatDoor
