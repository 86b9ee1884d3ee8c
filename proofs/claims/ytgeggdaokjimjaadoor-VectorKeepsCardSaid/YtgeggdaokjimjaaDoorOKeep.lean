/- The law SetopsKeep in every state, out of what package setops says. Conditions: the contracts of package setops. -/
import Derived.Test.YtgeggdaokjimjaaDoorORef
import Derived.Test.YtgeggdaokjimjaaDoorRIv
import Derived.Deep.RegionHeld3
import Derived.Laws.OwnMore
namespace Go.Proofs.YtgeggdaokjimjaaDoor
open Go.RowKit
/-- A nil slice has no room. -/
def saneV (v : Value) : Prop := ∀ n c, v = .slice none n c → n = 0 ∧ c = 0
end Go.Proofs.YtgeggdaokjimjaaDoor
