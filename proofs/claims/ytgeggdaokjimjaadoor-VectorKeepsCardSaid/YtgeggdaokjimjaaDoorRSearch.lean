/- The library's sort.Search at this seat: its shelf's contract. No conditions. -/
import Derived.Shelf.SlGeneric
import Derived.Shelf.SlSorted.Search
import Derived.Ground.SlsoProg
import Derived.Test.YtgeggdaokjimjaaDoorProg
namespace Go.Proofs
open Go.Shelf
def Tryd.search_ren : Go.Shelf.Ren := ⟨fun | 16 => 57 | n => n, fun | 3 => 3 | 35 => 83 | 4 => 4 | 38 => 109 | n => n, fun | n => n⟩
theorem Tryd.search : Go.Proofs.SlLaysO.n16 Tryd.prog Tryd.search_ren := {
  mixed := by kernel_rfl
  f16 := Tryd.func57.trans (congrArg some (by kernel_rfl))
  t3 := Tryd.underlying3
  a3 := Tryd.isAgg3
  z3 := Tryd.sizeOf3
  v3 := Tryd.zeroValue3
  t4 := Tryd.underlying4
  a4 := Tryd.isAgg4
  z4 := Tryd.sizeOf4
  v4 := Tryd.zeroValue4
  t35 := Tryd.underlying83
  a35 := Tryd.isAgg83
  z35 := Tryd.sizeOf83
  v35 := Tryd.zeroValue83
  t38 := Tryd.underlying109
  a38 := Tryd.isAgg109
  z38 := Tryd.sizeOf109
  v38 := Tryd.zeroValue109 }
end Go.Proofs
