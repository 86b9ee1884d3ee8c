/- The library's sort.Search at this seat: its shelf's contract. No conditions. -/
import Derived.Shelf.SlGeneric
import Derived.Shelf.SlSorted.Search
import Derived.Ground.SlsoProg
import Derived.Test.YtgeggdaokjimjaaGreatDoorProg
namespace Go.Proofs
open Go.Shelf
def Tryz.search_ren : Go.Shelf.Ren := ⟨fun | 16 => 50 | n => n, fun | 3 => 3 | 35 => 84 | 4 => 4 | 38 => 95 | n => n, fun | n => n⟩
theorem Tryz.search : Go.Proofs.SlLaysO.n16 Tryz.prog Tryz.search_ren := {
  mixed := by kernel_rfl
  f16 := Tryz.func50.trans (congrArg some (by kernel_rfl))
  t3 := Tryz.underlying3
  a3 := Tryz.isAgg3
  z3 := Tryz.sizeOf3
  v3 := Tryz.zeroValue3
  t4 := Tryz.underlying4
  a4 := Tryz.isAgg4
  z4 := Tryz.sizeOf4
  v4 := Tryz.zeroValue4
  t35 := Tryz.underlying84
  a35 := Tryz.isAgg84
  z35 := Tryz.sizeOf84
  v35 := Tryz.zeroValue84
  t38 := Tryz.underlying95
  a38 := Tryz.isAgg95
  z38 := Tryz.sizeOf95
  v38 := Tryz.zeroValue95 }
end Go.Proofs
