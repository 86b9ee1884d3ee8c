/- The changes of two lists merged, and the pieces between them: plain mathematics. No conditions. -/
import Derived.Test.YtgeggdaokjimjaaDoorOAlg
namespace Go.Proofs.YtgeggdaokjimjaaDoor
/-- A change: the number, and the membership from there on. -/
abbrev Ch := Int × Bool × Bool
/-- The pieces that are taken. -/
def pc (U : Int) (f : Bool → Bool → Bool) : List Ch → Int → Bool → List Iv
  | [], s, t => if t then [(s, U)] else []
  | x :: r, s, t => if f x.2.1 x.2.2 = t then pc U f r s t else if t then (s, x.1 - 1) :: pc U f r x.1 false else pc U f r x.1 true
end Go.Proofs.YtgeggdaokjimjaaDoor
