/- Sets of numbers by operations, asked piece by piece: plain mathematics. No conditions. -/
import Derived.Test.YtnihmmhmndgagaaRMath
namespace Go.Proofs.Ytnihmmhmndgagaa
/-- Lists that an operation may take: each interval in order, from 0 to U. -/
def okL (U : Int) (l : List Iv) : Prop := ∀ y ∈ l, 0 ≤ y.1 ∧ y.1 ≤ y.2 ∧ y.2 ≤ U
theorem canon_okL {U : Int} {l : List Iv} (h : canon l) (hb : ∀ y ∈ l, 0 ≤ y.1 ∧ y.2 ≤ U) : okL U l := fun y hy => ⟨(hb y hy).1, canon_ok l h y hy, (hb y hy).2⟩
end Go.Proofs.Ytnihmmhmndgagaa
