/- A region in a round that draws its order and leaves the world but for draws: one walk serves every order. Conditions: no operation defers. -/
import Derived.Test.YtnihmmhmndgagaaVApart
import Derived.Sort.QuietIn
namespace Go.Proofs.Ytnihmmhmndgagaa
def noDefer (o : Oper) : Bool := match o.op with | .defer _ => false | _ => true
theorem noDefer_of {o : Oper} (h : noDefer o = true) : ∀ c, o.op ≠ .defer c := by
  intro c e
  unfold noDefer at h
  rw [e] at h
  cases h
end Go.Proofs.Ytnihmmhmndgagaa
