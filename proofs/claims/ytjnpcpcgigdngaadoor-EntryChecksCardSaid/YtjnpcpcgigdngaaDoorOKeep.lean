/- The law SetopsKeep in every state, out of what package setops says. Conditions: the contracts of package setops. -/
import Derived.Test.YtjnpcpcgigdngaaDoorOSet
import Derived.Deep.RegionHeld3
import Derived.Laws.OwnMore
namespace Go.Proofs.YtjnpcpcgigdngaaDoor
open Go.RowKit
/-- A nil slice has no room. -/
def saneV (v : Value) : Prop := ∀ n c, v = .slice none n c → n = 0 ∧ c = 0
section
variable {ops : Array Oper} {rest : List Oper} {o : Oper} {a : Act} {Q : Exit → Act → World → Prop}
/-- A list appended to an empty one of the call's own: a copy of the call's own. -/
theorem append_copy (hgd : o.guard = none) (s x : Operand) (w0 w : World) (hB : Below w0.heap.size w0 w) (v0 v : Value) (l : List Iv)
    (ho : o.op = .call { callee := .builtin .append, args := #[s, x], argTypes := #[24, 24] })
    (hs : a.eval s = v0) (hx : a.eval x = v) (hown : w.ownsRow w0.heap.size 48 2 v0 0 []) (hv : IvsAt w v l) (hsv : saneV v) (hl : l.length ≤ 60)
    (h : ∀ v' w', OwnL w' w0.heap.size v' l → Below w0.heap.size w0 w' → wpList Tryd.prog ops Q rest (a.put o.dst v') w') : wpList Tryd.prog ops Q (o :: rest) a w := by
  obtain ⟨i0, hi', hz0, hz1, hz2⟩ := info_parts infoIv
  obtain ⟨p, cap, rfl, _⟩ := hv.shape
  cases p with
  | none =>
    obtain ⟨h1, h2⟩ := hsv _ _ rfl
    obtain rfl : l = [] := List.eq_nil_of_length_eq_zero h1
    subst h2
    refine wpList_plain hgd fun _ hK => ?_
    have hr := run_append_owned_none (P := Tryd.prog) w w0.heap.size 24 o.type 48 i0 2 Tryd.underlying24 hi' v0 0 [] hown
    unfold Oper.wp execOp
    simp only [ho, resolve, invoke, builtin, Sem.run_bind, Sem.run_pure, Result.andThen_ok, List.map_toArray, List.map_cons, List.map_nil, hs, hx, List.length_nil, hr]
    exact hK _ _ (h v0 w hown hB)
  | some ad =>
    have hnews : ∀ j u, (ivC l)[j]? = some u → w.cell? (ad.add j) = some u := by
      intro j u hj
      have hne : l ≠ [] := by rintro rfl; simp [ivC] at hj
      obtain ⟨q, cp, e, _, h3⟩ := hv
      obtain ⟨b, of, e2, _⟩ := h3 hne
      cases e
      cases e2
      exact ivs_cells (cap := cap) (n := l.length) ⟨_, _, rfl, by omega, h3⟩ j u hj
    refine wpList_append_own _ hgd s x 24 ho w0.heap.size 48 i0 (.agg #[.int .u64 0, .int .u64 0]) 2 16 Tryd.underlying24 hi' hz0 hz1 hz2 rfl (by decide) v0 0 [] hs hown ad l.length cap (ivC l) hx (ivC_len l) hnews (ivC_one l) (by unfold maxLen; omega) (by omega) hB.size ?_
    intro v' w' hown' hgrow _
    refine h v' w' ?_ (own_grown hB hown hgrow hB.size)
    unfold OwnL
    rw [Nat.zero_add, List.nil_append] at hown'
    exact hown'
end
end Go.Proofs.YtjnpcpcgigdngaaDoor
