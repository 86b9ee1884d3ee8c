/- The law EntryKeeps in every state, out of what package entry says. Conditions: the contracts of package entry, and the fixed value of errors.errorType. -/
import Derived.Test.YtefiobfljhmkkaaNRef
import Derived.Test.YtefiobfljhmkkaaRStarts
namespace Go.Proofs.Ytefiobfljhmkkaa
open Go.RowKit
section
variable {ops : Array Oper} {rest : List Oper} {o : Oper} {a : Act} {Q : Exit → Act → World → Prop}
/-- append_copy for longer lists. -/
theorem append_copyE (hgd : o.guard = none) (s x : Operand) (w0 w : World) (hB : Below w0.heap.size w0 w) (v0 v : Value) (l : List Iv)
    (ho : o.op = .call { callee := .builtin .append, args := #[s, x], argTypes := #[41, 41] })
    (hs : a.eval s = v0) (hx : a.eval x = v) (hown : w.ownsRow w0.heap.size 70 2 v0 0 []) (hv : IvsAt w v l) (hsv : saneV v) (hl : l.length ≤ 10000)
    (h : ∀ v' w', OwnL w' w0.heap.size v' l → Below w0.heap.size w0 w' → wpList Try.prog ops Q rest (a.put o.dst v') w') : wpList Try.prog ops Q (o :: rest) a w := by
  obtain ⟨i0, hi', hz0, hz1, hz2⟩ := info_parts infoIv
  obtain ⟨p, cap, rfl, _⟩ := hv.shape
  cases p with
  | none =>
    obtain ⟨h1, h2⟩ := hsv _ _ rfl
    obtain rfl : l = [] := List.eq_nil_of_length_eq_zero h1
    subst h2
    refine wpList_plain hgd fun _ hK => ?_
    have hr := run_append_owned_none (P := Try.prog) w w0.heap.size 41 o.type 70 i0 2 Try.underlying41 hi' v0 0 [] hown
    unfold Oper.wp execOp
    simp only [ho, resolve, invoke, builtin, Sem.run_bind, Sem.run_pure, Result.andThen_ok, List.map_toArray, List.map_cons, List.map_nil, hs, hx, List.length_nil, hr]
    exact hK _ _ (h v0 w hown hB)
  | some ad =>
    have hnews : ∀ j u, (ivC l)[j]? = some u → w.cell? (ad.add j) = some u := by
      intro j u hj
      have hne : l ≠ [] := by rintro rfl; simp [ivC] at hj
      obtain ⟨q, cp, e, _, h3⟩ := hv
      obtain ⟨b, of, e2, _⟩ := h3 hne
      cases e
      cases e2
      exact ivs_cells (cap := cap) (n := l.length) ⟨_, _, rfl, by omega, h3⟩ j u hj
    refine wpList_append_own _ hgd s x 41 ho w0.heap.size 70 i0 (.agg #[.int .u64 0, .int .u64 0]) 2 16 Try.underlying41 hi' hz0 hz1 hz2 rfl (by decide) v0 0 [] hs hown ad l.length cap (ivC l) hx (ivC_len l) hnews (ivC_one l) (by unfold maxLen; omega) (by omega) hB.size ?_
    intro v' w' hown' hgrow _
    refine h v' w' ?_ (own_grown hB hown hgrow hB.size)
    unfold OwnL
    rw [Nat.zero_add, List.nil_append] at hown'
    exact hown'
end
theorem sane_row {W : World} {B : Nat} {v : Value} {L : List Iv} (h : OwnL W B v L) : SaneE v := by
  have hrow : W.ownsRow B 70 2 v L.length (ivC L) := h
  rcases hrow.2 with ⟨h1, _⟩ | ⟨g, cap, cur, h1, _, _, hnc, _⟩
  · refine ⟨fun n c e => ?_, fun a n c e => ?_⟩
    · rw [e] at h1; cases h1; exact ⟨rfl, rfl⟩
    · rw [e] at h1; cases h1
  · refine ⟨fun n c e => ?_, fun a n c e => ?_⟩
    · rw [e] at h1; cases h1
    · rw [e] at h1; cases h1; exact hnc
end Go.Proofs.Ytefiobfljhmkkaa
