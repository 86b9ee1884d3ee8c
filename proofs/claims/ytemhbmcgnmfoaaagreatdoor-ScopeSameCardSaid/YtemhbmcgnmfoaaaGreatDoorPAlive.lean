/- The example of chapter 9, in every state. Conditions: the contracts of package vector, and the fixed value of errors.errorType. -/
import Derived.Test.YtemhbmcgnmfoaaaGreatDoorPMath
import Derived.Test.YtemhbmcgnmfoaaaGreatDoorNRef
namespace Go.Proofs.YtemhbmcgnmfoaaaGreatDoor
open Go.RowKit
theorem vec_nil9 (w : World) : VecS w (.slice none 0 0) [] :=
  ⟨⟨⟨[], ⟨none, 0, rfl, Nat.zero_le _, fun h => absurd rfl h⟩, rfl, fun i e x h => by simp at h⟩, Nat.zero_le _⟩, sane_nil, fun x hx => by cases hx⟩
theorem vec_one9 {w : World} {b : Nat} {r m : Int} {s : Value} {H : List Iv} (c0 : w.cell? ⟨b, 0, none⟩ = some (.int .u64 r)) (c1 : w.cell? ⟨b, 1, none⟩ = some (.int .u64 m)) (c2 : w.cell? ⟨b, 2, none⟩ = some s) (ha : AnyAt w s m H) (hr : 0 ≤ r ∧ r ≤ 18446744073709551615) : VecS w (.slice (some ⟨b, 0, none⟩) 1 1) [(r, m, H)] := by
  refine ⟨⟨⟨[(r, m, s)], ⟨_, _, rfl, (by show (1 : Nat) ≤ maxLen; decide), fun _ => ⟨b, 0, rfl, fun i e he => ?_⟩⟩, rfl, fun i e x he hx => ?_⟩, by simp⟩, sane_lit _ _ _ (Nat.le_refl _), fun x hx => by rw [List.mem_singleton.1 hx]; exact hr⟩
  · match i, he with
    | 0, he => simp at he; subst he; exact ⟨c0, c1, c2⟩
  · match i, he, hx with
    | 0, he, hx => simp at he hx; subst he; subst hx; exact ⟨rfl, rfl, ha⟩
def IsNil9 (w : World) (e : Ending) (w' : World) : Prop := e = .returned .nilIface ∧ Below w.heap.size w w'
end Go.Proofs.YtemhbmcgnmfoaaaGreatDoor

/- The laws of layer 9 in every state, out of what package vector says. Conditions: the contracts of package vector, and the fixed value of errors.errorType. -/
namespace Go.Proofs.YtemhbmcgnmfoaaaGreatDoor
open Go.RowKit
theorem HolesAt.call {lim : Nat} {w w' : World} {s : Value} (h : HolesAt lim w s) (hb : Below w.heap.size w w') : HolesAt lim w' s := by
  rcases h with h | ⟨l, h1, h2, h3⟩
  · exact .inl h
  · exact .inr ⟨l, h1, h2, h3.call hb⟩
theorem EntIn.call {lim : Nat} {w w' : World} {e : Int × Int × Value} (h : EntIn lim w e) (hb : Below w.heap.size w w') : EntIn lim w' e := ⟨h.1, h.2.1, h.2.2.1, h.2.2.2.call hb⟩
/-- A vector that came in. -/
def vecArg (w : World) (v : Value) : Prop := SaneE v ∧ ∃ es, VecAt w v es ∧ ∀ e ∈ es, EntIn 30 w e
/-- What Few says of a vector that came in, and what it is then. -/
theorem vecArg.few {w : World} {v : Value} (h : vecArg w v) : (∃ p n c, v = .slice p n c) ∧ ∃ b, (∀ W, Below w.heap.size w W → Calls Tryz.prog 33 #[v] W (IsEnd b W)) ∧ (b = true → ∃ V, VecS w v V ∧ V.length ≤ 20 ∧ ∀ x ∈ V, x.2.2.length ≤ 30) := by
  obtain ⟨hs, es, hv, hi⟩ := h
  refine ⟨?_, fewB es, fun W hb => few_any v es W (hv.call hb) (fun e he => (hi e he).call hb), fun hf => ?_⟩
  · obtain ⟨p, cap, e, _⟩ := hv; exact ⟨p, _, cap, e⟩
  · obtain ⟨V, h1, h2, h3⟩ := few_vec hv hi hf
    exact ⟨V, ⟨h1, hs, fun x hx => (h3 x hx).2⟩, h2, fun x hx => (h3 x hx).1⟩
theorem VecM.all64 {w : World} {v : Value} {V : List (Int × Int × List Iv)} (h : VecM w v V) : ∀ x ∈ V, All64 x.2.2 ∧ 0 ≤ x.2.1 ∧ x.2.1 ≤ UM := by
  intro x hx
  obtain ⟨i, hi⟩ := List.mem_iff_getElem?.1 hx
  obtain ⟨_, _, _, _, _, _, _, _, _, _, ha⟩ := h.elem (r := x.1) (m := x.2.1) (H := x.2.2) hi
  exact ⟨ha.all, ha.low, by unfold UM; exact ha.top⟩
theorem same9_self (V : List (Int × Int × List Iv)) (v v' : Value) (w : World) (h : VecI w v V) (h' : VecI w v' V) : Calls Tryz.prog 19 #[v, v'] w (IsEnd true w) := by
  have k := refSame9_any V V v v' w h h'
  rwa [show decide (V = V) = true from by simp] at k
end Go.Proofs.YtemhbmcgnmfoaaaGreatDoor
