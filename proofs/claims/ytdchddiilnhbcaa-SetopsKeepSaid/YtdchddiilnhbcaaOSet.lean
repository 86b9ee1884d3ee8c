/- What the laws of layer 5 ask of package setops, and their example out of it. No conditions of its own. -/
import Derived.Test.YtdchddiilnhbcaaORight
import Derived.Test.YtdchddiilnhbcaaRIv
namespace Go.Proofs.Ytdchddiilnhbcaa
open Go.RowKit
/-- The contracts of package setops. -/
structure SetC : Prop where
  uni : ∀ (a b : List Iv) (s t : Value) (w : World), OpAt w s a → OpAt w t b → Calls Try.prog 11 #[s, t] w (IsOwnR (orL a b) w)
  meet : ∀ (a b : List Iv) (s t : Value) (w : World), OpAt w s a → OpAt w t b → Calls Try.prog 13 #[s, t] w (IsOwnR (andL a b) w)
  sub : ∀ (a b : List Iv) (s t : Value) (w : World), OpAt w s a → OpAt w t b → Calls Try.prog 15 #[s, t] w (IsOwnR (subL a b) w)
  not : ∀ (a : List Iv) (s : Value) (x y : Int) (w : World), OpAt w s a → GoodL [(x, y)] → Calls Try.prog 18 #[s, .agg #[.int .u64 x, .int .u64 y]] w (IsOwnR (subL [(x, y)] a) w)
  subset : ∀ (a b : List Iv) (s t : Value) (w : World), OpAt w s a → OpAt w t b → Calls Try.prog 20 #[s, t] w (IsEnd (decide (subL a b = [])) w)
  disj : ∀ (a b : List Iv) (s t : Value) (w : World), OpAt w s a → OpAt w t b → Calls Try.prog 21 #[s, t] w (IsEnd (decide (andL a b = [])) w)
/-- A call that hands back a list that can be worked on. -/
def IsOp (L : List Iv) (w : World) (e : Ending) (w' : World) : Prop := ∃ v, e = .returned v ∧ OpAt w' v L ∧ Below w.heap.size w w'
theorem op_of {L : List Iv} {w : World} {e : Ending} {w' : World} (h : IsOwnR L w e w') (hg : GoodL L) (hl : L.length ≤ 20000) : IsOp L w e w' := by
  obtain ⟨v, h1, h2, h3⟩ := h
  exact ⟨v, h1, ⟨h2.ivs (by omega), hg, hl⟩, h3⟩
theorem orL_len (a b : List Iv) : (orL a b).length ≤ 1 + 2 * (a.length + b.length) := by
  have h1 := op_len fOr a b
  have h2 := starts_len UM (a ++ b)
  rw [List.length_append] at h2
  unfold orL
  omega
theorem andL_len (a b : List Iv) : (andL a b).length ≤ 1 + 2 * (a.length + b.length) := by
  have h1 := op_len fAnd a b
  have h2 := starts_len UM (a ++ b)
  rw [List.length_append] at h2
  unfold andL
  omega
theorem subL_len (a b : List Iv) : (subL a b).length ≤ 1 + 2 * (a.length + b.length) := by
  have h1 := op_len fSub a b
  have h2 := starts_len UM (a ++ b)
  rw [List.length_append] at h2
  unfold subL
  omega
section
variable {a b : List Iv} {s t : Value} {w : World}
theorem SetC.uni' (C : SetC) (ha : OpAt w s a) (hb : OpAt w t b) (hl : a.length + b.length ≤ 9000) : Calls Try.prog 11 #[s, t] w (IsOp (orL a b) w) :=
  (C.uni a b s t w ha hb).mono fun _ _ h => op_of h (orL_good ha.good hb.good) (by have := orL_len a b; omega)
theorem SetC.meet' (C : SetC) (ha : OpAt w s a) (hb : OpAt w t b) (hl : a.length + b.length ≤ 9000) : Calls Try.prog 13 #[s, t] w (IsOp (andL a b) w) :=
  (C.meet a b s t w ha hb).mono fun _ _ h => op_of h (andL_good ha.good hb.good) (by have := andL_len a b; omega)
theorem SetC.sub' (C : SetC) (ha : OpAt w s a) (hb : OpAt w t b) (hl : a.length + b.length ≤ 9000) : Calls Try.prog 15 #[s, t] w (IsOp (subL a b) w) :=
  (C.sub a b s t w ha hb).mono fun _ _ h => op_of h (subL_good ha.good hb.good) (by have := subL_len a b; omega)
theorem SetC.not' (C : SetC) {x y : Int} (ha : OpAt w s a) (hw : GoodL [(x, y)]) (hl : a.length ≤ 8999) : Calls Try.prog 18 #[s, .agg #[.int .u64 x, .int .u64 y]] w (IsOp (subL [(x, y)] a) w) :=
  (C.not a s x y w ha hw).mono fun _ _ h => op_of h (subL_good hw ha.good) (by have := subL_len [(x, y)] a; simp at this; omega)
theorem refUnion' (ha : OpAt w s a) (hb : OpAt w t b) (hl : a.length + b.length ≤ 9000) : Calls Try.prog 12 #[s, t] w (IsOp (orL a b) w) :=
  (refUnion_any a b s t w ha hb).mono fun _ _ h => op_of h (orL_good ha.good hb.good) (by have := orL_len a b; omega)
theorem refMeet' (ha : OpAt w s a) (hb : OpAt w t b) (hl : a.length + b.length ≤ 9000) : Calls Try.prog 14 #[s, t] w (IsOp (andL a b) w) :=
  (refMeet_any a b s t w ha hb).mono fun _ _ h => op_of h (andL_good ha.good hb.good) (by have := andL_len a b; omega)
theorem refMinus' (ha : OpAt w s a) (hb : OpAt w t b) (hl : a.length + b.length ≤ 9000) : Calls Try.prog 16 #[s, t] w (IsOp (subL a b) w) :=
  (refMinus_any a b s t w ha hb).mono fun _ _ h => op_of h (subL_good ha.good hb.good) (by have := subL_len a b; omega)
theorem refNot' {x y : Int} (ha : OpAt w s a) (hw : GoodL [(x, y)]) (hl : a.length ≤ 8999) : Calls Try.prog 19 #[s, .agg #[.int .u64 x, .int .u64 y]] w (IsOp (subL [(x, y)] a) w) :=
  (refNot_any a s x y w ha hw).mono fun _ _ h => op_of h (subL_good hw ha.good) (by have := subL_len [(x, y)] a; simp at this; omega)
/-- Same of two equal lists. -/
theorem same_yes (ha : OpAt w s a) (hb : OpAt w t b) (he : a = b) : Calls Try.prog 10 #[s, t] w (IsEnd true w) := by
  have h := refSame_any a b s t w ha.at' hb.at'
  rw [decide_eq_true he] at h
  exact h
theorem subset_is (C : SetC) (ha : OpAt w s a) (hb : OpAt w t b) {r : Bool} (hr : decide (subL a b = []) = r) : Calls Try.prog 20 #[s, t] w (IsEnd r w) := hr ▸ C.subset a b s t w ha hb
theorem disj_is (C : SetC) (ha : OpAt w s a) (hb : OpAt w t b) {r : Bool} (hr : decide (andL a b = []) = r) : Calls Try.prog 21 #[s, t] w (IsEnd r w) := hr ▸ C.disj a b s t w ha hb
theorem refSubset_is (ha : OpAt w s a) (hb : OpAt w t b) {r : Bool} (hr : decide (subL a b = []) = r) : Calls Try.prog 22 #[s, t] w (IsEnd r w) := hr ▸ refSubset_any a b s t w ha hb
end
/-- Lists that lie in memory, kept across calls. -/
def Env (w : World) (xs : List (Value × List Iv)) : Prop := ∀ p ∈ xs, OpAt w p.1 p.2
theorem Env.call {w w' : World} {xs : List (Value × List Iv)} (h : Env w xs) (hb : Below w.heap.size w w') : Env w' xs := fun p hp => (h p hp).call hb
theorem Env.add {w : World} {xs : List (Value × List Iv)} {v : Value} {l : List Iv} (h : Env w xs) (hv : OpAt w v l) : Env w ((v, l) :: xs) := fun p hp => by
  rcases List.mem_cons.1 hp with rfl | hp
  · exact hv
  · exact h p hp
theorem Env.get {w : World} {xs : List (Value × List Iv)} (h : Env w xs) {v : Value} {l : List Iv} (hm : (v, l) ∈ xs) : OpAt w v l := h (v, l) hm
theorem ex_sub : subL [(0, 9)] [(2, 3), (9, 9)] = [(0, 1), (4, 8)] := by decide
theorem ex_or : orL [(2, 3), (9, 9)] [(0, 1), (4, 8)] = [(0, 9)] := by decide
theorem ex_and : andL [(2, 3), (9, 9)] [(0, 1), (4, 8)] = [] := by decide
theorem ex_sub2 : subL [(2, 3), (9, 9)] [(0, 1), (4, 8)] = [(2, 3), (9, 9)] := by decide
theorem ex_good1 : GoodL [(2, 3), (9, 9)] := good_of ((canon_iff _).1 (by decide)) (by intro x hx; simp at hx; rcases hx with rfl | rfl <;> exact ⟨⟨by decide, by decide⟩, by decide, by decide⟩)
theorem ex_good2 : GoodL [(0, 1), (4, 8)] := good_of ((canon_iff _).1 (by decide)) (by intro x hx; simp at hx; rcases hx with rfl | rfl <;> exact ⟨⟨by decide, by decide⟩, by decide, by decide⟩)
theorem ex_good3 : GoodL [(0, 9)] := good_one (by decide) (by decide) (by decide)
theorem two_new (w : World) (x y u z : Int) (t : TypeId) (k : Nat) (hk : k = w.heap.size) (h : GoodL [(x, y), (u, z)]) : OpAt (w.alloc (.cells #[.int .u64 x, .int .u64 y, .int .u64 u, .int .u64 z] t)) (.slice (some ⟨k, 0, none⟩) 2 2) [(x, y), (u, z)] := by
  subst hk
  exact ⟨⟨_, _, rfl, by simp, fun _ => ⟨w.heap.size, 0, rfl, fun i p hp => by
    match i, hp with
    | 0, hp => simp at hp; subst hp; simp
    | 1, hp => simp at hp; subst hp; simp
    | i + 2, hp => simp at hp⟩⟩, h, by simp⟩
end Go.Proofs.Ytdchddiilnhbcaa
