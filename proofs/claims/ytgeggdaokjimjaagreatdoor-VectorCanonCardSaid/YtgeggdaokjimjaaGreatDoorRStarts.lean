/- Starts of the reference, of one list: the numbers at which something may change, rising, each once. Conditions: the ends are numbers of 64 bits, at most 1048576 intervals. -/
import Derived.Test.YtgeggdaokjimjaaGreatDoorRPut
namespace Go.Proofs.YtgeggdaokjimjaaGreatDoor
open Go.RowKit
attribute [local go_sem ↓] Go.wp_at_zero Go.wp_at_succ
theorem max_same (w : World) : Calls Tryz.prog 84 #[] w fun e w' => e = .returned (.int .u64 18446744073709551615) ∧ w' = w := (max_any w).mono fun _ _ h => ⟨h.1, h.2.symm⟩
theorem step_own_none {P : Program} {ops : Array Oper} {o : Oper} {a : Act} {w : World} {K : Act → World → Prop} {Q : Exit → Act → World → Prop} {E : Prop} (hgd : o.guard = none) (s x : Operand) (t : TypeId)
    (ho : o.op = .call { callee := .builtin .append, args := #[s, x], argTypes := #[t, t] })
    (base : Nat) (e : TypeId) (i : TypeInfo) (size : Nat) (ht : P.underlying t = some (.slice e)) (hi : P.info? e = some i)
    (v : Value) (n : Nat) (xs : List Value) (hs : a.eval s = v) (hown : w.ownsRow base e size v n xs) (hx : a.eval x = .slice none 0 0)
    (h : K (a.put o.dst v) w) :
    if Region.wanted o (yielded ops a.tmps) = true then Oper.wp P o a w K Q else E := by
  rw [if_pos (by simp [Region.wanted, hgd])]
  have hr := run_append_owned_none (P := P) w base t o.type e i size ht hi v n xs hown
  unfold Oper.wp execOp
  simp only [ho, resolve, invoke, builtin, Sem.run_bind, Sem.run_pure, Result.andThen_ok, List.map_toArray, List.map_cons, List.map_nil, hs, hx, hr]
  exact h
theorem own_one (w : World) (x : Int) (B : Nat) (hB : B ≤ w.heap.size) : (w.alloc (.cells #[.int .u64 x] 24)).ownsRow B 24 1 (.slice (some ⟨w.heap.size, 0, none⟩) 1 1) 1 [.int .u64 x] :=
  World.ownsRow_lit w #[.int .u64 x] 1 hB (by decide) rfl
theorem keep1 {W w1 w2 : World} {a : Addr} {u : Value} (h : Below W.heap.size W w1 ∧ w1.cell? a = some u) (hb : Below w1.heap.size w1 w2) :
    Below W.heap.size W w2 ∧ w2.cell? a = some u := ⟨below_call h.1 hb, keep_cell h.2 hb⟩
theorem keepA {W w1 : World} {a : Addr} {u : Value} (h : ∀ w', Below W.heap.size W w' → w'.cell? a = some u) (hb : Below W.heap.size W w1) : Below W.heap.size W w1 ∧ w1.cell? a = some u := ⟨hb, h _ hb⟩
theorem nm_ins (S : List Int) (x : Int) (c : Nat) : (nmC S).take c ++ (Value.int .u64 x :: nmC (S.drop c)) = nmC (S.take c ++ x :: S.drop c) := by simp [nmC, List.map_take]
theorem nm_drop (S : List Int) (c j : Nat) {u : Value} (h : (nmC (S.drop c))[j]? = some u) : (nmC S)[c + j]? = some u := by
  unfold nmC at *
  rw [List.map_drop, List.getElem?_drop] at h
  exact h
def UU : Int := 18446744073709551615
def IsNums (L : List Int) (w : World) (e : Ending) (w' : World) : Prop := ∃ v, e = .returned v ∧ OwnN w' w.heap.size v L ∧ Below w.heap.size w w'
end Go.Proofs.YtgeggdaokjimjaaGreatDoor
