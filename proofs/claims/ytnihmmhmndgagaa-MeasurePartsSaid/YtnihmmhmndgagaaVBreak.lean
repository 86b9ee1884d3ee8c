/- A loop over a function that stores into memory of its own, left by break; a region in a round that draws its order, out of a walk outside of rounds. No conditions. -/
import Derived.Test.YtnihmmhmndgagaaVApart
import Derived.Test.YtnihmmhmndgagaaVQuiet
import Derived.OrdersHeld
import Derived.Deep.RegionHeld
namespace Go.Proofs.Ytnihmmhmndgagaa
open Go.RowKit
/-- How a round's body may end: it goes on, or it leaves the loop. -/
def roundB {α : Type} (id : Nat) (B z : Nat) (keep : Nat → Prop) (I : List α → World → Prop) (Ix : World → Prop) (xs : List α) (W : World) : Exit → Act → World → Prop
  | .normal, _, W' => Apart (fun k => ¬ (keep k ∨ k = B ∨ k = B + 1 ∨ z ≤ k)) W W' ∧ I xs W'
  | .exit i, _, W' => i = id ∧ Apart (fun k => ¬ (keep k ∨ k = B ∨ k = B + 1 ∨ z ≤ k)) W W' ∧ Ix W'
  | _, _, _ => False
theorem range_b {id : Nat} {α : Type} {n : Nat} {P : Program} {g : Operand} {ps : Array Tmp} {assign body : Code} {Q : Exit → Act → World → Prop} {a : Act} {w : World} {gf : Nat} {lb : Array Value} {encs : α → Array Value} {L : List α} {own keep : Nat → Prop} {lo : Nat}
    (h1 : 1 ≤ n) (hg : a.eval g = .func (.func gf) #[] lb) (eg : ∀ args w, (callFunc gf args).run P w = .ok (.enter gf args) w) (hps : ∀ x, (encs x).size = ps.size)
    (hkeep : ∀ k, keep k → k ≠ w.heap.size ∧ k ≠ w.heap.size + 1) (hown : ∀ k, own k → w.heap.size + 2 ≤ k)
    (hit : ∀ W, W.heap.size = w.heap.size + 2 → Below w.heap.size w W → IterX (n - 1) P gf lb encs L own keep lo W)
    (I : List α → World → Prop) (Ix : World → Prop) (tk : Nat → Prop) (ht1 : tk (w.heap.size + 1)) (hto : ∀ k, own k → tk k)
    (hI : ∀ front A B, I front A → Apart tk A B → I front B) (hIx : ∀ A B, Ix A → Apart tk A B → Ix B) (h0 : I [] w) (Ax : Nat → α → Act → World → Prop)
    (hAx : ∀ z x a' A B, lo ≤ z → w.heap.size + 2 ≤ z → Ax z x a' A → Apart tk A B → Ax z x a' B)
    (hassign : ∀ (l : Nat) (front : List α) (x : α) (A0 W : World) (K : Act → World → Prop), I front A0 → Apart tk A0 W → lo ≤ A0.heap.size → w.heap.size + 2 ≤ A0.heap.size → (∀ a' W', Below W.heap.size W W' → Ax A0.heap.size x a' W' → K a' W') →
      assign.wpIn (Fence.wide.inRound l) (n - 1 - 1) P (Exit.then K (fun _ _ _ => False)) { tmps := (ps.zip (encs x)).foldl (fun t (p, v) => t.setIfInBounds p v) a.tmps, defers := [] } W)
    (hbody : ∀ (l : Nat) (front : List α) (x : α) (a' : Act) (A0 W : World), I front A0 → Apart tk A0 W → Ax A0.heap.size x a' W → front ++ [x] <+: L → lo ≤ A0.heap.size → w.heap.size + 2 ≤ A0.heap.size →
      body.wpIn (Fence.wide.inRound l) (n - 1 - 1) P (roundB id w.heap.size A0.heap.size keep I Ix (front ++ [x]) W) a' W)
    (hdone : ∀ (D : Nat) (W : World), D = w.heap.size → w.heap.size + 2 ≤ W.heap.size → I L W → W.heap[D]? = some (.deferred (some [])) → Q .normal { a with defers := { target := .collected D, args := #[] } :: a.defers } W)
    (hstop : ∀ (D : Nat) (W : World), D = w.heap.size → Ix W → W.heap[D]? = some (.deferred (some [])) → (Code.exit id).wpIn Fence.wide n P Q { a with defers := { target := .collected D, args := #[] } :: a.defers } W) :
    (Code.rangeFunc g ps assign body).wpIn Fence.wide n P Q a w := by
  refine wpIn_rangeFunc fun fn hfn => ?_
  rw [show Fence.wide.round = none from rfl]
  -- the loop's two blocks: D for deferred calls, D + 1 for its record
  obtain ⟨D, hD⟩ : ∃ D, w.heap.size = D := ⟨_, rfl⟩
  rw [hD] at hkeep hown ht1 hbody hassign hAx
  obtain ⟨rc, hrc⟩ : ∃ rc : LoopState → Option Code → Loop, rc = fun st pe => { state := st, pending := pe, fn, tmps := a.tmps, params := ps, assign, body, defers := D } := ⟨_, rfl⟩
  obtain ⟨W1, hW1⟩ : ∃ W1, (w.alloc (.deferred (some []))).alloc (.loop (rc .ready none)) = W1 := ⟨_, rfl⟩
  have hb1 : Below w.heap.size w W1 := hW1 ▸ ((Below.refl _ w).alloc (Nat.le_refl _) _).alloc (by simp) _
  have hs1 : W1.heap.size = w.heap.size + 2 := by rw [← hW1]; simp
  have hRec : W1.heap[D + 1]? = some (.loop (rc .ready none)) := by
    have h := World.alloc_heap_new (w.alloc (.deferred (some []))) (.loop (rc .ready none))
    rwa [World.size_alloc, hD, hW1] at h
  have hDef : W1.heap[D]? = some (.deferred (some [])) := by
    rw [← hW1, ← hD]; exact (Below.heap_alloc _ _ _ (by simp)).trans (World.alloc_heap_new w _)
  have hI1 : I [] W1 := hI _ _ _ h0 (.of_below _ hb1)
  have no0 : ¬ own D := fun h => by have := hown D h; omega
  have no1 : ¬ own (D + 1) := fun h => by have := hown (D + 1) h; omega
  refine ⟨D + 1, [{ target := .collected D, args := #[] }], W1, { target := .fn (.func gf) lb, args := #[.func (.yield (D + 1)) #[] #[]] }, W1, gf, #[.func (.yield (D + 1)) #[] #[]] ++ lb, W1, ?_, ?_, ?_, ?_, fun _ => h1, ?_⟩
  · rw [← hW1, hrc, ← hD]; exact run_enterLoop_outer _ _ _ _ _
  · simp only [resolve, hg]; simp [go_sem]
  · intro f' hf'; simp [Target.leads] at hf'; subst hf'; exact trivial
  · simp [invoke, go_sem, eg]
  · have hJ := hit W1 hs1 hb1 (D + 1)
      (fun front W => I front W ∧ W.heap[D + 1]? = some (.loop (rc .ready none)) ∧ W.heap[D]? = some (.deferred (some [])))
      (fun W => Ix W ∧ W.heap[D + 1]? = some (.loop (rc .done (some (.exit id)))) ∧ W.heap[D]? = some (.deferred (some [])))
      (fun front A B h k => ⟨hI _ _ _ h.1 (k.mono fun i _ => hto i), k.obj h.2.1 no1, k.obj h.2.2 no0⟩)
      (fun A B h k => ⟨hIx _ _ h.1 (k.mono fun i _ => hto i), k.obj h.2.1 no1, k.obj h.2.2 no0⟩)
    refine (hJ ?round ⟨hI1, hRec, hDef⟩).mono ?behind
    case round =>
      rintro front x A0 W0 ⟨hi, hl, hk⟩ hstep hx hlo
      have hlt0 : D + 1 < A0.heap.size := (Array.getElem?_eq_some_iff.1 hl).1
      replace hl := hstep.obj hl no1
      replace hk := hstep.obj hk no0
      have ktk : Apart tk A0 W0 := hstep.mono fun i _ => hto i
      have hy := run_yield (P := P) (args := encs x) hl (by rw [hrc]; exact hps x)
      rw [hrc] at hy
      refine YW.of (m := n - 1 - 1) ⟨fn, _, assign, body, hy, roundIn_of_wpIn hfn (hassign _ front x A0 W0 _ hi ktk hlo (by omega) ?_)⟩
      intro a' W hbW hax
      have k0 : ∀ q, Apart q W0 W := fun q => .of_below q hbW
      replace hl := (k0 own).obj hl no1
      replace hk := (k0 own).obj hk no0
      have hlt : D + 1 < W.heap.size := (Array.getElem?_eq_some_iff.1 hl).1
      refine ⟨_, run_beginRound hl (by rw [hrc]), ?_⟩
      obtain ⟨W2, hW2⟩ : ∃ W2, W.putObj (D + 1) (.loop { rc .ready none with state := .busy }) = W2 := ⟨_, rfl⟩
      have hl2 : W2.heap[D + 1]? = some (.loop { rc .ready none with state := .busy }) := hW2 ▸ World.putObj_heap_same hlt
      have hk2 : W2.heap[D]? = some (.deferred (some [])) := hW2 ▸ (World.putObj_heap_other (by omega)).trans hk
      have kp2 : Apart tk W W2 := hW2 ▸ Apart.put W _ ht1
      have nk : ¬ (keep (D + 1) ∨ A0.heap.size ≤ D + 1) := fun h => h.elim (fun h => (hkeep _ h).2 rfl) fun h => by omega
      have kk2 : Apart (fun k => ¬ (keep k ∨ A0.heap.size ≤ k)) W W2 := hW2 ▸ Apart.put W _ nk
      have hax2 := hAx _ _ _ _ _ hlo (by omega) hax kp2
      rw [hW2]
      have close : ∀ (jump : Option Code) (W3 : World), Apart (fun k => ¬ (keep k ∨ k = D ∨ k = D + 1 ∨ A0.heap.size ≤ k)) W2 W3 → ∃ W4, W4 = W3.putObj (D + 1) (.loop (rc (if jump.isNone then .ready else .done) jump)) ∧
          (Instr.endRound (D + 1) jump).run P W3 = .ok (.bool jump.isNone) W4 ∧ Apart tk W3 W4 ∧ Apart (fun k => ¬ (keep k ∨ A0.heap.size ≤ k)) W0 W4 ∧
          W4.heap[D + 1]? = some (.loop (rc (if jump.isNone then .ready else .done) jump)) ∧ W4.heap[D]? = some (.deferred (some [])) := by
        intro jump W3 h3
        have hl3 := h3.obj hl2 (fun h => h (.inr (.inr (.inl rfl))))
        have he := run_endRound (P := P) jump hl3
        rw [hrc] at he hl3 ⊢
        refine ⟨_, rfl, he, Apart.put _ _ ht1, ?_, World.putObj_heap_same (Array.getElem?_eq_some_iff.1 hl3).1, (World.putObj_heap_other (by omega)).trans (h3.obj hk2 (fun h => h (.inr (.inl rfl))))⟩
        exact (((k0 _).trans kk2).trans (h3.mono fun k _ h hn => h (hn.elim .inl fun h => .inr (.inr (.inr h))))).trans (Apart.put _ _ nk)
      refine wpIn_mono (hbody (D + 1) front x a' A0 W2 hi ((ktk.trans (k0 _)).trans kp2) hax2 hx hlo (by omega)) ?_
      intro e a3 W3 hp
      cases e with
      | normal =>
        obtain ⟨W4, e4, hr, kt, kk, hl4, hk4⟩ := close none W3 hp.1
        exact ⟨_, _, hr, kk, .inl ⟨rfl, hI _ _ _ hp.2 kt, hl4, hk4⟩⟩
      | exit i =>
        obtain ⟨rfl, hp⟩ := hp
        obtain ⟨W4, e4, hr, kt, kk, hl4, hk4⟩ := close (some (.exit i)) W3 hp.1
        exact ⟨_, _, hr, kk, .inr ⟨rfl, hIx _ _ hp.2 kt, hl4, hk4⟩⟩
      | ret => exact hp.elim
      | goto t => exact hp.elim
      | panic ch => exact hp.elim
      | outgrown => exact hp.elim
    case behind =>
      rintro e W2 ⟨⟨v, rfl⟩, (⟨hi, hl, hk⟩ | ⟨hi, hl, hk⟩)⟩
      · have he := run_endLoop (P := P) hl (by rw [hrc]; simp)
        rw [hrc] at he
        exact ⟨none, _, he, hdone D _ hD.symm (by have := (Array.getElem?_eq_some_iff.1 hl).1; simp; omega) (hI _ _ _ hi (Apart.put _ _ ht1)) ((World.putObj_heap_other (by omega)).trans hk)⟩
      · have he := run_endLoop (P := P) hl (by rw [hrc]; simp)
        rw [hrc] at he
        exact ⟨some (.exit id), _, he, hstop D _ hD.symm (hIx _ _ hi (Apart.put _ _ ht1)) ((World.putObj_heap_other (by omega)).trans hk)⟩
section
variable {n l : Nat} {P : Program} {ops : Array Oper} {md : Region.Mode} {Q : Exit → Act → World → Prop}
theorem Oper.wpIn_of_wp {o : Oper} {a : Act} {K : Act → World → Prop} {w : World} (hnd : ∀ c, o.op ≠ .defer c) (h : o.wp P a w K Q) : o.wpIn (Fence.wide.inRound l) n P a w K Q := by
  unfold Oper.wp at h
  unfold Oper.wpIn
  refine ⟨fun _ _ => trivial, ?_⟩
  rw [Oper.semAt_eq _ _ _ hnd]
  generalize (execOp a.eval o).run P w = r at *
  cases r with
  | ok x w' =>
    cases x <;> simp only [Oper.upon] at h <;> simp only [Oper.uponIn]
    case value => exact h
    case skip => exact h
    case defer => exact h
    case enter f args => exact ⟨fun hd => (by cases hd), CallsIn.inRound l (callsIn_wide.2 h)⟩
    case row r args => exact ⟨fun hd => (by cases hd), fun c cs _ => let ⟨v, w2, hr, hs⟩ := h c cs; ⟨v, w2, hr, stepsIn_wide.2 hs⟩⟩
  | halt x w' => cases x <;> simp only [Oper.upon] at h <;> simp only [Oper.uponIn]; exact h
theorem wpOpIn_of_wp {i : Nat} {a : Act} {K : Act → World → Prop} {w : World} (hnd : ∀ (i : Nat) (o : Oper), ops[i]? = some o → ∀ c, o.op ≠ .defer c) (hL : ¬ LetsOut Q) (h : wpOp P ops Q i K a w) : wpOpIn (Fence.wide.inRound l) n P ops Q i K a w := by
  unfold wpOp at h
  unfold wpOpIn
  split
  · rename_i ho; simpa only [ho] using h
  · rename_i o ho
    simp only [ho] at h
    split
    · rename_i hw
      simp only [hw, if_true] at h
      rcases h with h | h
      · exact Oper.wpIn_of_wp (hnd i o ho) h
      · exact absurd h.2 hL
    · rename_i hw
      simp only [hw] at h
      exact ⟨fun _ _ => trivial, h⟩
theorem wpAnyIn_of_any (hnd : ∀ (i : Nat) (o : Oper), ops[i]? = some o → ∀ c, o.op ≠ .defer c) (hL : ¬ LetsOut Q) : ∀ (fuel : Nat) (listed : Array Bool) (a : Act) (w : World),
    wpAny P md ops Q fuel listed a w → wpAnyIn (Fence.wide.inRound l) n P md ops Q fuel listed a w
  | 0, _, _, _, h => h
  | fuel + 1, _, _, _, h => ⟨h.1, fun i hi => wpOpIn_mono (fun a' w' h' => wpAnyIn_of_any hnd hL fuel _ a' w' h') (wpOpIn_of_wp hnd hL (h.2 i hi))⟩
/-- A region in a round that draws its order: walked as outside of rounds, S held. -/
theorem wpIn_region_round {id : Nat} {a : Act} {w : World} {S : World → Prop} {lo : List Oper} (hd : lo.all noDefer = true) (hm : P.follows .mixedOrders = true) (hL : ¬ LetsOut Q) (hS : S w.drew)
    (h : S w.drew → wpAnyH P .any lo.toArray Q S lo.toArray.size (Array.replicate lo.toArray.size false) a w.drew) : (Code.region id lo.toArray true).wpIn (Fence.wide.inRound l) n P Q a w := by
  have hnd : ∀ (i : Nat) (o : Oper), lo.toArray[i]? = some o → ∀ c, o.op ≠ .defer c := fun i o ho => noDefer_of (List.all_eq_true.1 hd o (List.mem_of_getElem? (by simpa using ho)))
  exact wpIn_region_any hm (wpAnyIn_of_any hnd hL _ _ _ _ (wpAny_of_held _ _ _ _ (h hS)))
end
end Go.Proofs.Ytnihmmhmndgagaa
