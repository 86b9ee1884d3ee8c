/- A loop over a function that makes memory of its own between two rounds, at places that are not known when the loop begins: no round touches it. No conditions. -/
import Derived.Test.YtgeggdaokjimjaaDoorVApart
namespace Go.Proofs.YtgeggdaokjimjaaDoor
open Go.RowKit
/-- The world goes on without a store, and of the blocks that are made the set T' may take some up. -/
def Ext (T T' : Nat → Prop) (A B : World) : Prop := Below A.heap.size A B ∧ ∀ k, T' k → (T k ∨ A.heap.size ≤ k) ∧ k < B.heap.size
theorem Ext.of_below {T : Nat → Prop} {A B : World} (h : Below A.heap.size A B) (ht : ∀ k, T k → k < A.heap.size) : Ext T T A B := ⟨h, fun k hk => ⟨.inl hk, Nat.lt_of_lt_of_le (ht k hk) h.size⟩⟩
theorem Ext.one {T : Nat → Prop} {A B : World} (h : Below A.heap.size A B) (ht : ∀ k, T k → k < A.heap.size) (g : Nat) (hg : A.heap.size ≤ g) (hg2 : g < B.heap.size) : Ext T (fun k => T k ∨ k = g) A B :=
  ⟨h, fun k hk => hk.elim (fun hk => ⟨.inl hk, Nat.lt_of_lt_of_le (ht k hk) h.size⟩) fun e => by subst e; exact ⟨.inr hg, hg2⟩⟩
/-- What a call of yield owes the iterator: it leaves the blocks of T; it goes on, or it stops. -/
def YldT {α : Type} (P : Program) (l : Nat) (encs : α → Array Value) (J : List α → (Nat → Prop) → World → Prop) (Jx : World → Prop) (L : List α) : Prop :=
  ∀ front x T A, J front T A → front ++ [x] <+: L → YW P l (encs x) A fun e A' =>
    Apart (fun k => ¬ T k) A A' ∧ ((e = .returned (.bool true) ∧ J (front ++ [x]) T A') ∨ (e = .returned (.bool false) ∧ Jx A'))
/-- The caller's word abides what the iterator does. -/
structure AbideT {α : Type} (J : List α → (Nat → Prop) → World → Prop) (Jx : World → Prop) : Prop where
  go : ∀ front T T' A B, J front T A → Ext T T' A B → J front T' B
  stop : ∀ A B, Jx A → Below A.heap.size A B → Jx B
  low : ∀ front T A, J front T A → ∀ k, T k → k < A.heap.size
/-- What an iterator promises: it yields the elements of L in turn, until it is told to stop. -/
def IterT {α : Type} (n : Nat) (P : Program) (gf : Nat) (lb : Array Value) (encs : α → Array Value) (L : List α) (keep : Nat → Prop) (W0 : World) : Prop :=
  ∀ (l : Nat) (J : List α → (Nat → Prop) → World → Prop) (Jx : World → Prop), AbideT J Jx → YldT P l encs J Jx L → J [] keep W0 →
    CallsIn Fence.wide n P gf (#[.func (.yield l) #[] #[]] ++ lb) W0 fun e W' => (∃ v, e = .returned v) ∧ ((∃ T, J L T W') ∨ Jx W')
/-- What a function promises that an iterator hands its yield on to: it yields the elements of L behind those of f0; its word is r, or it was told to stop. -/
def SegT {α : Type} (n : Nat) (P : Program) (gf : Nat) (pre : Array Value) (encs : α → Array Value) (L : List α) (r : Bool) (T0 : Nat → Prop) (W0 : World) : Prop :=
  ∀ (l : Nat) (J : List α → (Nat → Prop) → World → Prop) (Jx : World → Prop) (f0 : List α), AbideT J Jx → YldT P l encs J Jx (f0 ++ L) → J f0 T0 W0 →
    CallsIn Fence.wide n P gf (pre ++ #[.func (.yield l) #[] #[]]) W0 fun e W' =>
      Apart (fun k => ¬ T0 k) W0 W' ∧ ((e = .returned (.bool r) ∧ ∃ T, (∀ k, T0 k → T k) ∧ J (f0 ++ L) T W') ∨ (e = .returned (.bool false) ∧ Jx W'))
theorem YldT.part {α : Type} {P : Program} {l : Nat} {encs : α → Array Value} {J : List α → (Nat → Prop) → World → Prop} {Jx : World → Prop} {L L' : List α} (h : YldT P l encs J Jx L) (hp : L' <+: L) : YldT P l encs J Jx L' :=
  fun front x T A hj hx => h front x T A hj (hx.trans hp)
/-- How a round's body may end: it goes on, or it returns. -/
def roundT {α : Type} (B : Nat) (T : Nat → Prop) (I : List α → (Nat → Prop) → World → Prop) (Ix : World → Prop) (xs : List α) (W : World) : Exit → Act → World → Prop
  | .normal, _, W' => Apart (fun k => ¬ (T k ∨ k = B ∨ k = B + 1)) W W' ∧ I xs T W'
  | .ret, _, W' => Apart (fun k => ¬ (T k ∨ k = B ∨ k = B + 1)) W W' ∧ Ix W'
  | _, _, _ => False
theorem range_t {α : Type} {n : Nat} {P : Program} {g : Operand} {ps : Array Tmp} {assign body : Code} {Q : Exit → Act → World → Prop} {a : Act} {w : World} {gf : Nat} {lb : Array Value} {encs : α → Array Value} {L : List α} {keep : Nat → Prop}
    (h1 : 1 ≤ n) (hg : a.eval g = .func (.func gf) #[] lb) (eg : ∀ args w, (callFunc gf args).run P w = .ok (.enter gf args) w) (hps : ∀ x, (encs x).size = ps.size)
    (hkeep : ∀ k, keep k → k < w.heap.size)
    (hit : ∀ W, W.heap.size = w.heap.size + 2 → Below w.heap.size w W → IterT (n - 1) P gf lb encs L keep W)
    (I : List α → (Nat → Prop) → World → Prop) (Ix : World → Prop)
    (hI : ∀ front T T' A B, I front T A → Ext T T' A B → I front T' B) (hIp : ∀ front T A B, I front T A → Apart (fun k => k = w.heap.size + 1) A B → I front T B)
    (hIx : ∀ A B, Ix A → Apart (fun k => k = w.heap.size + 1) A B → Ix B) (h0 : I [] keep w) (Ax : α → Act → World → Prop)
    (hAx : ∀ x a' A B, Ax x a' A → Apart (fun k => k = w.heap.size + 1) A B → Ax x a' B)
    (hassign : ∀ (l : Nat) (front : List α) (x : α) (T : Nat → Prop) (W : World) (K : Act → World → Prop), I front T W → w.heap.size + 2 ≤ W.heap.size → (∀ a' W', Below W.heap.size W W' → Ax x a' W' → K a' W') →
      assign.wpIn (Fence.wide.inRound l) (n - 1 - 1) P (Exit.then K (fun _ _ _ => False)) { tmps := (ps.zip (encs x)).foldl (fun t (p, v) => t.setIfInBounds p v) a.tmps, defers := [] } W)
    (hbody : ∀ (l : Nat) (front : List α) (x : α) (a' : Act) (T : Nat → Prop) (W : World), I front T W → (∀ k, T k → k < W.heap.size ∧ k ≠ w.heap.size ∧ k ≠ w.heap.size + 1) → Ax x a' W → front ++ [x] <+: L → w.heap.size + 2 ≤ W.heap.size →
      body.wpIn (Fence.wide.inRound l) (n - 1 - 1) P (roundT w.heap.size T I Ix (front ++ [x]) W) a' W)
    (hdone : ∀ (D : Nat) (T : Nat → Prop) (W : World), D = w.heap.size → w.heap.size + 2 ≤ W.heap.size → I L T W → W.heap[D]? = some (.deferred (some [])) → Q .normal { a with defers := { target := .collected D, args := #[] } :: a.defers } W)
    (hstop : ∀ (D : Nat) (W : World), D = w.heap.size → Ix W → W.heap[D]? = some (.deferred (some [])) → Code.ret.wpIn Fence.wide n P Q { a with defers := { target := .collected D, args := #[] } :: a.defers } W) :
    (Code.rangeFunc g ps assign body).wpIn Fence.wide n P Q a w := by
  refine wpIn_rangeFunc fun fn hfn => ?_
  rw [show Fence.wide.round = none from rfl]
  -- the loop's two blocks: D for deferred calls, D + 1 for its record
  obtain ⟨D, hD⟩ : ∃ D, w.heap.size = D := ⟨_, rfl⟩
  rw [hD] at hkeep hbody hassign hAx hIp hIx
  obtain ⟨rc, hrc⟩ : ∃ rc : LoopState → Option Code → Loop, rc = fun st pe => { state := st, pending := pe, fn, tmps := a.tmps, params := ps, assign, body, defers := D } := ⟨_, rfl⟩
  obtain ⟨W1, hW1⟩ : ∃ W1, (w.alloc (.deferred (some []))).alloc (.loop (rc .ready none)) = W1 := ⟨_, rfl⟩
  have hb1 : Below w.heap.size w W1 := hW1 ▸ ((Below.refl _ w).alloc (Nat.le_refl _) _).alloc (by simp) _
  have hs1 : W1.heap.size = w.heap.size + 2 := by rw [← hW1]; simp
  have hRec : W1.heap[D + 1]? = some (.loop (rc .ready none)) := by
    have h := World.alloc_heap_new (w.alloc (.deferred (some []))) (.loop (rc .ready none))
    rwa [World.size_alloc, hD, hW1] at h
  have hDef : W1.heap[D]? = some (.deferred (some [])) := by
    rw [← hW1, ← hD]; exact (Below.heap_alloc _ _ _ (by simp)).trans (World.alloc_heap_new w _)
  have hI1 : I [] keep W1 := hI _ _ _ _ _ h0 (Ext.of_below hb1 (by rw [hD]; exact hkeep))
  refine ⟨D + 1, [{ target := .collected D, args := #[] }], W1, { target := .fn (.func gf) lb, args := #[.func (.yield (D + 1)) #[] #[]] }, W1, gf, #[.func (.yield (D + 1)) #[] #[]] ++ lb, W1, ?_, ?_, ?_, ?_, fun _ => h1, ?_⟩
  · rw [← hW1, hrc, ← hD]; exact run_enterLoop_outer _ _ _ _ _
  · simp only [resolve, hg]; simp [go_sem]
  · intro f' hf'; simp [Target.leads] at hf'; subst hf'; exact trivial
  · simp [invoke, go_sem, eg]
  · have no : ¬ (False : Prop) := id
    have hJ := hit W1 hs1 hb1 (D + 1)
      (fun front T W => I front T W ∧ (∀ k, T k → k < W.heap.size ∧ k ≠ D ∧ k ≠ D + 1) ∧ W.heap[D + 1]? = some (.loop (rc .ready none)) ∧ W.heap[D]? = some (.deferred (some [])))
      (fun W => Ix W ∧ W.heap[D + 1]? = some (.loop (rc .done (some .ret))) ∧ W.heap[D]? = some (.deferred (some [])))
      ⟨fun front T T' A B h k => ⟨hI _ _ _ _ _ h.1 k, fun i hi => ⟨(k.2 i hi).2, by
          have hlt : D + 1 < A.heap.size := (Array.getElem?_eq_some_iff.1 h.2.2.1).1
          rcases (k.2 i hi).1 with hh | hh
          · exact (h.2.1 i hh).2
          · omega⟩, (Apart.of_below (fun _ => False) k.1).obj h.2.2.1 no, (Apart.of_below (fun _ => False) k.1).obj h.2.2.2 no⟩,
       fun A B h k => ⟨hIx _ _ h.1 (Apart.of_below _ k), (Apart.of_below (fun _ => False) k).obj h.2.1 no, (Apart.of_below (fun _ => False) k).obj h.2.2 no⟩,
       fun front T A h k hk => (h.2.1 k hk).1⟩
    refine (hJ ?round ⟨hI1, fun k hk => ⟨by have := hkeep k hk; omega, by have := hkeep k hk; omega, by have := hkeep k hk; omega⟩, hRec, hDef⟩).mono ?behind
    case round =>
      rintro front x T W0 ⟨hi, hT, hl, hk⟩ hx
      have hlt0 : D + 1 < W0.heap.size := (Array.getElem?_eq_some_iff.1 hl).1
      have hy := run_yield (P := P) (args := encs x) hl (by rw [hrc]; exact hps x)
      rw [hrc] at hy
      refine YW.of (m := n - 1 - 1) ⟨fn, _, assign, body, hy, roundIn_of_wpIn hfn (hassign _ front x T W0 _ hi (by omega) ?_)⟩
      intro a' W hbW hax
      have k0 : ∀ q, Apart q W0 W := fun q => .of_below q hbW
      replace hl := (k0 fun _ => False).obj hl no
      replace hk := (k0 fun _ => False).obj hk no
      have hlt : D + 1 < W.heap.size := (Array.getElem?_eq_some_iff.1 hl).1
      refine ⟨_, run_beginRound hl (by rw [hrc]), ?_⟩
      obtain ⟨W2, hW2⟩ : ∃ W2, W.putObj (D + 1) (.loop { rc .ready none with state := .busy }) = W2 := ⟨_, rfl⟩
      have hl2 : W2.heap[D + 1]? = some (.loop { rc .ready none with state := .busy }) := hW2 ▸ World.putObj_heap_same hlt
      have hk2 : W2.heap[D]? = some (.deferred (some [])) := hW2 ▸ (World.putObj_heap_other (by omega)).trans hk
      have kp2 : Apart (fun k => k = D + 1) W W2 := hW2 ▸ Apart.put W _ rfl
      have nk : ¬ T (D + 1) := fun h => (hT _ h).2.2 rfl
      have kk2 : Apart (fun k => ¬ T k) W W2 := hW2 ▸ Apart.put W _ nk
      have hax2 := hAx _ _ _ _ hax kp2
      have hi2 := hIp _ _ _ _ (hI _ _ _ _ _ hi (Ext.of_below hbW fun k hk => (hT k hk).1)) kp2
      have hT2 : ∀ k, T k → k < W2.heap.size ∧ k ≠ D ∧ k ≠ D + 1 := fun k hk => ⟨Nat.lt_of_lt_of_le (hT k hk).1 (Nat.le_trans hbW.size kp2.size), (hT k hk).2⟩
      have hs2 : D + 2 ≤ W2.heap.size := Nat.le_trans hlt kp2.size
      rw [hW2]
      have close : ∀ (jump : Option Code) (W3 : World), Apart (fun k => ¬ (T k ∨ k = D ∨ k = D + 1)) W2 W3 → ∃ W4, W4 = W3.putObj (D + 1) (.loop (rc (if jump.isNone then .ready else .done) jump)) ∧
          (Instr.endRound (D + 1) jump).run P W3 = .ok (.bool jump.isNone) W4 ∧ Apart (fun k => k = D + 1) W3 W4 ∧ Apart (fun k => ¬ T k) W0 W4 ∧
          W4.heap[D + 1]? = some (.loop (rc (if jump.isNone then .ready else .done) jump)) ∧ W4.heap[D]? = some (.deferred (some [])) := by
        intro jump W3 h3
        have hl3 := h3.obj hl2 (fun h => h (.inr (.inr rfl)))
        have he := run_endRound (P := P) jump hl3
        rw [hrc] at he hl3 ⊢
        refine ⟨_, rfl, he, Apart.put _ _ rfl, ?_, World.putObj_heap_same (Array.getElem?_eq_some_iff.1 hl3).1, (World.putObj_heap_other (by omega)).trans (h3.obj hk2 (fun h => h (.inr (.inl rfl))))⟩
        exact (((k0 _).trans kk2).trans (h3.mono fun k _ h hn => h (.inl hn))).trans (Apart.put _ _ nk)
      refine wpIn_mono (hbody (D + 1) front x a' T W2 hi2 hT2 hax2 hx hs2) ?_
      intro e a3 W3 hp
      cases e with
      | normal =>
        obtain ⟨W4, e4, hr, kt, kk, hl4, hk4⟩ := close none W3 hp.1
        exact ⟨_, _, hr, kk, .inl ⟨rfl, hIp _ _ _ _ hp.2 kt, fun k hk => ⟨Nat.lt_of_lt_of_le (hT k hk).1 kk.size, (hT k hk).2⟩, hl4, hk4⟩⟩
      | ret =>
        obtain ⟨W4, e4, hr, kt, kk, hl4, hk4⟩ := close (some .ret) W3 hp.1
        exact ⟨_, _, hr, kk, .inr ⟨rfl, hIx _ _ hp.2 kt, hl4, hk4⟩⟩
      | exit id => exact hp.elim
      | goto t => exact hp.elim
      | panic ch => exact hp.elim
      | outgrown => exact hp.elim
    case behind =>
      rintro e W2 ⟨⟨v, rfl⟩, (⟨T, hi, _, hl, hk⟩ | ⟨hi, hl, hk⟩)⟩
      · have he := run_endLoop (P := P) hl (by rw [hrc]; simp)
        rw [hrc] at he
        exact ⟨none, _, he, hdone D T _ hD.symm (by have := (Array.getElem?_eq_some_iff.1 hl).1; simp; omega) (hIp _ _ _ _ hi (Apart.put _ _ rfl)) ((World.putObj_heap_other (by omega)).trans hk)⟩
      · have he := run_endLoop (P := P) hl (by rw [hrc]; simp)
        rw [hrc] at he
        exact ⟨some .ret, _, he, hstop D _ hD.symm (hIx _ _ hi (Apart.put _ _ rfl)) ((World.putObj_heap_other (by omega)).trans hk)⟩
end Go.Proofs.YtgeggdaokjimjaaDoor
