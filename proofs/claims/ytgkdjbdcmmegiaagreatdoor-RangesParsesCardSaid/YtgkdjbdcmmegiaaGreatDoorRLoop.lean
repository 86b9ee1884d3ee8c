/- A loop over a function that stores into a cell of its own between two rounds. No conditions. -/
import Derived.Test.YtgkdjbdcmmegiaaGreatDoorRShelf
import Derived.Test.YtgkdjbdcmmegiaaGreatDoorRIv
import Derived.RangeFuncNested
import Derived.RangeFuncBound
import Derived.RangeFuncCalls
import Derived.RangeFuncLeaves
import Derived.RangeFuncBox
import Derived.RangeFuncWrites
import Derived.Shelf.Abstract
import Derived.Shelf.RegionOpen
import Derived.WalkKit
import Derived.OwnWalkIn
import Derived.TacticsInMore
import Derived.LoopNIn
import Derived.LoopIn
import Derived.WalkLawsBesides
import Derived.Lib.IndexLaws
namespace Go.Proofs.YtgkdjbdcmmegiaaGreatDoor
open Go.RowKit

/-- What an iterator promises that stores strings into cell ks between two rounds: it yields the elements of L in turn, until it is told to stop. J is what the loop keeps; Kp is what a round leaves. -/
def IterB {α : Type} (n : Nat) (P : Program) (gf : Nat) (lb : Array Value) (ks : Nat) (encs : α → Array Value) (L : List α) (Kp : World → World → Prop) (W0 : World) : Prop :=
  ∀ (l : Nat) (J : List α → World → Prop) (Jx : World → Prop),
    (∀ front A v, J front A → J front (A.setCell ⟨ks, 0, none⟩ v)) →
    (∀ front x A, J front A → front ++ [x] <+: L → YieldAt Fence.wide (n - 1) P l (encs x) A fun e A' =>
      (e = .returned (.bool true) ∧ J (front ++ [x]) A' ∧ Kp A A') ∨ (e = .returned (.bool false) ∧ Jx A')) →
    J [] W0 → CallsIn Fence.wide n P gf (#[.func (.yield l) #[] #[]] ++ lb) W0 fun e W' => (∃ v, e = .returned v) ∧ (J L W' ∨ Jx W')

/-- How a round's body may end: it goes on, or it returns. -/
def roundEnd {α : Type} (B : Nat) (Kp : World → World → Prop) (I : List α → World → Prop) (Ix : World → Prop) (xs : List α) (W : World) : Exit → Act → World → Prop
  | .normal, _, W' => KeepsFrom B W W' ∧ Kp W W' ∧ I xs W'
  | .ret, _, W' => KeepsFrom B W W' ∧ Ix W'
  | _, _, _ => False

theorem set_other {W : World} {k j : Nat} {v : Value} {o : Obj} (h : W.heap[j]? = some o) (hne : j ≠ k) : (W.setCell ⟨k, 0, none⟩ v).heap[j]? = some o :=
  ((grownBy_setCell' W k v).block j (Array.getElem?_eq_some_iff.1 h).1 (fun e => hne (by cases e; rfl))).trans h

theorem range_box {α : Type} {n : Nat} {P : Program} {g : Operand} {ps : Array Tmp} {assign body : Code} {Q : Exit → Act → World → Prop} {a : Act} {w : World} {gf : Nat} {lb : Array Value} {ks : Nat} {encs : α → Array Value} {L : List α} {Kp : World → World → Prop}
    (h1 : 1 ≤ n) (hg : a.eval g = .func (.func gf) #[] lb) (eg : ∀ args w, (callFunc gf args).run P w = .ok (.enter gf args) w) (hks : ks < w.heap.size) (hps : ∀ x, (encs x).size = ps.size)
    (hit : ∀ W, Below w.heap.size w W → IterB (n - 1) P gf lb ks encs L Kp W)
    (hKt : ∀ {A B C : World}, Kp A B → Kp B C → Kp A C) (hKb : ∀ (W : World) (l : Nat) (o : Obj), w.heap.size ≤ l → Kp W (W.putObj l o))
    (I : List α → World → Prop) (Ix : World → Prop) (hI : OwnFrom w.heap.size I) (hIx : OwnFrom w.heap.size fun (_ : Unit) W => Ix W) (hset : ∀ front A v, I front A → I front (A.setCell ⟨ks, 0, none⟩ v)) (h0 : I [] w) (at1 : α → Act)
    (hassign : ∀ (l : Nat) (x : α) (W : World) (K : Act → World → Prop), K (at1 x) W →
      assign.wpIn (Fence.wide.inRound l) (n - 1 - 1) P (Exit.then K (fun _ _ _ => False)) { tmps := (ps.zip (encs x)).foldl (fun t (p, v) => t.setIfInBounds p v) a.tmps, defers := [] } W)
    (hbody : ∀ (l : Nat) (front : List α) (x : α) (W : World), I front W → front ++ [x] <+: L → body.wpIn (Fence.wide.inRound l) (n - 1 - 1) P (roundEnd w.heap.size Kp I Ix (front ++ [x]) W) (at1 x) W)
    (hdone : ∀ (D : Nat) (W : World), w.heap.size ≤ D → I L W → W.heap[D]? = some (.deferred (some [])) → Q .normal { a with defers := { target := .collected D, args := #[] } :: a.defers } W)
    (hstop : ∀ (D : Nat) (W : World), w.heap.size ≤ D → Ix W → W.heap[D]? = some (.deferred (some [])) → Code.ret.wpIn Fence.wide n P Q { a with defers := { target := .collected D, args := #[] } :: a.defers } W) :
    (Code.rangeFunc g ps assign body).wpIn Fence.wide n P Q a w := by
  refine wpIn_rangeFunc fun fn hfn => ?_
  rw [show Fence.wide.round = none from rfl]
  -- the loop's two blocks: D for deferred calls, D + 1 for its record
  obtain ⟨D, hD⟩ : ∃ D, w.heap.size = D := ⟨_, rfl⟩
  obtain ⟨rc, hrc⟩ : ∃ rc : LoopState → Option Code → Loop, rc = fun st pe => { state := st, pending := pe, fn, tmps := a.tmps, params := ps, assign, body, defers := D } := ⟨_, rfl⟩
  obtain ⟨W1, hW1⟩ : ∃ W1, (w.alloc (.deferred (some []))).alloc (.loop (rc .ready none)) = W1 := ⟨_, rfl⟩
  have hb1 : Below w.heap.size w W1 := hW1 ▸ ((Below.refl _ w).alloc (Nat.le_refl _) _).alloc (by simp) _
  have hRec : W1.heap[D + 1]? = some (.loop (rc .ready none)) := by
    have h := World.alloc_heap_new (w.alloc (.deferred (some []))) (.loop (rc .ready none))
    rwa [World.size_alloc, hD, hW1] at h
  have hDef : W1.heap[D]? = some (.deferred (some [])) := by
    rw [← hW1, ← hD]; exact (Below.heap_alloc _ _ _ (by simp)).trans (World.alloc_heap_new w _)
  have hI1 : I [] W1 := by rw [← hW1]; exact hI.alloc _ (hI.alloc _ h0)
  refine ⟨D + 1, [{ target := .collected D, args := #[] }], W1, { target := .fn (.func gf) lb, args := #[.func (.yield (D + 1)) #[] #[]] }, W1, gf, #[.func (.yield (D + 1)) #[] #[]] ++ lb, W1, ?_, ?_, ?_, ?_, fun _ => h1, ?_⟩
  · rw [← hW1, hrc, ← hD]; exact run_enterLoop_outer _ _ _ _ _
  · simp only [resolve, hg]; simp [go_sem]
  · intro f' hf'; simp [Target.leads] at hf'; subst hf'; exact trivial
  · simp [invoke, go_sem, eg]
  · have hJ := hit W1 hb1 (D + 1)
      (fun front W => I front W ∧ W.heap[D + 1]? = some (.loop (rc .ready none)) ∧ W.heap[D]? = some (.deferred (some [])))
      (fun W => Ix W ∧ W.heap[D + 1]? = some (.loop (rc .done (some .ret))) ∧ W.heap[D]? = some (.deferred (some [])))
      (fun front A v h => ⟨hset front A v h.1, set_other h.2.1 (by omega), set_other h.2.2 (by omega)⟩)
    refine (hJ ?round ⟨hI1, hRec, hDef⟩).mono ?behind
    case round =>
      rintro front x W ⟨hi, hl, hk⟩ hx
      have hlt : D + 1 < W.heap.size := (Array.getElem?_eq_some_iff.1 hl).1
      have hy := run_yield (P := P) (args := encs x) hl (by rw [hrc]; exact hps x)
      rw [hrc] at hy
      refine ⟨fn, _, assign, body, hy, roundIn_of_wpIn hfn (hassign _ x W _ ⟨_, run_beginRound hl (by rw [hrc]), ?_⟩)⟩
      obtain ⟨W2, hW2⟩ : ∃ W2, W.putObj (D + 1) (.loop { rc .ready none with state := .busy }) = W2 := ⟨_, rfl⟩
      have hl2 : W2.heap[D + 1]? = some (.loop { rc .ready none with state := .busy }) := hW2 ▸ World.putObj_heap_same hlt
      have hk2 : W2.heap[D]? = some (.deferred (some [])) := hW2 ▸ (World.putObj_heap_other (by omega)).trans hk
      have hkp2 : Kp W W2 := hW2 ▸ hKb _ _ _ (by omega)
      have hi2 : I front W2 := hW2 ▸ hI.putObj _ hi (by omega) hl rfl
      rw [hW2]
      -- the record at the round's end
      have close : ∀ (jump : Option Code) (W3 : World), KeepsFrom w.heap.size W2 W3 → ∃ W4, W4 = W3.putObj (D + 1) (.loop (rc (if jump.isNone then .ready else .done) jump)) ∧
          (Instr.endRound (D + 1) jump).run P W3 = .ok (.bool jump.isNone) W4 ∧ W3.heap[D + 1]? = some (.loop { rc .ready none with state := .busy }) ∧
          W4.heap[D + 1]? = some (.loop (rc (if jump.isNone then .ready else .done) jump)) ∧ W4.heap[D]? = some (.deferred (some [])) := by
        intro jump W3 h3
        have hl3 := h3.same _ _ (by omega) hl2 rfl
        have he := run_endRound (P := P) jump hl3
        rw [hrc] at he hl3 ⊢
        exact ⟨_, rfl, he, hl3, World.putObj_heap_same (Array.getElem?_eq_some_iff.1 hl3).1, (World.putObj_heap_other (by omega)).trans (h3.same _ _ (by omega) hk2 rfl)⟩
      refine wpIn_mono (hbody (D + 1) front x W2 hi2 hx) ?_
      intro e a3 W3 hp
      cases e with
      | normal =>
        obtain ⟨W4, e4, hr, hl3, hl4, hk4⟩ := close none W3 hp.1
        exact ⟨_, _, hr, .inl ⟨rfl, ⟨by rw [e4]; exact hI.putObj _ hp.2.2 (by omega) hl3 rfl, hl4, hk4⟩, hKt hkp2 (hKt hp.2.1 (by rw [e4]; exact hKb _ _ _ (by omega)))⟩⟩
      | ret =>
        obtain ⟨W4, e4, hr, hl3, hl4, hk4⟩ := close (some .ret) W3 hp.1
        exact ⟨_, _, hr, .inr ⟨rfl, by rw [e4]; exact hIx.putObj (s := ()) _ hp.2 (by omega) hl3 rfl, hl4, hk4⟩⟩
      | exit id => exact hp.elim
      | goto t => exact hp.elim
      | panic ch => exact hp.elim
      | outgrown => exact hp.elim
    case behind =>
      rintro e W2 ⟨⟨v, rfl⟩, (⟨hi, hl, hk⟩ | ⟨hi, hl, hk⟩)⟩
      · have he := run_endLoop (P := P) hl (by rw [hrc]; simp)
        rw [hrc] at he
        exact ⟨none, _, he, hdone D _ (by omega) (hI.putObj _ hi (by omega) hl rfl) ((World.putObj_heap_other (by omega)).trans hk)⟩
      · have he := run_endLoop (P := P) hl (by rw [hrc]; simp)
        rw [hrc] at he
        exact ⟨some .ret, _, he, hstop D _ (by omega) (hIx.putObj (s := ()) _ hi (by omega) hl rfl) ((World.putObj_heap_other (by omega)).trans hk)⟩
end Go.Proofs.YtgkdjbdcmmegiaaGreatDoor

/- strings.SplitSeq at a separator of one byte: the loop gets the parts in turn. Conditions: the text is shorter than 2^62 bytes. -/
namespace Go.Proofs.YtgkdjbdcmmegiaaGreatDoor
open Go.RowKit Go.Shelf
attribute [local go_sem] Oper.semAt_some

/-- The parts of a text between separators. -/
def splitL (c : UInt8) : List UInt8 → List (List UInt8)
  | [] => [[]]
  | b :: r => if b = c then [] :: splitL c r else match splitL c r with
    | [] => [[b]]
    | p :: ps => (b :: p) :: ps
theorem splitL_none : ∀ (s : List UInt8) (c : UInt8), Lib.indexByte s c = -1 → splitL c s = [s] := by
  intro s c
  induction s with
  | nil => intro _; rfl
  | cons b r ih =>
    intro h
    unfold Lib.indexByte at h
    split at h
    · omega
    · rename_i hb
      have hb' : ¬ b = c := by simpa using hb
      split at h
      · rename_i h1
        rw [splitL, if_neg hb', ih (by simpa using h1)]
      · have := Lib.indexByte_ge r c
        omega
theorem splitL_some : ∀ (s : List UInt8) (c : UInt8) (i : Nat), Lib.indexByte s c = i → splitL c s = s.take i :: splitL c (s.drop (i + 1)) := by
  intro s c
  induction s with
  | nil => intro i h; simp [Lib.indexByte] at h
  | cons b r ih =>
    intro i h
    unfold Lib.indexByte at h
    split at h
    · rename_i hb
      have hb' : b = c := by simpa using hb
      obtain rfl : i = 0 := by omega
      rw [splitL, if_pos hb']; rfl
    · rename_i hb
      have hb' : ¬ b = c := by simpa using hb
      split at h
      · omega
      · have h2 := Lib.indexByte_ge r c
        obtain ⟨j, rfl⟩ : ∃ j, i = j + 1 := by
          cases i with
          | zero => rename_i h3; simp at h3; omega
          | succ j => exact ⟨j, rfl⟩
        rw [splitL, if_neg hb', ih j (by omega)]
        rfl
theorem splitL_ne (c : UInt8) (s : List UInt8) : splitL c s ≠ [] := by
  cases s with
  | nil => simp [splitL]
  | cons b r =>
    rw [splitL]
    split
    · simp
    · split <;> simp
theorem index_lt (s : List UInt8) (c : UInt8) (i : Nat) (h : Lib.indexByte s c = i) : i < s.length :=
  (List.getElem?_eq_some_iff.1 (Lib.indexByte_some h).1).1

/-- The iterator's three cells: the text that is left, the separator, and how many of its bytes a part keeps. -/
structure SplitAt (kb : Nat) (c : UInt8) (r : List UInt8) (W : World) : Prop where
  s : W.cell? ⟨kb, 0, none⟩ = some (.string ⟨r.toArray⟩)
  f : W.frozen? ⟨kb, 0, none⟩ = false
  p : W.cell? ⟨kb + 1, 0, none⟩ = some (.string ⟨#[c]⟩)
  v : W.cell? ⟨kb + 2, 0, none⟩ = some (.int .i64 0)
/-- What a round leaves: these cells. -/
def KpS (kb : Nat) (A B : World) : Prop := ∀ j, j < 3 → B.heap[kb + j]? = A.heap[kb + j]?
theorem KpS.trans {kb : Nat} {A B C : World} (h : KpS kb A B) (k : KpS kb B C) : KpS kb A C := fun j hj => (k j hj).trans (h j hj)
theorem SplitAt.keep {kb : Nat} {c : UInt8} {r : List UInt8} {A B : World} (h : SplitAt kb c r A) (k : KpS kb A B) : SplitAt kb c r B := by
  have k0 := k 0 (by omega)
  have k1 := k 1 (by omega)
  have k2 := k 2 (by omega)
  have hf := h.f
  refine ⟨(World.cell?_of_block k0).trans h.s, ?_, (World.cell?_of_block k1).trans h.p, (World.cell?_of_block k2).trans h.v⟩
  simp only [Nat.add_zero] at k0
  simp only [World.frozen?] at hf ⊢
  rw [k0]; exact hf
theorem SplitAt.set {kb : Nat} {c : UInt8} {r : List UInt8} {A : World} (h : SplitAt kb c r A) (r' : List UInt8) : SplitAt kb c r' (A.setCell ⟨kb, 0, none⟩ (.string ⟨r'.toArray⟩)) :=
  ⟨World.cell?_setCell_same _ _ _ h.s, by rw [World.frozen?_setCell]; exact h.f, by rw [World.cell?_setCell_other _ _ _ _ (by simp)]; exact h.p, by rw [World.cell?_setCell_other _ _ _ _ (by simp)]; exact h.v⟩
def szAt (kb : Nat) (W : World) : Nat := match W.cell? ⟨kb, 0, none⟩ with
  | some (.string b) => b.size
  | _ => 0
theorem SplitAt.sz {kb : Nat} {c : UInt8} {r : List UInt8} {A : World} (h : SplitAt kb c r A) : szAt kb A = r.length := by
  unfold szAt; rw [h.s]; simp [ByteArray.size]

theorem extract_list (r : List UInt8) (a b : Nat) : (⟨r.toArray⟩ : ByteArray).extract a b = ⟨((r.take b).drop a).toArray⟩ := by
  apply ByteArray.ext
  apply Array.ext'
  simp [ByteArray.data_extract, List.drop_take]
theorem slice_front (r : List UInt8) (i : Nat) (hi : i ≤ r.length) (W : World) :
    (Instr.slice 9 (.string ⟨r.toArray⟩) none (some (.int .i64 (i : Int))) none).run Tryz.prog W = .ok (.string ⟨(r.take i).toArray⟩) W := by
  have hs : (⟨r.toArray⟩ : ByteArray).size = r.length := by simp [ByteArray.size]
  rw [run_slice_string_h W 9 _ Tryz.underlying9 .i64 (i : Int) (by omega) (by rw [hs]; omega), Int.toNat_natCast, extract_list, List.drop_zero]
theorem slice_back (r : List UInt8) (i : Nat) (hi : i ≤ r.length) (W : World) :
    (Instr.slice 9 (.string ⟨r.toArray⟩) (some (.int .i64 (i : Int))) none none).run Tryz.prog W = .ok (.string ⟨(r.drop i).toArray⟩) W := by
  have hs : (⟨r.toArray⟩ : ByteArray).size = r.length := by simp [ByteArray.size]
  rw [run_slice_string_l W 9 _ Tryz.underlying9 .i64 (i : Int) (by omega) (by rw [hs]; omega), Int.toNat_natCast, hs, extract_list, List.take_length]

set_option maxRecDepth 100000 in
set_option maxHeartbeats 2000000 in
theorem split_iter (n : Nat) (hn : 1 ≤ n) (kb : Nat) (c : UInt8) (s : List UInt8) (hs : s.length < 4611686018427387904) (W0 : World) (h0 : SplitAt kb c s W0) :
    IterB n Tryz.prog 110 #[.pointer (some ⟨kb + 1, 0, none⟩), .pointer (some ⟨kb, 0, none⟩), .pointer (some ⟨kb + 2, 0, none⟩)] kb (fun x : List UInt8 => #[.string ⟨x.toArray⟩]) (splitL c s) (KpS kb) W0 := by
  intro l J Jx hset hY hJ
  have HY := Lib.hid hY; clear hY
  have HSet := Lib.hid hset; clear hset
  have HJ := Lib.hid hJ; clear hJ
  have HS0 := Lib.hid h0
  have hp0 := h0.p
  clear h0
  have KI := Lib.hid (fun b W => Tryz.strings_Index_one b c W)
  refine callsIn_of_wp Tryz.func110 rfl trivial ?_ rfl
  simp only [Tryz.ntmps110, List.size_toArray, List.length_cons, List.length_nil, Nat.reduceAdd, Nat.reduceSub, Array.replicate_succ, Array.replicate_zero, List.push_toArray, List.append_toArray, List.nil_append, List.cons_append]
  gi_wp2
  clear hp0
  gi_loopw [7] (fun _ wr => ∃ front r, front ++ splitL c r = splitL c s ∧ SplitAt kb c r wr ∧ J front wr ∧ r.length ≤ s.length) (fun _ wr => szAt kb wr)
  case atStart => exact ⟨[], s, rfl, HS0.out, HJ.out, Nat.le_refl _⟩
  case round =>
    obtain ⟨front, r, hfr, hat, hj, hrl⟩ := hrel
    have HF := Lib.hid hfr; clear hfr
    have HA := Lib.hid hat
    obtain ⟨hcs, hcf, hcp, hcv⟩ := hat
    have HJ1 := Lib.hid hj; clear hj
    have hI : Hid (∀ W, Calls Tryz.prog 112 #[.string ⟨r.toArray⟩, .string ⟨#[c]⟩] W fun e w' => e = .returned (.int .i64 (Lib.indexByte r c)) ∧ w' = W) := Lib.hid (fun W => by simpa using KI.out ⟨r.toArray⟩ W)
    obtain ⟨q, hq⟩ : ∃ q, Lib.indexByte r c = q := ⟨_, rfl⟩
    rw [hq] at hI
    by_cases hneg : q < 0
    · have hq1 : q = -1 := by have := Lib.indexByte_ge r c; omega
      have HQ := Lib.hid (splitL_none r c (hq.trans hq1))
      have HL : Hid (front ++ [r] = splitL c s) := Lib.hid (by rw [← HF.out, HQ.out])
      clear hq hq1
      obtain ⟨fn, tmps, assign, body, hy, hR⟩ := HY.out front r wr HJ1.out (by rw [HL.out]; exact List.prefix_refl _)
      have HR := Lib.hid hR; clear hR
      gi_wp2_with (refine ⟨trivial, ?_⟩; gi_at_call 112; refine (callsIn_wide.2 (hI.out _)).mono ?_; rintro e w' ⟨rfl, rfl⟩)
      refine HR.out.mono ?_
      rintro e W3 (⟨rfl, hJ3, hk3⟩ | ⟨rfl, hJx3⟩)
      · gi_wp2
        go_end0
        exact ⟨⟨_, rfl⟩, .inl (HL.out ▸ hJ3)⟩
      · gi_wp2
        go_end0
        exact ⟨⟨_, rfl⟩, .inr hJx3⟩
    · obtain ⟨i, rfl⟩ : ∃ i : Nat, q = i := ⟨q.toNat, by omega⟩
      have hlt := index_lt r c i hq
      have HQ := Lib.hid (splitL_some r c i hq)
      clear hq
      have s1 := fun W => slice_front r i (by omega) W
      have s2 := fun W => slice_back r (i + 1) (by omega) W
      have hw1 : IntKind.i64.wrap ((i : Int) + 1) = ((i + 1 : Nat) : Int) := by rw [IntWalk.i64_in _ (by omega)]; rfl
      have HL : Hid (front ++ [r.take i] <+: splitL c s) := Lib.hid ⟨splitL c (r.drop (i + 1)), by rw [← HF.out, HQ.out]; simp⟩
      have HL2 : Hid ((front ++ [r.take i]) ++ splitL c (r.drop (i + 1)) = splitL c s) := Lib.hid (by rw [← HF.out, HQ.out]; simp)
      obtain ⟨fn, tmps, assign, body, hy, hR⟩ := HY.out front (r.take i) wr HJ1.out HL.out
      have HR := Lib.hid hR; clear hR
      gi_wp2_with (refine ⟨trivial, ?_⟩; gi_at_call 112; refine (callsIn_wide.2 (hI.out _)).mono ?_; rintro e w' ⟨rfl, rfl⟩)
      refine HR.out.mono ?_
      rintro e W3 (⟨rfl, hJ3, hk3⟩ | ⟨rfl, hJx3⟩)
      · have HA3 := Lib.hid (HA.out.keep hk3)
        obtain ⟨ds, df, dp, dv⟩ := HA3.out
        clear hcs hcf hcp hcv hk3 hy
        have HJ3 := Lib.hid hJ3; clear hJ3
        have HX : Hid ((⟨r.toArray⟩ : ByteArray).extract (i + 1) r.length = ⟨(r.drop (i + 1)).toArray⟩) := Lib.hid (by rw [extract_list, List.take_length])
        gi_wp2
        go_roundw
        case rel => exact ⟨front ++ [r.take i], r.drop (i + 1), HL2.out, by rw [HX.out]; exact HA3.out.set _, HSet.out _ _ _ HJ3.out, by simp; omega⟩
        case measure => rw [HX.out, (HA3.out.set _).sz, HA.out.sz]; simp; omega
      · gi_wp2
        refine bodyPost_ret (results_none rfl _ _ _) rfl ?_
        exact ⟨⟨_, rfl⟩, .inr hJx3⟩
end Go.Proofs.YtgkdjbdcmmegiaaGreatDoor

/- digits of package ranges: the text of a number is a number without leading zeros. Conditions: the text is shorter than 2^62 bytes. -/
namespace Go.Proofs.YtgkdjbdcmmegiaaGreatDoor
open Go.RowKit Go.Shelf

theorem splitSeq_any (s p : ByteArray) (w : World) :
    Calls Tryz.prog 69 #[.string s, .string p] w fun e w' => e = .returned (.func (.func 110) #[] #[.pointer (some ⟨w.heap.size + 1, 0, none⟩), .pointer (some ⟨w.heap.size, 0, none⟩), .pointer (some ⟨w.heap.size + 2, 0, none⟩)]) ∧
      w' = ((w.alloc (.cells #[.string s] 9)).alloc (.cells #[.string p] 9)).alloc (.cells #[.int .i64 0] 3) := by
  have K : ∀ w, Calls Tryz.prog 93 #[.string s, .string p, .int .i64 0] w fun e w' => e = .returned (.func (.func 110) #[] #[.pointer (some ⟨w.heap.size + 1, 0, none⟩), .pointer (some ⟨w.heap.size, 0, none⟩), .pointer (some ⟨w.heap.size + 2, 0, none⟩)]) ∧
      w' = ((w.alloc (.cells #[.string s] 9)).alloc (.cells #[.string p] 9)).alloc (.cells #[.int .i64 0] 3) := by
    intro w
    go_enter Tryz.func93, Tryz.ntmps93
    go_wp2_with fail
    go_ret
    exact ⟨rfl, rfl⟩
  go_enter Tryz.func69, Tryz.ntmps69
  go_wp2_with fail
  refine (K _).mono ?_
  rintro e w' ⟨rfl, rfl⟩
  go_wp2_with fail
  go_ret
  exact ⟨rfl, rfl⟩

/-- A number without leading zeros. -/
def isNum : List UInt8 → Bool
  | [] => false
  | b :: r => (b != 48 || r.isEmpty) && (b :: r).all fun b => 48 ≤ b && b ≤ 57
def numV (s : List UInt8) : Value := if isNum s then .tuple #[.string ⟨s.toArray⟩, .nilIface] else .tuple #[.string ⟨#[]⟩, .iface 30 (.int .i64 15)]
theorem numV_no {s : List UInt8} (h : isNum s = false) : numV s = .tuple #[.string ⟨#[]⟩, .iface 30 (.int .i64 15)] := by unfold numV; rw [h]; rfl
theorem numV_yes {s : List UInt8} (h : isNum s = true) : numV s = .tuple #[.string ⟨s.toArray⟩, .nilIface] := by unfold numV; rw [h]; rfl
theorem isNum_bad {s : List UInt8} {k : Nat} {d : UInt8} (hd : s[k]? = some d) (h : d.toNat < 48 ∨ 57 < d.toNat) : isNum s = false := by
  cases s with
  | nil => rfl
  | cons b r =>
    have : ((b :: r).all fun b => 48 ≤ b && b ≤ 57) = false := by
      rw [List.all_eq_false]
      refine ⟨d, List.mem_of_getElem? hd, ?_⟩
      simp only [Bool.and_eq_true, decide_eq_true_eq, UInt8.le_iff_toNat_le]
      have e1 : (48 : UInt8).toNat = 48 := rfl
      have e2 : (57 : UInt8).toNat = 57 := rfl
      omega
    show ((b != 48 || r.isEmpty) && (b :: r).all fun b => 48 ≤ b && b ≤ 57) = false
    rw [this, Bool.and_false]
theorem isNum_good {b : UInt8} {r : List UInt8} (h0 : b ≠ 48 ∨ r = []) (h : ∀ (k : Nat) d, (b :: r)[k]? = some d → ¬ d.toNat < 48 ∧ ¬ 57 < d.toNat) : isNum (b :: r) = true := by
  have : ((b :: r).all fun b => 48 ≤ b && b ≤ 57) = true := by
    rw [List.all_eq_true]
    intro d hd
    obtain ⟨k, hk⟩ := List.mem_iff_getElem?.1 hd
    have := h k d hk
    simp only [Bool.and_eq_true, decide_eq_true_eq, UInt8.le_iff_toNat_le]
    have e1 : (48 : UInt8).toNat = 48 := rfl
    have e2 : (57 : UInt8).toNat = 57 := rfl
    omega
  show ((b != 48 || r.isEmpty) && (b :: r).all fun b => 48 ≤ b && b ≤ 57) = true
  rw [this, Bool.and_true]
  rcases h0 with h0 | h0
  · simp [h0]
  · simp [h0]
theorem byte_at (s : List UInt8) (k : Nat) (d : UInt8) (h : s[k]? = some d) (S : ByteArray) (hS : ⟨s.toArray⟩ = S) (hk : k < S.size) : S[k] = d := by
  subst hS
  have h2 := (List.getElem?_eq_some_iff.1 h).2
  rw [← h2]
  rfl

set_option maxRecDepth 100000 in
set_option maxHeartbeats 4000000 in
theorem digits_any (s : List UInt8) (hs : s.length < 4611686018427387904) (w : World) :
    Calls Tryz.prog 71 #[.string ⟨s.toArray⟩] w fun e w' => e = .returned (numV s) ∧ w' = w := by
  cases s with
  | nil =>
    go_enter Tryz.func71, Tryz.ntmps71
    go_wp2_with fail
    go_ret2
    exact ⟨by simp [numV, isNum], rfl⟩
  | cons b r =>
    obtain ⟨S, hS⟩ : ∃ S : ByteArray, ⟨(b :: r).toArray⟩ = S := ⟨_, rfl⟩
    have hsz : S.size = (b :: r).length := by rw [← hS]; simp [ByteArray.size]
    have hT : S.toList = b :: r := by rw [ByteArray.toList_eq, ← hS]
    have hE : S.toList.isEmpty = false := by rw [hT]; rfl
    have hE' : ¬ S.toList = [] := by rw [hT]; simp
    have h0 : 0 < S.size := by rw [hsz]; simp
    have hb : S[0] = b := byte_at (b :: r) 0 b rfl S hS h0
    have hZ : (S.toList == [48]) = (b == 48 && r == []) := by rw [hT]; rfl
    by_cases hlead : b = 48 ∧ r ≠ []
    · obtain ⟨rfl, hr⟩ := hlead
      have hZ' : (S.toList == [48]) = false := by rw [hZ]; simpa using hr
      have HN : Hid (isNum (48 :: r) = false) := Lib.hid (by unfold isNum; cases r with
        | nil => exact absurd rfl hr
        | cons c r => rfl)
      rw [hS]
      clear hZ hT hS hr hsz
      go_enter Tryz.func71, Tryz.ntmps71
      go_wp2_with fail
      go_ret2
      rw [numV_no HN.out]
      exact ⟨rfl, rfl⟩
    · have hor : b ≠ 48 ∨ r = [] := by
        by_cases h : b = 48
        · right; exact Decidable.not_not.1 fun hr => hlead ⟨h, hr⟩
        · exact .inl h
      have HGood := Lib.hid (fun h => isNum_good (b := b) (r := r) hor h)
      have hway : ¬ ((b.toNat : Nat) : Int) = 48 ∨ (b = 48 ∧ (S.toList == [48]) = true) := by
        by_cases h : b = 48
        · right; refine ⟨h, ?_⟩; rw [hZ]; rcases hor with h' | h'; exact absurd h h'; simp [h, h']
        · left; intro e; exact h (UInt8.toNat_inj.1 (by rw [show (48 : UInt8).toNat = 48 from rfl]; omega))
      rw [hS]
      have HS := Lib.hid hS
      have HSZ := Lib.hid hsz
      have hlen : ((S.size : Nat) : Int) < 9223372036854775807 := by omega
      clear hZ hT hor hlead hS hsz
      revert HS HSZ HGood hs
      generalize b :: r = L
      intro hs HGood HS HSZ
      go_enter Tryz.func71, Tryz.ntmps71
      rcases hway with hway | ⟨rfl, hZ⟩
      all_goals
        go_wp2_with fail
        go_loop [19] (fun i => ∃ k : Nat, k ≤ S.size ∧ i = .int .i64 k ∧ Hid (∀ (j : Nat) d, j < k → L[j]? = some d → ¬ d.toNat < 48 ∧ ¬ 57 < d.toNat)) (fun i => S.size - (intOf i).toNat)
        case atStart => exact ⟨0, Nat.zero_le _, rfl, Lib.hid fun j d hj => absurd hj (Nat.not_lt_zero _)⟩
        case round =>
          obtain ⟨k, hk, rfl, HG⟩ := hrel
          by_cases hlt : k < S.size
          · obtain ⟨d, hd⟩ : ∃ d, L[k]? = some d := ⟨_, List.getElem?_eq_getElem (by rw [← HSZ.out]; exact hlt)⟩
            have hbk : S[k] = d := byte_at L k d hd S HS.out hlt
            have HD := Lib.hid hd; clear hd
            have i1 : (0 : Int) ≤ (k : Int) := by omega
            have i2 : (k : Int) < (S.size : Int) := by omega
            by_cases h1 : ((d.toNat : Nat) : Int) < 48
            · go_wp2_with fail
              go_ret2
              rw [numV_no (isNum_bad HD.out (.inl (by omega)))]
              exact ⟨rfl, rfl⟩
            · by_cases h2 : (57 : Int) < ((d.toNat : Nat) : Int)
              · go_wp2_with fail
                go_ret2
                rw [numV_no (isNum_bad HD.out (.inr (by omega)))]
                exact ⟨rfl, rfl⟩
              · have HG2 : Hid (∀ (j : Nat) d, j < k + 1 → L[j]? = some d → ¬ d.toNat < 48 ∧ ¬ 57 < d.toNat) := Lib.hid (by
                  intro j e hj he
                  by_cases hjk : j = k
                  · subst hjk
                    have := HD.out.symm.trans he
                    cases this
                    omega
                  · exact HG.out j e (by omega) he)
                clear HG
                go_wp2_with fail
                go_round
                case rel => exact ⟨k + 1, by omega, by go_num, HG2⟩
                case measure => simp [intOf]; omega
          · obtain rfl : k = S.size := by omega
            have HY : Hid (isNum L = true) := Lib.hid (HGood.out fun j d he => HG.out j d (by rw [HSZ.out]; exact (List.getElem?_eq_some_iff.1 he).1) he)
            go_wp2_with fail
            go_ret2
            rw [numV_yes HY.out, HS.out]
            exact ⟨rfl, rfl⟩
end Go.Proofs.YtgkdjbdcmmegiaaGreatDoor
