/- The first part that is written twice. Conditions: at most 1048576 parts. -/
import Derived.Test.YtgkdjbdcmmegiaaGreatDoorREachP
import Derived.Test.YtgkdjbdcmmegiaaGreatDoorRSort
namespace Go.Proofs.YtgkdjbdcmmegiaaGreatDoor
open Go.RowKit Go.Shelf

/-- Parts in memory. -/
def PartsAt (w : World) (s : Value) (l : List (Iv × Bool)) : Prop :=
  ∃ p cap, s = .slice p l.length cap ∧ l.length ≤ 1048576 ∧
    (l ≠ [] → ∃ b, p = some ⟨b, 0, none⟩ ∧ ∀ (i : Nat) x, l[i]? = some x → w.cell? ⟨b, i * 3, none⟩ = some (.int .u64 x.1.1) ∧ w.cell? ⟨b, i * 3 + 1, none⟩ = some (.int .u64 x.1.2) ∧ w.cell? ⟨b, i * 3 + 2, none⟩ = some (.bool x.2))
theorem PartsAt.call {w w' : World} {s : Value} {l : List (Iv × Bool)} (h : PartsAt w s l) (hb : Below w.heap.size w w') : PartsAt w' s l := by
  obtain ⟨p, cap, h1, h2, h3⟩ := h
  refine ⟨p, cap, h1, h2, fun hne => ?_⟩
  obtain ⟨b, h5, h6⟩ := h3 hne
  exact ⟨b, h5, fun i x hi => ⟨keep_cell (h6 i x hi).1 hb, keep_cell (h6 i x hi).2.1 hb, keep_cell (h6 i x hi).2.2 hb⟩⟩
theorem PartsAt.elem {w : World} {s : Value} {l : List (Iv × Bool)} (h : PartsAt w s l) {i : Nat} {x : Iv × Bool} (hi : l[i]? = some x) :
    ∃ b cap, s = .slice (some ⟨b, 0, none⟩) l.length cap ∧ w.cell? ⟨b, i * 3, none⟩ = some (.int .u64 x.1.1) ∧ w.cell? ⟨b, i * 3 + 1, none⟩ = some (.int .u64 x.1.2) ∧ w.cell? ⟨b, i * 3 + 2, none⟩ = some (.bool x.2) := by
  obtain ⟨p, cap, rfl, _, h3⟩ := h
  obtain ⟨b, rfl, h6⟩ := h3 (by intro e; subst e; simp at hi)
  exact ⟨b, cap, rfl, h6 i x hi⟩
theorem PartsAt.shape {w : World} {s : Value} {l : List (Iv × Bool)} (h : PartsAt w s l) : ∃ p cap, s = .slice p l.length cap ∧ l.length ≤ 1048576 := by
  obtain ⟨p, cap, h1, h2, _⟩ := h; exact ⟨p, cap, h1, h2⟩

theorem twice_any (a b : Int) (t : Bool) (w : World) : Calls Tryz.prog 74 #[.agg #[.int .u64 a, .int .u64 b, .bool t]] w fun e w' => e = .returned (.bool t) ∧ Below w.heap.size w w' := by
  have hn := below_new w (.cells #[.int .u64 a, .int .u64 b, .bool t] 76)
  have HN := Lib.hid hn; clear hn
  go_enter Tryz.func74, Tryz.ntmps74
  go_wp2_with fail
  go_ret
  exact ⟨rfl, HN.out⟩

/-- The first part that is written twice, or -1. -/
def twiceL (l : List (Iv × Bool)) : Int := match l.findIdx? (·.2) with
  | some i => i
  | none => -1
theorem twice_hit {l : List (Iv × Bool)} {k : Nat} {x : Iv × Bool} (hx : l[k]? = some x) (ht : x.2 = true) (hb : ∀ (j : Nat) y, j < k → l[j]? = some y → y.2 = false) : l.findIdx? (·.2) = some k := by
  rw [List.findIdx?_eq_some_iff_getElem]
  obtain ⟨hlt, e⟩ := List.getElem?_eq_some_iff.1 hx
  refine ⟨hlt, by rw [e]; exact ht, fun j hj => ?_⟩
  have := hb j _ hj (List.getElem?_eq_getElem (Nat.lt_trans hj hlt))
  simp [this]
theorem twice_none {l : List (Iv × Bool)} (hb : ∀ (j : Nat) y, j < l.length → l[j]? = some y → y.2 = false) : l.findIdx? (·.2) = none := by
  rw [List.findIdx?_eq_none_iff]
  intro x hx
  obtain ⟨j, hj⟩ := List.mem_iff_getElem?.1 hx
  exact hb j x (List.getElem?_eq_some_iff.1 hj).1 hj

set_option maxRecDepth 100000 in
set_option maxHeartbeats 4000000 in
theorem idx_any (l : List (Iv × Bool)) (s : Value) (w : World) (hl : PartsAt w s l) :
    Calls Tryz.prog 73 #[s, .func (.func 74) #[] #[]] w fun e w' => e = .returned (.int .i64 (twiceL l)) ∧ Below w.heap.size w w' := by
  obtain ⟨p, cap, rfl, hlen⟩ := hl.shape
  have I := Lib.hid hl; clear hl
  have K := Lib.hid twice_any
  go_enter Tryz.func73, Tryz.ntmps73
  go_wp2_with fail
  go_loopw [8] (fun i wr => ∃ k : Nat, k ≤ l.length ∧ i = .int .i64 k ∧ Below w.heap.size w wr ∧ Hid (∀ (j : Nat) y, j < k → l[j]? = some y → y.2 = false)) (fun i _ => l.length - (intOf i).toNat)
  case atStart => exact ⟨0, Nat.zero_le _, rfl, Below.refl _ _, Lib.hid fun j y hj => absurd hj (Nat.not_lt_zero _)⟩
  case round =>
    obtain ⟨k, hk, rfl, hb, HF⟩ := hrel
    have HB := Lib.hid hb; clear hb
    by_cases hlt : k < l.length
    · obtain ⟨⟨⟨a, b⟩, t⟩, hx⟩ : ∃ x, l[k]? = some x := ⟨l[k], by simp [hlt]⟩
      have i1 : (0 : Int) ≤ (k : Int) := by omega
      have i2 : (k : Int) < (l.length : Int) := by omega
      obtain ⟨g, cap', e, hc0, hc1, hc2⟩ := (I.out.call HB.out).elem hx
      cases e
      have HX := Lib.hid hx; clear hx
      go_wp2_with fail
      refine (K.out a b t wr).mono ?_
      rintro e w1 ⟨rfl, h1⟩
      have H1 := Lib.hid (below_call HB.out h1); clear h1
      cases t with
      | true =>
        have HT : Hid (twiceL l = (k : Int)) := Lib.hid (by unfold twiceL; rw [twice_hit HX.out rfl HF.out])
        go_wp2_with fail
        go_ret
        rw [HT.out]
        exact ⟨rfl, H1.out⟩
      | false =>
        have HF2 : Hid (∀ (j : Nat) y, j < k + 1 → l[j]? = some y → y.2 = false) := Lib.hid (by
          intro j y hj hy
          by_cases e : j = k
          · subst e
            have := HX.out.symm.trans hy
            cases this
            rfl
          · exact HF.out j y (by omega) hy)
        clear HF
        go_wp2_with fail
        go_roundw
        case rel => exact ⟨k + 1, by omega, by go_num, H1.out, HF2⟩
        case measure => simp [intOf]; omega
    · obtain rfl : k = l.length := by omega
      have HT : Hid (twiceL l = -1) := Lib.hid (by unfold twiceL; rw [twice_none HF.out])
      go_wp2_with fail
      go_ret
      rw [HT.out]
      exact ⟨rfl, HB.out⟩

end Go.Proofs.YtgkdjbdcmmegiaaGreatDoor

/- checkParts of package ranges: the check of the list, and then how the parts are written. Conditions: at most 1048576 intervals of 64 bits; the variable errors.errorType holds the type error. -/
namespace Go.Proofs.YtgkdjbdcmmegiaaGreatDoor
open Go.RowKit Go.Shelf

/-- The error of a list as it is written. -/
def cpV (l : List (Iv × Bool)) : Option (Int × Option Int) := match chkV (l.map (·.1)) with
  | some e => some e
  | none => match l.findIdx? (·.2) with
    | some i => some (15, some (i : Int))
    | none => none

set_option maxRecDepth 100000 in
set_option maxHeartbeats 4000000 in
theorem checkParts_any (l : List (Iv × Bool)) (s t : Value) (w : World) (hg : ErrT w) (hs : IvsAt w s (l.map (·.1))) (ht : PartsAt w t l) (h64 : All64 (l.map (·.1))) :
    Calls Tryz.prog 50 #[s, t] w (IsErr (cpV l) w) := by
  have K := Lib.hid (rcheck_any _ s w hg hs h64)
  have KI := Lib.hid (fun W h => idx_any l t W h)
  have HT := Lib.hid ht
  have HC : Hid (cpV l = match chkV (l.map (·.1)) with
    | some e => some e
    | none => match l.findIdx? (·.2) with
      | some i => some (15, some (i : Int))
      | none => none) := Lib.hid rfl
  have HI : Hid (twiceL l = match l.findIdx? (·.2) with
    | some i => i
    | none => -1) := Lib.hid rfl
  clear hg hs ht h64
  generalize cpV l = cv at HC ⊢
  generalize twiceL l = ti at HI KI
  generalize chkV (l.map (·.1)) = ch at K HC
  go_enter Tryz.func50, Tryz.ntmps50
  go_wp2_with fail
  refine K.out.mono ?_
  rintro e w1 ⟨rfl, h1⟩
  have H1 := Lib.hid h1; clear h1
  cases ch with
  | some e =>
    obtain ⟨c, o⟩ := e
    have HC2 := Lib.hid HC.out
    obtain ⟨ty0, u0, hnn⟩ : ∃ t u, errV (some (c, o)) = .iface t u := by cases o <;> exact ⟨_, _, rfl⟩
    have HN := Lib.hid hnn
    rw [hnn]
    clear hnn HC HI
    go_wp2_with fail
    go_ret
    exact ⟨by rw [HC2.out, HN.out]; rfl, H1.out⟩
  | none =>
    rw [show errV none = .nilIface from rfl]
    go_wp2_with fail
    refine (KI.out _ (HT.out.call H1.out)).mono ?_
    rintro e w2 ⟨rfl, h2⟩
    have H2 := Lib.hid (below_call H1.out h2); clear h2
    cases hf : l.findIdx? (·.2) with
    | some i =>
      have e1 : ti = (i : Int) := by have := HI.out; rw [hf] at this; exact this
      have HC2 : Hid (cv = some (15, some (i : Int))) := Lib.hid (by have := HC.out; rw [hf] at this; exact this)
      have KN := Lib.hid (fun W => new_ok 15 (i : Int) W rfl)
      subst e1
      have i1 : (0 : Int) ≤ (i : Int) := by omega
      clear HC HI hf
      go_wp2_with fail
      refine (KN.out _).mono ?_
      rintro e w3 ⟨rfl, rfl⟩
      go_wp2_with fail
      go_ret
      exact ⟨by rw [HC2.out]; rfl, H2.out⟩
    | none =>
      have e1 : ti = -1 := by have := HI.out; rw [hf] at this; exact this
      have HC2 : Hid (cv = none) := Lib.hid (by have := HC.out; rw [hf] at this; exact this)
      subst e1
      clear HC HI hf
      go_wp2_with fail
      go_ret
      exact ⟨by rw [HC2.out]; rfl, H2.out⟩
end Go.Proofs.YtgkdjbdcmmegiaaGreatDoor

/- Parse of package ranges. Conditions: the text has at most 65536 bytes; the tied variables hold what they do. -/
namespace Go.Proofs.YtgkdjbdcmmegiaaGreatDoor
open Go.RowKit Go.Shelf

def partZ (x : List UInt8) : Iv × Bool := match partR x with
  | .ok z => z
  | .error _ => ((0, 0), false)
/-- What a text says: a list, and an error. -/
def parseV (s : List UInt8) : List Iv × Option (Int × Option Int) :=
  if s = [110, 111, 110, 101] then ([], none) else
  match (splitL 44 s).findIdx? (fun x => !partGood x) with
  | some i => ([], some (partE ((splitL 44 s).getD i []), some (i : Int)))
  | none => match cpV ((splitL 44 s).map partZ) with
    | some e => ([], some e)
    | none => (((splitL 44 s).map partZ).map (·.1), none)

theorem partZ_in (x : List UInt8) : In64 (partZ x).1 := by
  unfold partZ
  cases h : partR x with
  | error c => exact ⟨by simp, by simp⟩
  | ok z =>
    unfold partR at h
    split at h
    · split at h
      · rename_i a b ha hb
        cases h
        have h1 := valM_lt _ 0 a (by omega) ha
        have h2 := valM_lt _ 0 b (by omega) hb
        exact ⟨⟨by simp, by simp; omega⟩, ⟨by simp, by simp; omega⟩⟩
      · cases h
    · cases h
theorem partC_at : ∀ (P : List (List UInt8)), (∀ p ∈ P, partGood p = true) → ∀ (i : Nat) z, (P.map partZ)[i]? = some z →
    (P.flatMap partC)[i * 3]? = some (.int .u64 z.1.1) ∧ (P.flatMap partC)[i * 3 + 1]? = some (.int .u64 z.1.2) ∧ (P.flatMap partC)[i * 3 + 2]? = some (.bool z.2) := by
  intro P
  induction P with
  | nil => intro _ i z h; simp at h
  | cons p P ih =>
    intro hg i z hz
    have hp := hg p (by simp)
    obtain ⟨y, hy⟩ : ∃ y, partR p = .ok y := by
      unfold partGood at hp
      split at hp
      · exact ⟨_, by assumption⟩
      · cases hp
    have e : (p :: P).flatMap partC = [.int .u64 y.1.1, .int .u64 y.1.2, .bool y.2] ++ P.flatMap partC := by
      rw [List.flatMap_cons]; unfold partC; rw [hy]
    rw [e]
    cases i with
    | zero =>
      have : z = y := by simpa [partZ, hy] using hz.symm
      subst this
      simp
    | succ i =>
      have := ih (fun q hq => hg q (List.mem_cons_of_mem _ hq)) i z (by simpa using hz)
      have e1 : (i + 1) * 3 = i * 3 + 1 + 1 + 1 := by omega
      rw [e1]
      simpa using this
theorem parts_at {W : World} {B : Nat} {v : Value} {P : List (List UInt8)} (h : W.ownsRow B 76 3 v P.length (P.flatMap partC)) (hg : ∀ p ∈ P, partGood p = true) (hl : P.length ≤ 1048576) : PartsAt W v (P.map partZ) := by
  obtain ⟨p, cap, rfl, _⟩ := own_shape h
  refine ⟨p, cap, by simp, by simpa using hl, fun hne => ?_⟩
  rcases h.2 with ⟨e, h0⟩ | ⟨g, cap', cur, e, _⟩
  · exact absurd (by simpa using h0) hne
  · cases e
    refine ⟨g, rfl, fun i z hz => ?_⟩
    have hi : i < P.length := by simpa using (List.getElem?_eq_some_iff.1 hz).1
    have hc := partC_at P hg i z hz
    refine ⟨?_, ?_, ?_⟩
    · rw [h.cellAt _ (by omega)]; exact hc.1
    · rw [h.cellAt _ (by omega)]; exact hc.2.1
    · rw [h.cellAt _ (by omega)]; exact hc.2.2

/-- The list behind k rounds. -/
structure ListAt (g : Nat) (l : List Iv) (k : Nat) (W wr : World) : Prop where
  done : ∀ (j : Nat) x, j < k → l[j]? = some x → wr.cell? ⟨g, j * 2, none⟩ = some (.int .u64 x.1) ∧ wr.cell? ⟨g, j * 2 + 1, none⟩ = some (.int .u64 x.2)
  todo : ∀ (j : Nat) x, k ≤ j → l[j]? = some x → wr.cell? ⟨g, j * 2, none⟩ = some (.int .u64 0) ∧ wr.cell? ⟨g, j * 2 + 1, none⟩ = some (.int .u64 0)
  free : ∀ o, wr.frozen? ⟨g, o, none⟩ = false
  lt : g < wr.heap.size
  base : W.heap.size ≤ g
  below : Below W.heap.size W wr
theorem ListAt.call {g : Nat} {l : List Iv} {k : Nat} {W w1 w2 : World} (h : ListAt g l k W w1) (hb : Below w1.heap.size w1 w2) : ListAt g l k W w2 :=
  ⟨fun j x hj hx => ⟨keep_cell (h.done j x hj hx).1 hb, keep_cell (h.done j x hj hx).2 hb⟩, fun j x hj hx => ⟨keep_cell (h.todo j x hj hx).1 hb, keep_cell (h.todo j x hj hx).2 hb⟩, fun o => keep_free (h.free o) h.lt hb, Nat.lt_of_lt_of_le h.lt hb.size, h.base, below_call h.below hb⟩
theorem ListAt.round {g : Nat} {l : List Iv} {k : Nat} {x : Iv} {W w1 : World} (h : ListAt g l k W w1) (hx : l[k]? = some x) :
    ListAt g l (k + 1) W ((w1.setCell ⟨g, k * 2, none⟩ (.int .u64 x.1)).setCell ⟨g, k * 2 + 1, none⟩ (.int .u64 x.2)) := by
  have ne : ∀ a b, a ≠ b → (⟨g, a, none⟩ : Addr) ≠ ⟨g, b, none⟩ := fun a b hab e => by injection e with _ e; exact hab e
  have h0 := h.todo k x (Nat.le_refl _) hx
  have far : ∀ o, o ≠ k * 2 → o ≠ k * 2 + 1 → ((w1.setCell ⟨g, k * 2, none⟩ (.int .u64 x.1)).setCell ⟨g, k * 2 + 1, none⟩ (.int .u64 x.2)).cell? ⟨g, o, none⟩ = w1.cell? ⟨g, o, none⟩ := fun o h1 h2 => by
    rw [World.cell?_setCell_other _ _ _ _ (ne _ _ (Ne.symm h2)), World.cell?_setCell_other _ _ _ _ (ne _ _ (Ne.symm h1))]
  refine ⟨fun j y hj hy => ?_, fun j y hj hy => ?_, fun o => by simp [h.free o], by simpa using h.lt, h.base, (h.below.setCell (p := ⟨g, k * 2, none⟩) h.base _).setCell (p := ⟨g, k * 2 + 1, none⟩) h.base _⟩
  · by_cases e : j = k
    · subst e
      rw [hx] at hy
      cases hy
      have k1 : (w1.setCell ⟨g, j * 2, none⟩ (.int .u64 x.1)).cell? ⟨g, j * 2 + 1, none⟩ = some (.int .u64 0) := by rw [World.cell?_setCell_other _ _ _ _ (ne _ _ (by omega))]; exact h0.2
      refine ⟨?_, World.cell?_setCell_same _ _ _ k1⟩
      rw [World.cell?_setCell_other _ _ _ _ (ne _ _ (by omega))]
      exact World.cell?_setCell_same _ _ _ h0.1
    · rw [far _ (by omega) (by omega), far _ (by omega) (by omega)]
      exact h.done j y (by omega) hy
  · rw [far _ (by omega) (by omega), far _ (by omega) (by omega)]
    exact h.todo j y (by omega) hy
theorem ivs_made {w : World} {B g n : Nat} (h : w.ownsRow B 38 2 (.slice (some ⟨g, 0, none⟩) n n) n (madeCells (Value.agg #[.int .u64 0, .int .u64 0]).cells (n * 2)).toList) :
    (∀ j, j < n → w.cell? ⟨g, j * 2, none⟩ = some (.int .u64 0) ∧ w.cell? ⟨g, j * 2 + 1, none⟩ = some (.int .u64 0)) ∧ (∀ o, w.frozen? ⟨g, o, none⟩ = false) ∧ g < w.heap.size := by
  refine ⟨fun j hj => ⟨?_, ?_⟩, fun o => h.frozenAt _, (h.lt g rfl).2⟩
  · rw [h.cellAt _ (by omega)]
    have : j * 2 < n * 2 := by omega
    simp [madeCells, Value.cells, this]
  · rw [h.cellAt _ (by omega)]
    have : j * 2 + 1 < n * 2 := by omega
    have e : (j * 2 + 1) % 2 = 1 := by omega
    simp [madeCells, Value.cells, this, e]
/-- Parse's end. -/
def ParseEnd (x : List Iv × Option (Int × Option Int)) (w : World) (e : Ending) (w' : World) : Prop := ∃ v, e = .returned (.tuple #[v, errV x.2]) ∧ IvsAt w' v x.1 ∧ Below w.heap.size w w'
end Go.Proofs.YtgkdjbdcmmegiaaGreatDoor

/- Parse of package ranges: the walk. Conditions: the text has at most 65536 bytes; the tied variables hold what they do. -/
namespace Go.Proofs.YtgkdjbdcmmegiaaGreatDoor
open Go.RowKit Go.Shelf

set_option maxRecDepth 100000 in
set_option maxHeartbeats 4000000 in
theorem parse_any (s : List UInt8) (hs : s.length ≤ 65536) (w : World) (hg : ErrT w) (hr : RngT w) :
    Calls Tryz.prog 26 #[.string ⟨s.toArray⟩] w (ParseEnd (parseV s) w) := by
  by_cases hnone : s = [110, 111, 110, 101]
  · subst hnone
    have hv : parseV [110, 111, 110, 101] = ([], none) := by unfold parseV; rw [if_pos rfl]
    go_enter Tryz.func26, Tryz.ntmps26
    go_wp2_with fail
    go_ret2
    rw [hv]
    exact ⟨_, rfl, ⟨none, 0, rfl, by simp, fun h => absurd rfl h⟩, Below.refl _ _⟩
  · obtain ⟨i0, hi', hz0, hz1, hz2⟩ := info_parts infoIv
    have hcnt := splitL_count 44 s
    have KE := Lib.hid (eachP_any s 44 (by omega) w hg hr)
    have KX := Lib.hid (fun l s t w hg hs ht h64 => checkParts_any l s t w hg hs ht h64)
    have Hg := Lib.hid hg; clear hg hr
    obtain ⟨S, hS⟩ : ∃ S : ByteArray, ⟨s.toArray⟩ = S := ⟨_, rfl⟩
    have hT : S.toList = s := by rw [ByteArray.toList_eq, ← hS]
    have hZ : (S.toList == [110, 111, 110, 101]) = false := by rw [hT]; simpa using hnone
    have hV : Hid (parseV s = match (splitL 44 s).findIdx? (fun x => !partGood x) with
      | some i => ([], some (partE ((splitL 44 s).getD i []), some (i : Int)))
      | none => match cpV ((splitL 44 s).map partZ) with
        | some e => ([], some e)
        | none => (((splitL 44 s).map partZ).map (·.1), none)) := Lib.hid (by unfold parseV; rw [if_neg hnone]; try rfl)
    rw [hS] at KE ⊢
    clear hnone hT hS
    generalize parseV s = pv at hV ⊢
    obtain ⟨P, hP⟩ : ∃ P, splitL 44 s = P := ⟨_, rfl⟩
    rw [hP] at hV KE hcnt
    clear hP
    go_enter Tryz.func26, Tryz.ntmps26
    go_wp2_with fail
    refine KE.out.mono ?_
    rintro e w1 ⟨h1, (⟨v, rfl, hall, hrow⟩ | ⟨i, x, hx, hbad, hbef, rfl⟩)⟩
    · have H1 := Lib.hid h1; clear h1
      have hfi : P.findIdx? (fun x => !partGood x) = none := by
        rw [List.findIdx?_eq_none_iff]; intro x hx; simp [hall x hx]
      rw [hfi] at hV
      have hpa := parts_at hrow hall (by omega)
      clear hfi hrow hall
      have h64 : All64 ((P.map partZ).map (·.1)) := by
        intro y hy
        rw [List.map_map] at hy
        obtain ⟨q, _, rfl⟩ := List.mem_map.1 hy
        exact partZ_in q
      have hlz : (P.map partZ).length ≤ 1048576 := by simp; omega
      generalize P.map partZ = Z at hpa h64 hV hlz
      have H64 := Lib.hid h64; clear h64
      obtain ⟨pz, cz, rfl, _⟩ := hpa.shape
      obtain ⟨L, hL⟩ : ∃ L, Z.map (·.1) = L := ⟨_, rfl⟩
      have hLl : L.length = Z.length := by rw [← hL]; simp
      have KC : Hid (∀ s W, ErrT W → IvsAt W s L → PartsAt W (.slice pz Z.length cz) Z → Calls Tryz.prog 50 #[s, .slice pz Z.length cz] W (IsErr (cpV Z) W)) := Lib.hid (fun s W hg hs ht => KX.out Z s _ W hg (by rw [hL]; exact hs) ht H64.out)
      rw [hL] at hV
      have HL : Hid (∀ (k : Nat) z, Z[k]? = some z → L[k]? = some z.1) := Lib.hid (fun k z hz => by rw [← hL, List.getElem?_map, hz]; rfl)
      have HPA := Lib.hid hpa; clear hpa KX hcnt hL
      generalize cpV Z = cv at KC hV
      obtain ⟨w2, hmk, hown2, hg2⟩ := run_make_full (P := Tryz.prog) w1 w.heap.size 23 38 i0 (.agg #[.int .u64 0, .int .u64 0]) 2 Tryz.underlying23 hi' hz0 hz1 .i64 .i64 Z.length (by rw [hz2]; omega) (by unfold maxLen; omega) H1.out.size
      have hb2 := nil_grown hg2
      obtain ⟨m1, m2, m3⟩ := ivs_made hown2
      have HT := Lib.hid (show ListAt w1.heap.size L 0 w1 w2 from ⟨fun j x hj _ => absurd hj (Nat.not_lt_zero _), fun j x _ hx => m1 j (by rw [← hLl]; exact (List.getElem?_eq_some_iff.1 hx).1), m2, m3, Nat.le_refl _, hb2⟩)
      clear hown2 hg2 hb2 m1 m2 m3
      go_wp2_with fail
      go_loopw [25] (fun i wr => ∃ k : Nat, k ≤ Z.length ∧ i = .int .i64 k ∧ ListAt w1.heap.size L k w1 wr) (fun i _ => Z.length - (intOf i).toNat)
      case atStart => exact ⟨0, Nat.zero_le _, rfl, HT.out⟩
      case round =>
        obtain ⟨k, hk, rfl, ht⟩ := hrel
        have HR := Lib.hid ht; clear ht
        by_cases hlt : k < Z.length
        · obtain ⟨⟨⟨a, b⟩, t⟩, hx⟩ : ∃ x, Z[k]? = some x := ⟨Z[k], by simp [hlt]⟩
          have hLx := HL.out k _ hx
          have i1 : (0 : Int) ≤ (k : Int) := by omega
          have i2 : (k : Int) < (Z.length : Int) := by omega
          obtain ⟨g, cap', e, hc0, hc1, hc2⟩ := (HPA.out.call HR.out.below).elem hx
          cases e
          have hf0 := HR.out.free (k * 2)
          have hf1 := HR.out.free (k * 2 + 1)
          obtain ⟨d0, d1⟩ := HR.out.todo k _ (Nat.le_refl _) hLx
          have hlw := HR.out.lt
          have HX := Lib.hid hLx; clear hLx hx
          go_wp2_with fail
          go_roundw
          case rel => exact ⟨k + 1, by omega, by go_num, (HR.out.round HX.out).call (below_new _ _)⟩
          case measure => simp [intOf]; omega
        · obtain rfl : k = Z.length := by omega
          have HI : Hid (IvsAt wr (.slice (some ⟨w1.heap.size, 0, none⟩) Z.length Z.length) L) := Lib.hid ⟨_, _, by rw [hLl], by omega, fun _ => ⟨w1.heap.size, 0, rfl, fun i x hx => by
            rw [Nat.zero_add]; exact HR.out.done i x (by rw [← hLl]; exact (List.getElem?_eq_some_iff.1 hx).1) hx⟩⟩
          have HRB := Lib.hid (below_call H1.out HR.out.below)
          go_wp2_with fail
          refine (KC.out _ _ (Hg.out.here HRB.out) HI.out (HPA.out.call HR.out.below)).mono ?_
          rintro e w3 ⟨rfl, h3⟩
          have H3 := Lib.hid h3; clear h3
          cases cv with
          | some e =>
            obtain ⟨c, o⟩ := e
            obtain ⟨ty0, u0, hnn⟩ : ∃ t u, errV (some (c, o)) = .iface t u := by cases o <;> exact ⟨_, _, rfl⟩
            have HN := Lib.hid hnn
            rw [hnn]
            clear hnn
            go_wp2_with fail
            go_ret2
            rw [hV.out]
            exact ⟨.slice none 0 0, by rw [HN.out]; rfl, ⟨none, 0, rfl, by simp, fun h => absurd rfl h⟩, below_call HRB.out H3.out⟩
          | none =>
            rw [show errV none = .nilIface from rfl]
            go_wp2_with fail
            go_ret2
            rw [hV.out]
            exact ⟨_, rfl, HI.out.call H3.out, below_call HRB.out H3.out⟩
    · have H1 := Lib.hid h1; clear h1
      have hfi : P.findIdx? (fun x => !partGood x) = some i := by
        rw [List.findIdx?_eq_some_iff_getElem]
        obtain ⟨hlt, e⟩ := List.getElem?_eq_some_iff.1 hx
        refine ⟨hlt, by rw [e, hbad]; rfl, fun j hj => ?_⟩
        rw [hbef j _ hj (List.getElem?_eq_getElem (Nat.lt_trans hj hlt))]
        simp
      have hgx : P.getD i [] = x := by rw [List.getD_eq_getElem?_getD, hx]; rfl
      have hV2 : Hid (pv = ([], some (partE x, some (i : Int)))) := Lib.hid (by have h := hV.out; rw [hfi] at h; rw [← hgx]; exact h)
      clear hfi hgx hx hbad hbef hV
      unfold faultV
      go_wp2_with fail
      go_ret2
      rw [hV2.out]
      exact ⟨_, rfl, ⟨none, 0, rfl, by simp, fun h => absurd rfl h⟩, H1.out⟩
end Go.Proofs.YtgkdjbdcmmegiaaGreatDoor
