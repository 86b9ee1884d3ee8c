/- The law EntryKeeps in every state, out of what package entry says. Conditions: the contracts of package entry, and the fixed value of errors.errorType. -/
import Derived.Test.YtemhbmcgnmfoaaaGreatDoorNRef
import Derived.Test.YtemhbmcgnmfoaaaGreatDoorRStarts
import Derived.Test.YtemhbmcgnmfoaaaGreatDoorRSearch
import Derived.Test.YtemhbmcgnmfoaaaGreatDoorOSetC
import Derived.WalkMore
namespace Go.Proofs.YtemhbmcgnmfoaaaGreatDoor
open Go.RowKit
/-- A list whose numbers may be written, its block from B up to T. -/
def NumE (w : World) (B T : Nat) (v : Value) (n : Nat) : Prop :=
  ∃ p cap, v = .slice p n cap ∧ n ≤ maxLen ∧ (0 < n → ∃ g o, p = some ⟨g, o, none⟩ ∧ B ≤ g ∧ g < T ∧ ∀ i, i < n →
    ((∃ z : Int, w.cell? ⟨g, o + i * 2, none⟩ = some (.int .u64 z)) ∧ w.frozen? ⟨g, o + i * 2, none⟩ = false) ∧ (∃ z : Int, w.cell? ⟨g, o + i * 2 + 1, none⟩ = some (.int .u64 z)) ∧ w.frozen? ⟨g, o + i * 2 + 1, none⟩ = false)
theorem SoftE.num {w : World} {B : Nat} {v : Value} {n : Nat} (h : SoftE w B v n) : NumE w B w.heap.size v n := by
  obtain ⟨p, cap, h1, h2, h3⟩ := h
  refine ⟨p, cap, h1, h2, fun hn => ?_⟩
  obtain ⟨g, o, h4, h5, h6⟩ := h3 hn
  obtain ⟨⟨⟨z, hz⟩, _⟩, _⟩ := h6 0 hn
  exact ⟨g, o, h4, h5, World.block_lt_of_cell? w _ hz, h6⟩
theorem NumE.call {w w' : World} {B T : Nat} {v : Value} {n : Nat} (h : NumE w B T v n) (hT : T ≤ w.heap.size) (hb : Below w.heap.size w w') : NumE w' B T v n := by
  obtain ⟨p, cap, h1, h2, h3⟩ := h
  refine ⟨p, cap, h1, h2, fun hn => ?_⟩
  obtain ⟨g, o, h4, h5, h6, h7⟩ := h3 hn
  refine ⟨g, o, h4, h5, h6, fun i hi => ?_⟩
  obtain ⟨⟨⟨z, hz⟩, hf⟩, ⟨y, hy⟩, hg⟩ := h7 i hi
  exact ⟨⟨⟨z, keep_cell hz hb⟩, keep_free hf (by show g < _; omega) hb⟩, ⟨y, keep_cell hy hb⟩, keep_free hg (by show g < _; omega) hb⟩
theorem numE_set {w : World} {g g' j j' : Nat} {z : Int} (h : ∃ y : Int, w.cell? ⟨g', j', none⟩ = some (.int .u64 y)) : ∃ y : Int, (w.setCell ⟨g, j, none⟩ (.int .u64 z)).cell? ⟨g', j', none⟩ = some (.int .u64 y) := by
  obtain ⟨y, hy⟩ := h
  by_cases he : g' = g ∧ j' = j
  · obtain ⟨rfl, rfl⟩ := he
    exact ⟨z, by rw [World.cell?_setCell_same' _ _ _ (by rw [hy]; rfl)]⟩
  · exact ⟨y, by rw [World.cell?_setCell_other _ _ _ _ (by intro e2; injection e2 with e3 e4; exact he ⟨e3.symm, e4.symm⟩)]; exact hy⟩
theorem NumE.set {w : World} {B T : Nat} {v : Value} {n : Nat} (h : NumE w B T v n) (g j : Nat) (z : Int) : NumE (w.setCell ⟨g, j, none⟩ (.int .u64 z)) B T v n := by
  obtain ⟨p, cap, h1, h2, h3⟩ := h
  refine ⟨p, cap, h1, h2, fun hn => ?_⟩
  obtain ⟨g', o, h4, h5, h6, h7⟩ := h3 hn
  refine ⟨g', o, h4, h5, h6, fun i hi => ?_⟩
  obtain ⟨⟨hz, hf⟩, hy, hg⟩ := h7 i hi
  exact ⟨⟨numE_set hz, by rw [World.frozen?_setCell]; exact hf⟩, numE_set hy, by rw [World.frozen?_setCell]; exact hg⟩
section
variable {ops : Array Oper} {rest : List Oper} {o : Oper} {a : Act} {Q : Exit → Act → World → Prop}
/-- append_copy for longer lists. -/
theorem append_copyE (hgd : o.guard = none) (s x : Operand) (w0 w : World) (hB : Below w0.heap.size w0 w) (v0 v : Value) (l : List Iv)
    (ho : o.op = .call { callee := .builtin .append, args := #[s, x], argTypes := #[46, 46] })
    (hs : a.eval s = v0) (hx : a.eval x = v) (hown : w.ownsRow w0.heap.size 59 2 v0 0 []) (hv : IvsAt w v l) (hsv : saneV v) (hl : l.length ≤ 10000)
    (h : ∀ v' w', OwnL w' w0.heap.size v' l → Below w0.heap.size w0 w' → wpList Tryz.prog ops Q rest (a.put o.dst v') w') : wpList Tryz.prog ops Q (o :: rest) a w := by
  obtain ⟨i0, hi', hz0, hz1, hz2⟩ := info_parts infoIv
  obtain ⟨p, cap, rfl, _⟩ := hv.shape
  cases p with
  | none =>
    obtain ⟨h1, h2⟩ := hsv _ _ rfl
    obtain rfl : l = [] := List.eq_nil_of_length_eq_zero h1
    subst h2
    refine wpList_plain hgd fun _ hK => ?_
    have hr := run_append_owned_none (P := Tryz.prog) w w0.heap.size 46 o.type 59 i0 2 Tryz.underlying46 hi' v0 0 [] hown
    unfold Oper.wp execOp
    simp only [ho, resolve, invoke, builtin, Sem.run_bind, Sem.run_pure, Result.andThen_ok, List.map_toArray, List.map_cons, List.map_nil, hs, hx, List.length_nil, hr]
    exact hK _ _ (h v0 w hown hB)
  | some ad =>
    have hnews : ∀ j u, (ivC l)[j]? = some u → w.cell? (ad.add j) = some u := by
      intro j u hj
      have hne : l ≠ [] := by rintro rfl; simp [ivC] at hj
      obtain ⟨q, cp, e, _, h3⟩ := hv
      obtain ⟨b, of, e2, _⟩ := h3 hne
      cases e
      cases e2
      exact ivs_cells (cap := cap) (n := l.length) ⟨_, _, rfl, by omega, h3⟩ j u hj
    refine wpList_append_own _ hgd s x 46 ho w0.heap.size 59 i0 (.agg #[.int .u64 0, .int .u64 0]) 2 16 Tryz.underlying46 hi' hz0 hz1 hz2 rfl (by decide) v0 0 [] hs hown ad l.length cap (ivC l) hx (ivC_len l) hnews (ivC_one l) (by unfold maxLen; omega) (by omega) hB.size ?_
    intro v' w' hown' hgrow _
    refine h v' w' ?_ (own_grown hB hown hgrow hB.size)
    unfold OwnL
    rw [Nat.zero_add, List.nil_append] at hown'
    exact hown'
end
theorem sane_row {W : World} {B : Nat} {v : Value} {L : List Iv} (h : OwnL W B v L) : SaneE v := by
  have hrow : W.ownsRow B 59 2 v L.length (ivC L) := h
  rcases hrow.2 with ⟨h1, _⟩ | ⟨g, cap, cur, h1, _, _, hnc, _⟩
  · refine ⟨fun n c e => ?_, fun a n c e => ?_⟩
    · rw [e] at h1; cases h1; exact ⟨rfl, rfl⟩
    · rw [e] at h1; cases h1
  · refine ⟨fun n c e => ?_, fun a n c e => ?_⟩
    · rw [e] at h1; cases h1
    · rw [e] at h1; cases h1; exact hnc
end Go.Proofs.YtemhbmcgnmfoaaaGreatDoor

/- Check of package entry: a list of two closures, called one behind the other. Conditions: as each theorem says. -/
namespace Go.Proofs.YtemhbmcgnmfoaaaGreatDoor
open Go.RowKit
set_option maxRecDepth 100000 in
theorem step1_any (H : List Iv) (s : Value) (b : Nat) (w : World) (hg : ErrT w) (hl : IvsAt w s H) (h64 : All64 H) (hc : w.cell? ⟨b, 2, none⟩ = some s) :
    Calls Tryz.prog 138 #[.pointer (some ⟨b, 0, none⟩)] w (IsErr (chkV H) w) := by
  obtain ⟨p, cap, rfl, _⟩ := hl.shape
  have K := Lib.hid (rcheck_any H _ w hg hl h64)
  clear hg hl h64
  go_enter Tryz.func138, Tryz.ntmps138
  go_wp2_with fail
  refine K.out.mono ?_
  rintro e w1 ⟨rfl, h⟩
  have H1 := Lib.hid h; clear h
  obtain ⟨v, hv⟩ : ∃ v, errV (chkV H) = v := ⟨_, rfl⟩
  rw [hv]
  have HV := Lib.hid hv; clear hv
  go_wp2_with fail
  go_ret
  exact ⟨by rw [HV.out]; rfl, H1.out⟩
set_option maxRecDepth 100000 in
theorem beyond1_any (x1 x2 m : Int) (b : Nat) (w : World) (hc : w.cell? ⟨b, 1, none⟩ = some (.int .u64 m)) :
    Calls Tryz.prog 141 #[.agg #[.int .u64 x1, .int .u64 x2], .pointer (some ⟨b, 0, none⟩)] w (IsEnd (decide (m < x2)) w) := by
  have hb := below_new w (.cells #[.int .u64 x1, .int .u64 x2] 59)
  have hc1 := keep_cell hc hb
  have HB := Lib.hid hb; clear hb hc
  go_enter Tryz.func141, Tryz.ntmps141
  go_wp2_with fail
  go_ret
  exact ⟨rfl, HB.out⟩
/-- The first hole that reaches beyond the greatest counter, or -1. -/
def idxV (m : Int) (H : List Iv) : Int := match beyond m H with | some k => (k : Int) | none => -1
set_option maxRecDepth 100000 in
set_option maxHeartbeats 2000000 in
theorem index_any (m : Int) (H : List Iv) (s : Value) (b : Nat) (w : World) (hl : IvsAt w s H) (hc : w.cell? ⟨b, 1, none⟩ = some (.int .u64 m)) :
    Calls Tryz.prog 140 #[s, .func (.func 141) #[] #[.pointer (some ⟨b, 0, none⟩)]] w (IsInt (idxV m H) w) := by
  obtain ⟨p, cap, rfl, hlen⟩ := hl.shape
  have HL := Lib.hid hl; clear hl
  have K := Lib.hid beyond1_any
  go_enter Tryz.func140, Tryz.ntmps140
  go_wp2_with fail
  go_loopw [8] (fun i wr => ∃ k : Nat, i = .int .i64 k ∧ k ≤ H.length ∧ (∀ j z, j < k → H[j]? = some z → z.2 ≤ m) ∧ Below w.heap.size w wr) (fun i _ => H.length - (intOf i).toNat)
  case atStart => exact ⟨0, rfl, Nat.zero_le _, fun j z hj => absurd hj (Nat.not_lt_zero j), Below.refl _ _⟩
  case round =>
    obtain ⟨k, rfl, hk, hbef, hbr⟩ := hrel
    have HBF := Lib.hid hbef; clear hbef
    have hcr := keep_cell hc hbr
    have HL2 := Lib.hid (HL.out.call hbr)
    have HBR := Lib.hid hbr; clear hbr
    by_cases hlt : k < H.length
    · have hy : H[k]? = some H[k] := by simp [hlt]
      obtain ⟨b1, o, cp, e, c0, c1⟩ := HL2.out.elem hy
      cases e
      have HY := Lib.hid hy; clear hy
      generalize H[k] = y at *
      obtain ⟨y1, y2⟩ := y
      dsimp only at c0 c1
      have i1 : (0 : Int) ≤ (k : Int) := by omega
      have i2 : (k : Int) < (H.length : Int) := by omega
      by_cases hgt : m < y2
      · have e1 : decide (m < y2) = true := by simpa using hgt
        have HZ := Lib.hid (beyond_some HY.out hgt HBF.out)
        clear hgt
        go_wp2_with fail
        refine (K.out y1 y2 m b _ hcr).mono ?_
        rintro e w1 ⟨rfl, h⟩
        have H1 := Lib.hid (below_call HBR.out h); clear h
        rw [e1]
        go_wp2_with fail
        go_ret
        exact ⟨by unfold idxV; rw [HZ.out]; rfl, H1.out⟩
      · have e1 : decide (m < y2) = false := by simpa using hgt
        have HG := Lib.hid hgt; clear hgt
        go_wp2_with fail
        refine (K.out y1 y2 m b _ hcr).mono ?_
        rintro e w1 ⟨rfl, h⟩
        have H1 := Lib.hid (below_call HBR.out h); clear h
        rw [e1]
        go_wp2_with fail
        go_roundw
        case rel => exact ⟨k + 1, by go_num, by omega, fun j z hj hz => by
          rcases Nat.lt_or_eq_of_le (Nat.le_of_lt_succ hj) with h | h
          · exact HBF.out j z h hz
          · subst h
            have := HY.out.symm.trans hz
            obtain rfl := Option.some.inj this
            have := HG.out
            dsimp only
            omega, H1.out⟩
        case measure => simp [intOf]; omega
    · obtain rfl : k = H.length := by omega
      have HZ := Lib.hid (beyond_none fun i y hy => HBF.out i y (List.getElem?_eq_some_iff.1 hy).1 hy)
      go_wp2_with fail
      go_ret
      exact ⟨by unfold idxV; rw [HZ.out]; rfl, HBR.out⟩
/-- The second step's word: the first hole beyond. -/
def bydV (m : Int) (H : List Iv) : Option (Int × Option Int) := (beyond m H).map fun i => (4, some (i : Int))
set_option maxRecDepth 100000 in
set_option maxHeartbeats 2000000 in
theorem step2_any (m : Int) (H : List Iv) (s : Value) (b : Nat) (w : World) (hl : IvsAt w s H) (hm : w.cell? ⟨b, 1, none⟩ = some (.int .u64 m)) (hc : w.cell? ⟨b, 2, none⟩ = some s) :
    Calls Tryz.prog 139 #[.pointer (some ⟨b, 0, none⟩)] w (IsErr (bydV m H) w) := by
  obtain ⟨p, cap, rfl, _⟩ := hl.shape
  have K := Lib.hid (index_any m H _ b w hl hm)
  have KN := Lib.hid new_ok
  clear hl hm
  cases hb : beyond m H with
  | none =>
    have e1 : idxV m H = -1 := by unfold idxV; rw [hb]
    have e2 : bydV m H = none := by unfold bydV; rw [hb]; rfl
    rw [e1] at K; rw [e2]; clear e1 e2 hb
    go_enter Tryz.func139, Tryz.ntmps139
    go_wp2_with fail
    refine K.out.mono ?_
    rintro e w1 ⟨rfl, h⟩
    have H1 := Lib.hid h; clear h
    go_wp2_with fail
    go_ret
    exact ⟨rfl, H1.out⟩
  | some k =>
    have e1 : idxV m H = (k : Int) := by unfold idxV; rw [hb]
    have e2 : bydV m H = some (4, some (k : Int)) := by unfold bydV; rw [hb]; rfl
    rw [e1] at K; rw [e2]; clear e1 e2 hb
    have i1 : (0 : Int) ≤ (k : Int) := by omega
    go_enter Tryz.func139, Tryz.ntmps139
    go_wp2_with fail
    refine K.out.mono ?_
    rintro e w1 ⟨rfl, h⟩
    have H1 := Lib.hid h; clear h
    go_wp2_with fail
    refine (KN.out 4 (k : Int) _ (by decide)).mono ?_
    rintro e w3 ⟨rfl, rfl⟩
    go_wp2_with fail
    go_ret
    exact ⟨rfl, H1.out⟩
/-- The list of the steps of a check, over an entry's block. -/
def IsSteps (r m : Int) (s : Value) (w : World) (e : Ending) (w' : World) : Prop :=
  e = .returned (.slice (some ⟨w.heap.size + 1, 0, none⟩) 2 2) ∧
    w' = (w.alloc (.cells #[.int .u64 r, .int .u64 m, s] 61)).alloc (.cells #[.func (.func 138) #[] #[.pointer (some ⟨w.heap.size, 0, none⟩)], .func (.func 139) #[] #[.pointer (some ⟨w.heap.size, 0, none⟩)]] 160)
set_option maxRecDepth 100000 in
theorem steps_call (r m : Int) (p : Option Addr) (n c : Nat) (w : World) : Calls Tryz.prog 113 #[.agg #[.int .u64 r, .int .u64 m, .slice p n c]] w (IsSteps r m (.slice p n c) w) := by
  go_enter Tryz.func113, Tryz.ntmps113
  go_wp2_with fail
  go_ret
  exact ⟨by simp, by simp⟩
theorem errV_some {x : Option (Int × Option Int)} (h : x ≠ none) : ∃ t v, errV x = .iface t v := by
  match x, h with
  | some (c, none), _ => exact ⟨_, _, rfl⟩
  | some (c, some a), _ => exact ⟨_, _, rfl⟩
theorem steps_cells (W : World) (x y z f h : Value) (t u : TypeId) (g : Nat) (hg : W.heap.size = g) :
    ((W.alloc (.cells #[x, y, z] t)).alloc (.cells #[f, h] u)).cell? ⟨g, 1, none⟩ = some y ∧ ((W.alloc (.cells #[x, y, z] t)).alloc (.cells #[f, h] u)).cell? ⟨g, 2, none⟩ = some z ∧
      ((W.alloc (.cells #[x, y, z] t)).alloc (.cells #[f, h] u)).cell? ⟨g + 1, 0, none⟩ = some f ∧ ((W.alloc (.cells #[x, y, z] t)).alloc (.cells #[f, h] u)).cell? ⟨g + 1, 1, none⟩ = some h := by
  subst hg
  refine ⟨keep_cell (by simp) (below_new _ _), keep_cell (by simp) (below_new _ _), ?_, ?_⟩
  · rw [World.cell?_alloc_at _ _ _ _ (by simp)]; rfl
  · rw [World.cell?_alloc_at _ _ _ _ (by simp)]; rfl
set_option maxRecDepth 100000 in
set_option maxHeartbeats 4000000 in
theorem eCheck_any (r m : Int) (H : List Iv) (s : Value) (w : World) (hg : ErrT w) (ha : AnyAt w s m H) :
    Calls Tryz.prog 82 #[.agg #[.int .u64 r, .int .u64 m, s]] w (IsErr (chkN m H) w) := by
  have hl := ha.at'
  obtain ⟨p, cap, rfl, _⟩ := hl.shape
  have hb := below_new w (.cells #[.int .u64 r, .int .u64 m, .slice p H.length cap] 61)
  have KS := Lib.hid steps_call
  have HB := Lib.hid hb; clear hb
  have HL := Lib.hid hl; clear hl
  have HG := Lib.hid hg; clear hg
  have H64 := Lib.hid ha.all; clear ha
  go_enter Tryz.func82, Tryz.ntmps82
  go_wp2_with fail
  refine (KS.out _ _ _ _ _ _).mono ?_
  rintro e w1 ⟨rfl, hw1⟩
  have hb1 : Below w.heap.size w w1 := hw1 ▸ below_alloc (below_alloc HB.out _) _
  obtain ⟨g, hgs⟩ : ∃ g, (w.alloc (.cells #[.int .u64 r, .int .u64 m, .slice p H.length cap] 61)).heap.size = g := ⟨_, rfl⟩
  have hcs := steps_cells (w.alloc (.cells #[.int .u64 r, .int .u64 m, .slice p H.length cap] 61)) (.int .u64 r) (.int .u64 m) (.slice p H.length cap) (.func (.func 138) #[] #[.pointer (some ⟨g, 0, none⟩)]) (.func (.func 139) #[] #[.pointer (some ⟨g, 0, none⟩)]) 61 160 g hgs
  rw [hgs] at hw1 ⊢
  rw [← hw1] at hcs
  obtain ⟨c1, c2, f0, f1⟩ := hcs
  have HB1 := Lib.hid hb1; clear hb1 hw1 hgs
  go_wp2_with fail
  go_loopw [9] (fun i wr => ∃ k : Nat, i = .int .i64 k ∧ k ≤ 2 ∧ (1 ≤ k → chkV H = none) ∧ (2 ≤ k → beyond m H = none) ∧ Below w1.heap.size w1 wr) (fun i _ => 2 - (intOf i).toNat)
  case atStart => exact ⟨0, rfl, by omega, fun h => absurd h (by omega), fun h => absurd h (by omega), Below.refl _ _⟩
  case round =>
    obtain ⟨k, rfl, hk, hn1, hn2, hbr⟩ := hrel
    have d1 := keep_cell c1 hbr
    have d2 := keep_cell c2 hbr
    have g0 := keep_cell f0 hbr
    have g1 := keep_cell f1 hbr
    have HBR := Lib.hid hbr; clear hbr
    have HW := Lib.hid (below_call HB1.out HBR.out)
    have hcase : k = 0 ∨ k = 1 ∨ k = 2 := by omega
    rcases hcase with rfl | rfl | rfl
    · clear hn1 hn2 hk
      have K := Lib.hid (step1_any H (.slice p H.length cap) g wr (HG.out.here HW.out) (HL.out.call HW.out) H64.out d2)
      go_wp2_with fail
      refine K.out.mono ?_
      rintro e w2 ⟨rfl, h⟩
      have H2 := Lib.hid (below_call HBR.out h); clear h
      cases hc : chkV H with
      | none =>
        rw [show errV none = .nilIface from rfl]
        have HC := Lib.hid hc; clear hc
        go_wp2_with fail
        go_roundw
        case rel => exact ⟨1, by go_num, by omega, fun _ => HC.out, fun h => absurd h (by omega), H2.out⟩
        case measure => simp [intOf]
      | some x =>
        have HX : Hid (chkN m H = some x) := Lib.hid (by unfold chkN; rw [hc])
        obtain ⟨t, v, hv⟩ := errV_some (x := some x) (by simp)
        rw [hv]
        have HV := Lib.hid hv; clear hv hc
        go_wp2_with fail
        go_ret
        exact ⟨by rw [HX.out, HV.out]; rfl, (below_call HB1.out H2.out)⟩
    · have HC := Lib.hid (hn1 (by omega)); clear hn1 hn2 hk
      have K := Lib.hid (step2_any m H (.slice p H.length cap) g wr (HL.out.call HW.out) d1 d2)
      go_wp2_with fail
      refine K.out.mono ?_
      rintro e w2 ⟨rfl, h⟩
      have H2 := Lib.hid (below_call HBR.out h); clear h
      cases hc : beyond m H with
      | none =>
        rw [show bydV m H = none from by unfold bydV; rw [hc]; rfl, show errV none = .nilIface from rfl]
        have HD := Lib.hid hc; clear hc
        go_wp2_with fail
        go_roundw
        case rel => exact ⟨2, by go_num, by omega, fun _ => HC.out, fun _ => HD.out, H2.out⟩
        case measure => simp [intOf]
      | some i =>
        have HX : Hid (chkN m H = some (4, some (i : Int))) := Lib.hid (by unfold chkN; rw [HC.out, hc]; rfl)
        rw [show bydV m H = some (4, some (i : Int)) from by unfold bydV; rw [hc]; rfl]
        obtain ⟨t, v, hv⟩ := errV_some (x := some ((4 : Int), some (i : Int))) (by simp)
        rw [hv]
        have HV := Lib.hid hv; clear hv hc
        go_wp2_with fail
        go_ret
        exact ⟨by rw [HX.out, HV.out]; rfl, (below_call HB1.out H2.out)⟩
    · have HX : Hid (chkN m H = none) := Lib.hid (by unfold chkN; rw [hn1 (by omega), hn2 (by omega)]; rfl)
      clear hn1 hn2 hk
      go_wp2_with fail
      go_ret
      exact ⟨by rw [HX.out]; rfl, HW.out⟩
end Go.Proofs.YtemhbmcgnmfoaaaGreatDoor

/- The contracts of package entry over the developers' code. Conditions: as the structure EntC says. -/
namespace Go.Proofs.YtemhbmcgnmfoaaaGreatDoor
open Go.RowKit
theorem has7 (H : List Iv) (s : Value) (x : Int) (r : Bool) (w : World) (hl : IvsAt w s H) (hc : canon H) (h : hasL H x = r) : Calls Tryz.prog 71 #[s, .int .u64 x] w (IsEnd r w) := h ▸ rhas_any H s x w hl hc
set_option maxRecDepth 100000 in
theorem eHas_any (r m : Int) (H : List Iv) (s : Value) (c : Int) (w : World) (he : EntAt w s m H) (_h0 : 0 ≤ c) (_h1 : c ≤ 18446744073709551615) :
    Calls Tryz.prog 52 #[.agg #[.int .u64 r, .int .u64 m, s], .int .u64 c] w (IsEnd (hasE m H c) w) := by
  have hl := he.any.at'
  obtain ⟨p, cap, rfl, _⟩ := hl.shape
  have hb := below_new w (.cells #[.int .u64 r, .int .u64 m, .slice p H.length cap] 61)
  have HL := Lib.hid (hl.call hb); clear hl
  have HC := Lib.hid he.good.good.can; clear he
  have HB := Lib.hid hb; clear hb
  by_cases hc : c ≤ m
  · have hle : decide (c ≤ m) = true := by simpa using hc
    have K := Lib.hid (rhas_any H _ c _ HL.out HC.out)
    have HE : Hid (hasE m H c = !hasL H c) := Lib.hid (by unfold hasE; rw [hle]; rfl)
    rw [HE.out]
    clear hc HE
    generalize hasL H c = b at *
    go_enter Tryz.func52, Tryz.ntmps52
    go_wp2_with fail
    refine K.out.mono ?_
    rintro e w1 ⟨rfl, h⟩
    have H1 := Lib.hid (below_call HB.out h); clear h
    cases b <;>
    · go_wp2_with fail
      go_ret
      exact ⟨rfl, H1.out⟩
  · have hle : decide (c ≤ m) = false := by simpa using hc
    rw [show hasE m H c = false from by unfold hasE; rw [hle]; rfl]
    clear hc
    go_enter Tryz.func52, Tryz.ntmps52
    go_wp2_with fail
    go_ret
    exact ⟨rfl, HB.out⟩
theorem kn_own {B : Nat} {L : List Iv} {w' : World} {v : Value} (hv : OwnL w' B v L) (hl : L.length ≤ 1048576) : IvsAt w' v L ∧ SaneE v ∧ SoftE w' B v L.length := ⟨hv.ivs hl, sane_row hv, softE_own hv⟩
set_option maxRecDepth 100000 in
theorem eKnown_any (r m : Int) (H : List Iv) (s : Value) (w : World) (he : EntAt w s m H) :
    Calls Tryz.prog 133 #[.agg #[.int .u64 r, .int .u64 m, s]] w (IsKn (knownL m H) w) := by
  obtain ⟨p, cap, rfl, _⟩ := he.any.at'.shape
  have hb := below_new w (.cells #[.int .u64 r, .int .u64 m, .slice p H.length cap] 61)
  have K := Lib.hid (setNot_any H _ 0 m _ (he.op.call hb) he.good.one)
  have HLN : Hid ((knownL m H).length ≤ 1048576) := Lib.hid (by have := known_len (m := m) (H := H); have := he.any.len; omega)
  rw [show subL [(0, m)] H = knownL m H from rfl] at K
  have HB := Lib.hid hb; clear hb he
  go_enter Tryz.func133, Tryz.ntmps133
  go_wp2_with fail
  refine K.out.mono ?_
  rintro e w1 ⟨v, rfl, hv, h⟩
  have HV := Lib.hid hv
  have H1 := Lib.hid h; clear hv h
  go_wp2_with fail
  go_ret
  obtain ⟨k1, k2, k3⟩ := kn_own HV.out HLN.out
  exact ⟨v, rfl, k1, k2, k3.base HB.out.size, below_call HB.out H1.out⟩
set_option maxRecDepth 100000 in
set_option maxHeartbeats 2000000 in
theorem eOf_any (r : Int) (L : List Iv) (s : Value) (w : World) (hL' : LstAt w s L) : Calls Tryz.prog 103 #[.int .u64 r, s] w (IsEO r L w) := by
  have ho := hL'.op
  obtain ⟨p, cap, rfl, _⟩ := ho.at'.shape
  by_cases hL : L = []
  · have hlen : L.length = 0 := by rw [hL]; rfl
    unfold IsEO
    rw [show repE r L = 0 from by simp [repE, hL], show topL L = 0 from by rw [hL]; rfl, show someE L = false from by rw [hL]; rfl, show holesL L = [] from by rw [hL]; rfl]
    rw [hlen]
    clear ho hL' hL hlen
    go_enter Tryz.func103, Tryz.ntmps103
    go_wp2_with fail
    refine bodyPost_ret (v := .tuple #[.agg #[.int .u64 0, .int .u64 0, .slice none 0 0], .bool false]) (by simp [results, Tryz.results103, go_sem]) rfl ?_
    refine ⟨_, rfl, ivs_nil _, sane_nil, soft_nil _ _, ?_⟩
    exact below_new _ _
  · obtain ⟨k, hk⟩ : ∃ k, L.length = k + 1 := ⟨L.length - 1, by have := List.length_pos_iff.2 hL; omega⟩
    obtain ⟨z, hz, ht⟩ := top_at hk
    have htr := top_range ho.good hL
    obtain ⟨b, o, cp, e, _, c1⟩ := ho.at'.elem hz
    cases e
    rw [← ht] at c1
    have hlen := ho.len
    have hlen3 := hL'.len
    have hb := below_new w (.cells #[.int .u64 0, .int .u64 0, .slice none 0 0] 61)
    have c1' := keep_cell c1 hb
    have hgo : GoodL [(0, topL L)] := good_one htr.1 (Int.le_refl _) htr.2
    have hh : subL [(0, topL L)] L = holesL L := by unfold holesL; rw [if_neg hL]
    have km := setNot_any L _ 0 (topL L) _ (ho.call hb) hgo
    rw [hh] at km
    unfold IsEO
    rw [show repE r L = r from by simp [repE, hL], show someE L = true from by unfold someE; cases L with | nil => exact absurd rfl hL | cons _ _ => rfl]
    have K := Lib.hid km; clear km
    have HB := Lib.hid hb; clear hb
    have HHL := Lib.hid (holes_len (L := L))
    rw [hk] at hlen hlen3 HHL K ⊢
    have i0 : ¬ (k : Int) + 1 = 0 := by omega
    have i1 : (0 : Int) ≤ (k : Int) := by omega
    clear ho hL' hL hk hz ht htr c1 hgo hh
    generalize topL L = t at *
    generalize holesL L = G at *
    go_enter Tryz.func103, Tryz.ntmps103
    go_wp2_with fail
    refine K.out.mono ?_
    rintro e w1 ⟨v, rfl, hv, h⟩
    obtain ⟨pv, cv, rfl, _⟩ := own_shape hv
    have HV := Lib.hid hv
    have e0 := keep_cell (p := ⟨w.heap.size, 0, none⟩) (v := .int .u64 0) (by simp) h
    have e1 := keep_cell (p := ⟨w.heap.size, 1, none⟩) (v := .int .u64 0) (by simp) h
    have e2 := keep_cell (p := ⟨w.heap.size, 2, none⟩) (v := .slice none 0 0) (by simp) h
    have f0 := keep_free (p := ⟨w.heap.size, 0, none⟩) (by simp) (by simp) h
    have f1 := keep_free (p := ⟨w.heap.size, 1, none⟩) (by simp) (by simp) h
    have f2 := keep_free (p := ⟨w.heap.size, 2, none⟩) (by simp) (by simp) h
    have H1 := Lib.hid h; clear hv h
    go_wp2_with fail
    have hs3 := three_stored e0 e1 e2 (.int .u64 r) (.int .u64 t) (.slice pv G.length cv)
    refine bodyPost_ret (v := .tuple #[.agg #[.int .u64 r, .int .u64 t, .slice pv G.length cv], .bool true]) (by simp [results, Tryz.results103, go_sem, hs3.1, hs3.2.1, hs3.2.2]) rfl ?_
    have hlt : w.heap.size < (w.alloc (.cells #[.int .u64 0, .int .u64 0, .slice none 0 0] 61)).heap.size := by simp
    have ho := own_set (o := 2) (own_set (o := 1) (own_set (o := 0) HV.out hlt (.int .u64 r)) hlt (.int .u64 t)) hlt (.slice pv G.length cv)
    have hw := own_base (B' := w.heap.size) ho (Nat.le_of_lt hlt)
    obtain ⟨k1, k2, k3⟩ := kn_own hw (by have := HHL.out; omega)
    exact ⟨_, rfl, k1, k2, k3, (((below_call HB.out H1.out).setCell (p := ⟨w.heap.size, 0, none⟩) (Nat.le_refl _) _).setCell (p := ⟨w.heap.size, 1, none⟩) (Nat.le_refl _) _).setCell (p := ⟨w.heap.size, 2, none⟩) (Nat.le_refl _) _⟩
set_option maxRecDepth 100000 in
theorem eCanonical_any (r m : Int) (H : List Iv) (s : Value) (w : World) (hg : ErrT w) (ha : AnyAt w s m H) :
    Calls Tryz.prog 48 #[.agg #[.int .u64 r, .int .u64 m, s]] w (IsEnd (okN m H && canonB m H) w) := by
  have hl := ha.at'
  obtain ⟨p, cap, rfl, _⟩ := hl.shape
  have hb := below_new w (.cells #[.int .u64 r, .int .u64 m, .slice p H.length cap] 61)
  have k := eCheck_any r m H _ _ (hg.here hb) (ha.call hb)
  have HL := Lib.hid (hl.call hb)
  have HI := Lib.hid (okN_iff ha.all ⟨ha.low, ha.top⟩)
  have K := Lib.hid k; clear k hl ha hg
  have HB := Lib.hid hb; clear hb
  unfold canonB
  cases hc : chkN m H with
  | some x =>
    obtain ⟨t, v, hv⟩ := errV_some (x := some x) (by simp)
    rw [hc] at K
    rw [show okN m H = false from by unfold okN; rw [hc]; rfl]
    rw [show IsErr (some x) (w.alloc (.cells #[.int .u64 r, .int .u64 m, .slice p H.length cap] 61)) = fun e w' => e = .returned (.iface t v) ∧ Below (w.alloc (.cells #[.int .u64 r, .int .u64 m, .slice p H.length cap] 61)).heap.size (w.alloc (.cells #[.int .u64 r, .int .u64 m, .slice p H.length cap] 61)) w' from by unfold IsErr; rw [hv]] at K
    clear hc hv HI
    go_enter Tryz.func48, Tryz.ntmps48
    go_wp2_with fail
    refine K.out.mono ?_
    rintro e w1 ⟨rfl, h⟩
    have H1 := Lib.hid (below_call HB.out h); clear h
    go_wp2_with fail
    go_ret
    exact ⟨rfl, H1.out⟩
  | none =>
    have hok : okN m H = true := by unfold okN; rw [hc]; rfl
    have HC := Lib.hid ((HI.out.1 hok).good.can)
    have KH := Lib.hid (fun W h => has7 H (.slice p H.length cap) m (hasL H m) W h HC.out rfl)
    rw [hok]
    generalize hasL H m = b at *
    rw [hc] at K
    clear hc hok HI
    go_enter Tryz.func48, Tryz.ntmps48
    go_wp2_with fail
    refine K.out.mono ?_
    rintro e w1 ⟨rfl, h⟩
    have b0 := keep_cell (p := ⟨w.heap.size, 1, none⟩) (v := .int .u64 m) (by simp) h
    have b1 := keep_cell (p := ⟨w.heap.size, 2, none⟩) (v := .slice p H.length cap) (by simp) h
    have HL1 := Lib.hid (HL.out.call h)
    have H1 := Lib.hid (below_call HB.out h); clear h
    rw [show errV none = .nilIface from rfl]
    go_wp2_with fail
    refine (KH.out _ HL1.out).mono ?_
    rintro e w2 ⟨rfl, h⟩
    have H2 := Lib.hid (below_call H1.out h); clear h
    cases b <;>
    · go_wp2_with fail
      go_ret
      exact ⟨rfl, H2.out⟩
def IsCp7 (L : List Iv) (w : World) (e : Ending) (w' : World) : Prop := ∃ v, e = .returned v ∧ OwnL w' w.heap.size v L ∧ Below w.heap.size w w'
set_option maxRecDepth 100000 in
theorem cloneE_any (l : List Iv) (p : Option Addr) (n cap : Nat) (w : World) (ha : IvsAt w (.slice p n cap) l) (hsv : saneV (.slice p n cap)) (hl : l.length ≤ 10000) : Calls Tryz.prog 61 #[.slice p n cap] w (IsCp7 l w) := by
  obtain ⟨_, _, e, _⟩ := ha.shape
  cases e
  have q22 : ∀ (w : World) (a : Option Addr) (n c n' c' : Nat), (binOp .eql 46 (.slice a n c) (.slice none n' c')).run Tryz.prog w = .ok (.bool a.isNone) w := fun w a n c n' c' => Lib.run_eql_slice_nil w _ _ a n c n' c' Tryz.underlying46
  cases p with
  | none =>
    obtain ⟨h1, rfl⟩ := hsv _ _ rfl
    obtain rfl : l = [] := List.eq_nil_of_length_eq_zero h1
    clear ha hsv hl h1
    go_enter Tryz.func61, Tryz.ntmps61
    go_wp2_with fail
    go_ret
    exact ⟨_, rfl, OwnL.nil _ _, Below.refl _ _⟩
  | some ad =>
    have HA := Lib.hid ha; clear ha
    have HS := Lib.hid hsv; clear hsv
    go_enter Tryz.func61, Tryz.ntmps61
    go_wp2_with (at_builtin; refine append_copyE rfl _ _ w _ (below_new _ _) _ _ l rfl rfl rfl (World.ownsRow_made w #[] 0 (Nat.le_refl _) (Nat.zero_le _) (by simp)) (HA.out.call (below_new _ _)) HS.out hl ?_; intro v' w' ho hb; obtain ⟨q', c', rfl, _⟩ := own_shape ho; have HO := Lib.hid ho; have HB := Lib.hid hb; clear ho hb)
    go_ret
    exact ⟨_, rfl, HO.out, HB.out⟩
end Go.Proofs.YtemhbmcgnmfoaaaGreatDoor
