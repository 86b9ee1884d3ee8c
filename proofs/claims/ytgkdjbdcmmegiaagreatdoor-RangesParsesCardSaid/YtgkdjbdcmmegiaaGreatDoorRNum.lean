/- strconv.ParseUint at base 10 and 64 bits, on a number without leading zeros: its value, or an error if it is too large. Conditions: the variable strconv.ErrRange holds an error. -/
import Derived.Test.YtgkdjbdcmmegiaaGreatDoorREachS
import Derived.Lib.AtoiErrMem
import Derived.Laws.ResultCell
namespace Go.Proofs.YtgkdjbdcmmegiaaGreatDoor
open Go.RowKit Go.Shelf

/-- The value of digits behind others, if it has 64 bits. -/
def valM (acc : Nat) : List UInt8 → Option Nat
  | [] => some acc
  | c :: r => if acc * 10 + (c.toNat - 48) < 18446744073709551616 then valM (acc * 10 + (c.toNat - 48)) r else none
def allDig (s : List UInt8) : Prop := ∀ b ∈ s, 48 ≤ b.toNat ∧ b.toNat ≤ 57
theorem isNum_dig {s : List UInt8} (h : isNum s = true) : s ≠ [] ∧ allDig s := by
  cases s with
  | nil => cases h
  | cons b r =>
    refine ⟨by simp, fun d hd => ?_⟩
    have h2 : ((b :: r).all fun b => 48 ≤ b && b ≤ 57) = true := (Bool.and_eq_true_iff.1 h).2
    have h3 := List.all_eq_true.1 h2 d hd
    simp only [Bool.and_eq_true, decide_eq_true_eq, UInt8.le_iff_toNat_le] at h3
    exact h3
theorem parse_val : ∀ (s : List UInt8) (acc : Nat), allDig s → Lib.parseUintM 18446744073709551615 acc s = match valM acc s with
    | some u => .ok u
    | none => .range := by
  intro s
  induction s with
  | nil => intro acc _; rfl
  | cons c r ih =>
    intro acc h
    have hc := h c (by simp)
    rw [Lib.parseUintM, if_pos hc, valM]
    by_cases h1 : 1844674407370955162 ≤ acc
    · rw [if_pos h1, if_neg (by omega)]
    · rw [if_neg h1]
      by_cases h2 : 18446744073709551615 < acc * 10 + (c.toNat - 48)
      · rw [if_pos h2, if_neg (by omega)]
      · rw [if_neg h2, if_pos (by omega)]
        exact ih _ fun b hb => h b (List.mem_cons_of_mem _ hb)
theorem valM_lt : ∀ (s : List UInt8) (acc u : Nat), acc < 18446744073709551616 → valM acc s = some u → u < 18446744073709551616 := by
  intro s
  induction s with
  | nil => intro acc u h e; cases e; exact h
  | cons c r ih =>
    intro acc u h e
    rw [valM] at e
    split at e
    · exact ih _ u (by assumption) e
    · cases e
theorem parse_numB {s : List UInt8} (h : isNum s = true) : Lib.parseUintB 64 s = match valM 0 s with
    | some u => .ok u
    | none => .range := by
  obtain ⟨h1, h2⟩ := isNum_dig h
  unfold Lib.parseUintB
  rw [if_neg h1]
  exact parse_val s 0 h2

/-- The variable ErrRange holds an error, and keeps it. -/
def RngT (w : World) : Prop := ∀ W, Below w.heap.size w W → ∃ tp p, W.var? Tryz.prog "strconv.ErrRange" = some #[.iface tp p]
theorem RngT.here {w w' : World} (h : RngT w) (hb : Below w.heap.size w w') : RngT w' := fun W hW => h W (hb.trans (hW.mono hb.size))
/-- What ParseUint hands back. -/
def NumEnd' (s : List UInt8) (w : World) (e : Ending) (w' : World) : Prop := Below w.heap.size w w' ∧ match valM 0 s with
  | some u => e = .returned (.tuple #[.int .u64 u, .nilIface])
  | none => ∃ t v, e = .returned (.tuple #[.int .u64 18446744073709551615, .iface t v])

theorem num_any (s : List UInt8) (hs : s.length ≤ 1048576) (hn : isNum s = true) (w : World) (hr : RngT w) :
    Calls Tryz.prog 72 #[.string ⟨s.toArray⟩, .int .i64 10, .int .i64 64] w (NumEnd' s w) := by
  have hsz : (⟨s.toArray⟩ : ByteArray).size = s.length := by simp [ByteArray.size]
  have hp : Lib.parseUintB 64 (⟨s.toArray⟩ : ByteArray).data.toList = match valM 0 s with
    | some u => .ok u
    | none => .range := by simpa using parse_numB hn
  unfold NumEnd'
  cases hv : valM 0 s with
  | some u =>
    rw [hv] at hp
    refine (Tryz.strconv_ParseUint_10_at64_ok ⟨s.toArray⟩ (by omega) u hp w).mono ?_
    rintro e w' ⟨rfl, rfl | rfl⟩
    · exact ⟨Below.refl _ _, rfl⟩
    · exact ⟨Lib.bytesWorld_below _ _ _, rfl⟩
  | none =>
    rw [hv] at hp
    obtain ⟨tp, p, hvar⟩ := hr w (Below.refl _ _)
    refine (Tryz.strconv_ParseUint_10_at64_range_var ⟨s.toArray⟩ (by omega) hp tp p w hvar).mono ?_
    rintro e w' ⟨N, rfl, _, _, hb⟩
    exact ⟨hb, _, _, rfl⟩
end Go.Proofs.YtgkdjbdcmmegiaaGreatDoor

/- partOf of package ranges: an interval as it is written. Conditions: the text has at most 2^20 bytes; the tied variables hold what they do. -/
namespace Go.Proofs.YtgkdjbdcmmegiaaGreatDoor
open Go.RowKit Go.Shelf Go.ChangeShapes Go.WideShapes

/-- What the text of a part says: the interval and whether it is written with a hyphen between equal numbers; or an error. -/
def partR (s : List UInt8) : Except Int (Iv × Bool) :=
  if (∀ p ∈ splitL 45 s, isNum p = true) ∧ (splitL 45 s).length ≤ 2 then
    match valM 0 ((splitL 45 s).headD []), valM 0 ((splitL 45 s).getLastD []) with
    | some a, some b => .ok (((a : Int), (b : Int)), decide ((splitL 45 s).length = 2 ∧ a = b))
    | _, _ => .error 8
  else .error 15
def partVal (x : Iv × Bool) : Value := .agg #[.int .u64 x.1.1, .int .u64 x.1.2, .bool x.2]
def PartEnd (s : List UInt8) (w : World) (e : Ending) (w' : World) : Prop := Below w.heap.size w w' ∧ match partR s with
  | .ok x => e = .returned (.tuple #[partVal x, .nilIface])
  | .error c => ∃ o, e = .returned (.tuple #[partVal ((0, 0), false), errV (some (c, o))])

theorem strC_map : ∀ P : List (List UInt8), P.flatMap strC = P.map fun x => Value.string ⟨x.toArray⟩ := by
  intro P
  induction P with
  | nil => rfl
  | cons a r ih => rw [List.flatMap_cons, ih]; rfl
/-- Strings in memory, as a loop has built them. -/
theorem strs_at {W : World} {B : Nat} {v : Value} {P : List (List UInt8)} (h : W.ownsRow B 9 1 v P.length (P.flatMap strC)) (hne : P ≠ []) :
    ∃ g cap, v = .slice (some ⟨g, 0, none⟩) P.length cap ∧ ∀ (i : Nat) x, P[i]? = some x → W.cell? ⟨g, i, none⟩ = some (.string ⟨x.toArray⟩) := by
  have hpos : 0 < P.length := List.length_pos_iff.2 hne
  obtain ⟨p, cap, rfl, _⟩ := own_shape h
  rcases h.2 with ⟨e, h0⟩ | ⟨g, cap', cur, e, _⟩
  · omega
  · cases e
    refine ⟨g, cap, rfl, fun i x hx => ?_⟩
    have hi : i < P.length := (List.getElem?_eq_some_iff.1 hx).1
    rw [h.cellAt _ (by omega)]
    have e1 := strC_map P
    rw [e1, List.getElem?_map, hx]
    rfl
theorem loadP {W : World} {b : Nat} {x : Iv × Bool} (h0 : W.cell? ⟨b, 0, none⟩ = some (.int .u64 x.1.1)) (h1 : W.cell? ⟨b, 1, none⟩ = some (.int .u64 x.1.2)) (h2 : W.cell? ⟨b, 2, none⟩ = some (.bool x.2)) :
    (loadVar 76 ⟨b, 0, none⟩).run Tryz.prog W = .ok (partVal x) W := by
  unfold partVal
  have h3 := Tryz.isAgg76
  go_simp

theorem results_cell_tmp' {fn : Func} {p u : Tmp} {ty : TypeId} (h : fn.results = #[.cell p ty, .tmp u]) (tmps : Array Value) (P : Program) (w : World) (a : Addr) (x : Value) (hp : tmps.getD p undef = .pointer (some a)) (hx : (loadVar ty a).run P w = .ok x w) :
    (results fn tmps).run P w = .ok (.tuple #[x, tmps.getD u undef]) w := by
  have h1 : (asAddr (tmps.getD p undef)).run P w = .ok a w := by rw [hp]; rfl
  rw [results_cell_tmp h, h1]
  simp [Result.andThen, hx]
theorem three_at {W : World} {b : Nat} {a0 a1 a2 : Value} (y0 y1 y2 : Value) (c0 : W.cell? ⟨b, 0, none⟩ = some a0) (c1 : W.cell? ⟨b, 1, none⟩ = some a1) (c2 : W.cell? ⟨b, 2, none⟩ = some a2) :
    (((W.setCell ⟨b, 0, none⟩ y0).setCell ⟨b, 1, none⟩ y1).setCell ⟨b, 2, none⟩ y2).cell? ⟨b, 0, none⟩ = some y0 ∧
    (((W.setCell ⟨b, 0, none⟩ y0).setCell ⟨b, 1, none⟩ y1).setCell ⟨b, 2, none⟩ y2).cell? ⟨b, 1, none⟩ = some y1 ∧
    (((W.setCell ⟨b, 0, none⟩ y0).setCell ⟨b, 1, none⟩ y1).setCell ⟨b, 2, none⟩ y2).cell? ⟨b, 2, none⟩ = some y2 := by
  have k1 : (W.setCell ⟨b, 0, none⟩ y0).cell? ⟨b, 1, none⟩ = some a1 := by rw [World.cell?_setCell_other _ _ _ _ (by simp)]; exact c1
  have k2 : ((W.setCell ⟨b, 0, none⟩ y0).setCell ⟨b, 1, none⟩ y1).cell? ⟨b, 2, none⟩ = some a2 := by rw [World.cell?_setCell_other _ _ _ _ (by simp), World.cell?_setCell_other _ _ _ _ (by simp)]; exact c2
  refine ⟨?_, ?_, World.cell?_setCell_same _ _ _ k2⟩
  · rw [World.cell?_setCell_other _ _ _ _ (by simp), World.cell?_setCell_other _ _ _ _ (by simp)]; exact World.cell?_setCell_same _ _ _ c0
  · rw [World.cell?_setCell_other _ _ _ _ (by simp)]; exact World.cell?_setCell_same _ _ _ k1
/-- The end: three cells are stored, and the result is handed back. -/
theorem part_ret {s : List UInt8} {tmps : Array Value} {w W : World} {b : Nat} {y0 y1 : Int} {y2 : Bool} {a0 a1 a2 : Value} {ev : Value} (hR : ∀ W', Below w.heap.size w W' → PartEnd s w (.returned (.tuple #[partVal ((y0, y1), y2), ev])) W')
    (c0 : W.cell? ⟨b, 0, none⟩ = some a0) (c1 : W.cell? ⟨b, 1, none⟩ = some a1) (c2 : W.cell? ⟨b, 2, none⟩ = some a2) (hb : Below w.heap.size w W) (hwb : w.heap.size ≤ b)
    (hp : tmps.getD 2 undef = .pointer (some ⟨b, 0, none⟩)) (hu : tmps.getD 3 undef = ev) :
    bodyPost Tryz.prog Tryz.f49 (PartEnd s w) .ret { tmps, defers := [] } (((W.setCell ⟨b, 0, none⟩ (.int .u64 y0)).setCell ⟨b, 1, none⟩ (.int .u64 y1)).setCell ⟨b, 2, none⟩ (.bool y2)) := by
  obtain ⟨h0, h1, h2⟩ := three_at (.int .u64 y0) (.int .u64 y1) (.bool y2) c0 c1 c2
  have hl := results_cell_tmp' (fn := Tryz.f49) (p := 2) (u := 3) rfl tmps Tryz.prog _ _ _ hp (loadP (x := ((y0, y1), y2)) h0 h1 h2)
  rw [hu] at hl
  exact bodyPost_ret hl rfl (hR _ (below_set (below_set (below_set hb hwb _ _) hwb _ _) hwb _ _))

set_option maxRecDepth 100000 in
set_option maxHeartbeats 4000000 in
theorem partOf_any (s : List UInt8) (hs : s.length ≤ 1048576) (w : World) (hg : ErrT w) (hr : RngT w) :
    Calls Tryz.prog 49 #[.string ⟨s.toArray⟩] w (PartEnd s w) := by
  have hn := below_new w (.cells #[.int .u64 0, .int .u64 0, .bool false] 76)
  have KE := Lib.hid (fun W hg => eachS_any s 45 hs W hg)
  have HN := Lib.hid hn; clear hn
  have Hg := Lib.hid hg; clear hg
  have Hr := Lib.hid hr; clear hr
  go_enter Tryz.func49, Tryz.ntmps49
  go_wp2_with fail
  refine (KE.out _ (Hg.out.here HN.out)).mono ?_
  rintro e w1 ⟨hb1, hE⟩
  have H1 := Lib.hid (below_call HN.out hb1)
  have c0 : w1.cell? ⟨w.heap.size, 0, none⟩ = some (.int .u64 0) := keep_cell (by simp) hb1
  have c1 : w1.cell? ⟨w.heap.size, 1, none⟩ = some (.int .u64 0) := keep_cell (by simp) hb1
  have c2 : w1.cell? ⟨w.heap.size, 2, none⟩ = some (.bool false) := keep_cell (by simp) hb1
  have f0 : w1.frozen? ⟨w.heap.size, 0, none⟩ = false := keep_free (by simp) (by simp) hb1
  have f1 : w1.frozen? ⟨w.heap.size, 1, none⟩ = false := keep_free (by simp) (by simp) hb1
  have f2 : w1.frozen? ⟨w.heap.size, 2, none⟩ = false := keep_free (by simp) (by simp) hb1
  have hsz : w.heap.size < w1.heap.size := by have := hb1.size; simp at this; omega
  rcases hE with ⟨v, rfl, hall, hrow⟩ | ⟨i, x, hx, hbad, _, rfl⟩
  · have hne := splitL_ne 45 s
    obtain ⟨g, cap, rfl, hcs⟩ := strs_at hrow hne
    have hpl := fun p hp => Nat.le_trans (splitL_part 45 s p hp) hs
    clear hrow hb1
    obtain ⟨P, hP⟩ : ∃ P, splitL 45 s = P := ⟨_, rfl⟩
    rw [hP] at hall hcs hpl hne ⊢
    match P, hne with
    | [x], _ =>
      have KX := Lib.hid (fun W hr => num_any x (hpl x (by simp)) (hall x (by simp)) W hr)
      have s0 := hcs 0 x rfl
      have hq : partR s = match valM 0 x, valM 0 x with
        | some a, some b => .ok (((a : Int), (b : Int)), decide (1 = 2 ∧ a = b))
        | _, _ => .error 8 := by unfold partR; rw [hP, if_pos ⟨hall, by simp⟩]; rfl
      have HPQ := Lib.hid hq
      clear hq hcs hpl hall hP
      cases hvx : valM 0 x with
      | some u =>
        have HVx := Lib.hid hvx
        have HPR : Hid (∀ W', Below w.heap.size w W' → PartEnd s w (.returned (.tuple #[partVal (((u : Int), (u : Int)), false), .nilIface])) W') := Lib.hid (fun W' hb => ⟨hb, by rw [HPQ.out, hvx]; rfl⟩)
        clear hvx
        go_wp2_with fail
        refine (KX.out _ (Hr.out.here H1.out)).mono ?_
        rintro e w2 ⟨hb2, hE2⟩
        simp only [HVx.out] at hE2
        subst hE2
        have H2 := Lib.hid (below_call H1.out hb2)
        replace c0 := keep_cell c0 hb2
        replace c1 := keep_cell c1 hb2
        replace c2 := keep_cell c2 hb2
        replace s0 := keep_cell s0 hb2
        replace f0 := keep_free f0 hsz hb2
        replace f1 := keep_free f1 hsz hb2
        replace f2 := keep_free f2 hsz hb2
        replace hsz := Nat.lt_of_lt_of_le hsz hb2.size
        clear hb2
        go_wp2_with fail
        refine (KX.out _ (Hr.out.here H2.out)).mono ?_
        rintro e w3 ⟨hb3, hE3⟩
        simp only [HVx.out] at hE3
        subst hE3
        have H3 := Lib.hid (below_call H2.out hb3)
        replace c0 := keep_cell c0 hb3
        replace c1 := keep_cell c1 hb3
        replace c2 := keep_cell c2 hb3
        replace s0 := keep_cell s0 hb3
        replace f0 := keep_free f0 hsz hb3
        replace f1 := keep_free f1 hsz hb3
        replace f2 := keep_free f2 hsz hb3
        replace hsz := Nat.lt_of_lt_of_le hsz hb3.size
        clear hb3
        go_wp2_with fail
        exact part_ret (ev := .nilIface) HPR.out c0 c1 c2 H3.out (Nat.le_refl _) rfl rfl
      | none =>
        have HVx := Lib.hid hvx
        have HPR : Hid (∀ W', Below w.heap.size w W' → PartEnd s w (.returned (.tuple #[partVal ((0, 0), false), errV (some (8, none))])) W') := Lib.hid (fun W' hb => ⟨hb, by rw [HPQ.out, hvx]; exact ⟨_, rfl⟩⟩)
        clear hvx
        go_wp2_with fail
        refine (KX.out _ (Hr.out.here H1.out)).mono ?_
        rintro e w2 ⟨hb2, hE2⟩
        simp only [HVx.out] at hE2
        obtain ⟨t2, q2, rfl⟩ := hE2
        have H2 := Lib.hid (below_call H1.out hb2)
        replace c0 := keep_cell c0 hb2
        replace c1 := keep_cell c1 hb2
        replace c2 := keep_cell c2 hb2
        replace s0 := keep_cell s0 hb2
        replace f0 := keep_free f0 hsz hb2
        replace f1 := keep_free f1 hsz hb2
        replace f2 := keep_free f2 hsz hb2
        replace hsz := Nat.lt_of_lt_of_le hsz hb2.size
        clear hb2
        go_wp2_with fail
        refine (KX.out _ (Hr.out.here H2.out)).mono ?_
        rintro e w3 ⟨hb3, hE3⟩
        simp only [HVx.out] at hE3
        obtain ⟨t3, q3, rfl⟩ := hE3
        have H3 := Lib.hid (below_call H2.out hb3)
        replace c0 := keep_cell c0 hb3
        replace c1 := keep_cell c1 hb3
        replace c2 := keep_cell c2 hb3
        replace s0 := keep_cell s0 hb3
        replace f0 := keep_free f0 hsz hb3
        replace f1 := keep_free f1 hsz hb3
        replace f2 := keep_free f2 hsz hb3
        replace hsz := Nat.lt_of_lt_of_le hsz hb3.size
        clear hb3
        go_wp2_with fail
        exact part_ret (ev := errV (some (8, none))) HPR.out c0 c1 c2 H3.out (Nat.le_refl _) rfl rfl
    | [x, y], _ =>
      have KX := Lib.hid (fun W hr => num_any x (hpl x (by simp)) (hall x (by simp)) W hr)
      have KY := Lib.hid (fun W hr => num_any y (hpl y (by simp)) (hall y (by simp)) W hr)
      have s0 := hcs 0 x rfl
      have s1 := hcs 1 y rfl
      have hq : partR s = match valM 0 x, valM 0 y with
        | some a, some b => .ok (((a : Int), (b : Int)), decide (2 = 2 ∧ a = b))
        | _, _ => .error 8 := by unfold partR; rw [hP, if_pos ⟨hall, by simp⟩]; rfl
      have HPQ := Lib.hid hq
      clear hq hcs hpl hall hP
      cases hvx : valM 0 x with
      | some u =>
        cases hvy : valM 0 y with
        | some v =>
          have HVx := Lib.hid hvx
          have HVy := Lib.hid hvy
          have HPR : Hid (∀ W', Below w.heap.size w W' → PartEnd s w (.returned (.tuple #[partVal (((u : Int), (v : Int)), decide ((u : Int) = v)), .nilIface])) W') := Lib.hid (fun W' hb => ⟨hb, by
            rw [HPQ.out, hvx, hvy]
            have e : decide (2 = 2 ∧ u = v) = decide ((u : Int) = v) := decide_eq_decide.2 ⟨fun h => by omega, fun h => ⟨rfl, by omega⟩⟩
            show Ending.returned (.tuple #[partVal (((u : Int), (v : Int)), decide ((u : Int) = v)), .nilIface]) = Ending.returned (.tuple #[partVal (((u : Int), (v : Int)), decide (2 = 2 ∧ u = v)), .nilIface])
            rw [e]⟩)
          clear hvx hvy
          go_wp2_with fail
          refine (KX.out _ (Hr.out.here H1.out)).mono ?_
          rintro e w2 ⟨hb2, hE2⟩
          simp only [HVx.out] at hE2
          subst hE2
          have H2 := Lib.hid (below_call H1.out hb2)
          replace c0 := keep_cell c0 hb2
          replace c1 := keep_cell c1 hb2
          replace c2 := keep_cell c2 hb2
          replace s0 := keep_cell s0 hb2
          replace s1 := keep_cell s1 hb2
          replace f0 := keep_free f0 hsz hb2
          replace f1 := keep_free f1 hsz hb2
          replace f2 := keep_free f2 hsz hb2
          replace hsz := Nat.lt_of_lt_of_le hsz hb2.size
          clear hb2
          go_wp2_with fail
          refine (KY.out _ (Hr.out.here H2.out)).mono ?_
          rintro e w3 ⟨hb3, hE3⟩
          simp only [HVy.out] at hE3
          subst hE3
          have H3 := Lib.hid (below_call H2.out hb3)
          replace c0 := keep_cell c0 hb3
          replace c1 := keep_cell c1 hb3
          replace c2 := keep_cell c2 hb3
          replace s0 := keep_cell s0 hb3
          replace s1 := keep_cell s1 hb3
          replace f0 := keep_free f0 hsz hb3
          replace f1 := keep_free f1 hsz hb3
          replace f2 := keep_free f2 hsz hb3
          replace hsz := Nat.lt_of_lt_of_le hsz hb3.size
          clear hb3
          go_wp2_with fail
          exact part_ret (ev := .nilIface) HPR.out c0 c1 c2 H3.out (Nat.le_refl _) rfl rfl
        | none =>
          have HVx := Lib.hid hvx
          have HVy := Lib.hid hvy
          have HPR : Hid (∀ W', Below w.heap.size w W' → PartEnd s w (.returned (.tuple #[partVal ((0, 0), false), errV (some (8, none))])) W') := Lib.hid (fun W' hb => ⟨hb, by rw [HPQ.out, hvx, hvy]; exact ⟨_, rfl⟩⟩)
          clear hvx hvy
          go_wp2_with fail
          refine (KX.out _ (Hr.out.here H1.out)).mono ?_
          rintro e w2 ⟨hb2, hE2⟩
          simp only [HVx.out] at hE2
          subst hE2
          have H2 := Lib.hid (below_call H1.out hb2)
          replace c0 := keep_cell c0 hb2
          replace c1 := keep_cell c1 hb2
          replace c2 := keep_cell c2 hb2
          replace s0 := keep_cell s0 hb2
          replace s1 := keep_cell s1 hb2
          replace f0 := keep_free f0 hsz hb2
          replace f1 := keep_free f1 hsz hb2
          replace f2 := keep_free f2 hsz hb2
          replace hsz := Nat.lt_of_lt_of_le hsz hb2.size
          clear hb2
          go_wp2_with fail
          refine (KY.out _ (Hr.out.here H2.out)).mono ?_
          rintro e w3 ⟨hb3, hE3⟩
          simp only [HVy.out] at hE3
          obtain ⟨t3, q3, rfl⟩ := hE3
          have H3 := Lib.hid (below_call H2.out hb3)
          replace c0 := keep_cell c0 hb3
          replace c1 := keep_cell c1 hb3
          replace c2 := keep_cell c2 hb3
          replace s0 := keep_cell s0 hb3
          replace s1 := keep_cell s1 hb3
          replace f0 := keep_free f0 hsz hb3
          replace f1 := keep_free f1 hsz hb3
          replace f2 := keep_free f2 hsz hb3
          replace hsz := Nat.lt_of_lt_of_le hsz hb3.size
          clear hb3
          go_wp2_with fail
          exact part_ret (ev := errV (some (8, none))) HPR.out c0 c1 c2 H3.out (Nat.le_refl _) rfl rfl
      | none =>
        cases hvy : valM 0 y with
        | some v =>
          have HVx := Lib.hid hvx
          have HVy := Lib.hid hvy
          have HPR : Hid (∀ W', Below w.heap.size w W' → PartEnd s w (.returned (.tuple #[partVal ((0, 0), false), errV (some (8, none))])) W') := Lib.hid (fun W' hb => ⟨hb, by rw [HPQ.out, hvx]; exact ⟨_, rfl⟩⟩)
          clear hvx hvy
          go_wp2_with fail
          refine (KX.out _ (Hr.out.here H1.out)).mono ?_
          rintro e w2 ⟨hb2, hE2⟩
          simp only [HVx.out] at hE2
          obtain ⟨t2, q2, rfl⟩ := hE2
          have H2 := Lib.hid (below_call H1.out hb2)
          replace c0 := keep_cell c0 hb2
          replace c1 := keep_cell c1 hb2
          replace c2 := keep_cell c2 hb2
          replace s0 := keep_cell s0 hb2
          replace s1 := keep_cell s1 hb2
          replace f0 := keep_free f0 hsz hb2
          replace f1 := keep_free f1 hsz hb2
          replace f2 := keep_free f2 hsz hb2
          replace hsz := Nat.lt_of_lt_of_le hsz hb2.size
          clear hb2
          go_wp2_with fail
          refine (KY.out _ (Hr.out.here H2.out)).mono ?_
          rintro e w3 ⟨hb3, hE3⟩
          simp only [HVy.out] at hE3
          subst hE3
          have H3 := Lib.hid (below_call H2.out hb3)
          replace c0 := keep_cell c0 hb3
          replace c1 := keep_cell c1 hb3
          replace c2 := keep_cell c2 hb3
          replace s0 := keep_cell s0 hb3
          replace s1 := keep_cell s1 hb3
          replace f0 := keep_free f0 hsz hb3
          replace f1 := keep_free f1 hsz hb3
          replace f2 := keep_free f2 hsz hb3
          replace hsz := Nat.lt_of_lt_of_le hsz hb3.size
          clear hb3
          go_wp2_with fail
          exact part_ret (ev := errV (some (8, none))) HPR.out c0 c1 c2 H3.out (Nat.le_refl _) rfl rfl
        | none =>
          have HVx := Lib.hid hvx
          have HVy := Lib.hid hvy
          have HPR : Hid (∀ W', Below w.heap.size w W' → PartEnd s w (.returned (.tuple #[partVal ((0, 0), false), errV (some (8, none))])) W') := Lib.hid (fun W' hb => ⟨hb, by rw [HPQ.out, hvx]; exact ⟨_, rfl⟩⟩)
          clear hvx hvy
          go_wp2_with fail
          refine (KX.out _ (Hr.out.here H1.out)).mono ?_
          rintro e w2 ⟨hb2, hE2⟩
          simp only [HVx.out] at hE2
          obtain ⟨t2, q2, rfl⟩ := hE2
          have H2 := Lib.hid (below_call H1.out hb2)
          replace c0 := keep_cell c0 hb2
          replace c1 := keep_cell c1 hb2
          replace c2 := keep_cell c2 hb2
          replace s0 := keep_cell s0 hb2
          replace s1 := keep_cell s1 hb2
          replace f0 := keep_free f0 hsz hb2
          replace f1 := keep_free f1 hsz hb2
          replace f2 := keep_free f2 hsz hb2
          replace hsz := Nat.lt_of_lt_of_le hsz hb2.size
          clear hb2
          go_wp2_with fail
          refine (KY.out _ (Hr.out.here H2.out)).mono ?_
          rintro e w3 ⟨hb3, hE3⟩
          simp only [HVy.out] at hE3
          obtain ⟨t3, q3, rfl⟩ := hE3
          have H3 := Lib.hid (below_call H2.out hb3)
          replace c0 := keep_cell c0 hb3
          replace c1 := keep_cell c1 hb3
          replace c2 := keep_cell c2 hb3
          replace s0 := keep_cell s0 hb3
          replace s1 := keep_cell s1 hb3
          replace f0 := keep_free f0 hsz hb3
          replace f1 := keep_free f1 hsz hb3
          replace f2 := keep_free f2 hsz hb3
          replace hsz := Nat.lt_of_lt_of_le hsz hb3.size
          clear hb3
          go_wp2_with fail
          exact part_ret (ev := errV (some (8, none))) HPR.out c0 c1 c2 H3.out (Nat.le_refl _) rfl rfl
    | x :: y :: z :: r, _ =>
      have HPR : Hid (∀ W', Below w.heap.size w W' → PartEnd s w (.returned (.tuple #[partVal ((0, 0), false), errV (some (15, none))])) W') := Lib.hid (fun W' hb => ⟨hb, by
        unfold partR
        rw [hP, if_neg (by simp)]
        exact ⟨_, rfl⟩⟩)
      have hl : (2 : Int) < ((x :: y :: z :: r).length : Int) := by simp; omega
      clear hcs hpl hall hP
      generalize (x :: y :: z :: r).length = n at hl ⊢
      go_wp2_with fail
      exact part_ret (ev := errV (some (15, none))) HPR.out c0 c1 c2 H1.out (Nat.le_refl _) rfl rfl
  · have HP : Hid (partR s = .error 15) := Lib.hid (by
      unfold partR
      rw [if_neg]
      intro h
      have := h.1 x (List.mem_of_getElem? hx)
      rw [hbad] at this
      cases this)
    clear hb1
    go_wp2_with fail
    exact part_ret (ev := errV (some (15, some (i : Int)))) (fun W' hb => ⟨hb, by rw [HP.out]; exact ⟨_, rfl⟩⟩) c0 c1 c2 H1.out (Nat.le_refl _) rfl rfl
end Go.Proofs.YtgkdjbdcmmegiaaGreatDoor
