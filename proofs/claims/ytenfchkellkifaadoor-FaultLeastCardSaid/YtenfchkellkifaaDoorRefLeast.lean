/- The reference's Least, for a slice of descriptions in memory. No conditions. -/
import Derived.Test.YtenfchkellkifaaDoorLeast
namespace Go.Proofs.YtenfchkellkifaaDoor
open Go.RowKit Go.Extern.Stop Go.Stop Go.Extern

/-- A slice of descriptions in memory. -/
def DescsAt (W : World) (v : Value) (n : Nat) (D : Nat → EData) : Prop :=
  ∃ p cap, v = .slice p n cap ∧ n ≤ 9223372036854775807 ∧ (0 < n → ∃ b o, p = some ⟨b, o, none⟩ ∧ b < W.heap.size ∧ ∀ i, i < n → ∃ s,
    W.cell? ⟨b, o + i * 5, none⟩ = some (.bool (D i).isNil) ∧ W.cell? ⟨b, o + i * 5 + 1, none⟩ = some (.int .i64 (D i).code) ∧ W.cell? ⟨b, o + i * 5 + 2, none⟩ = some (.bool (D i).has) ∧
    W.cell? ⟨b, o + i * 5 + 3, none⟩ = some (.int .i64 (D i).off) ∧ W.cell? ⟨b, o + i * 5 + 4, none⟩ = some s ∧ NamesAt W s (D i).names ∧ (D i).code ≤ 9223372036854775807)

theorem DescsAt.below {W W' : World} {v : Value} {n : Nat} {D : Nat → EData} (h : DescsAt W v n D) (hb : Below W.heap.size W W') : DescsAt W' v n D := by
  obtain ⟨p, cap, h1, h2, h3⟩ := h
  refine ⟨p, cap, h1, h2, fun hn => ?_⟩
  obtain ⟨b, o, e1, e2, e3⟩ := h3 hn
  refine ⟨b, o, e1, Nat.lt_of_lt_of_le e2 hb.size, fun i hi => ?_⟩
  obtain ⟨s, c0, c1, c2, c3, c4, hn, hc⟩ := e3 i hi
  exact ⟨s, keep_cell c0 hb, keep_cell c1 hb, keep_cell c2 hb, keep_cell c3 hb, keep_cell c4 hb, hn.below hb, hc⟩

def AOf (D : Nat → EData) (k : Nat) : Option Int := atOf (eOf (D k))
def NOf (D : Nat → EData) (k : Nat) : Bool := (eOf (D k)).isSome

/-- The index that the reference returns. -/
def leastI (b : Option (Nat × Int)) (f : Option Nat) : Int :=
  match b with
  | some (j, _) => j
  | none => match f with
    | some j => j
    | none => -1

/-- What best holds after i rounds of the first loop. -/
def BVal (D : Nat → EData) (i : Nat) (b : Option (Nat × Int)) (v : Value) : Prop :=
  match b with
  | none => v = .int .i64 (-1)
  | some (j, x) => v = .int .i64 j ∧ j < i ∧ x = (D j).off

theorem bestTo_lt (A : Nat → Option Int) : ∀ (i j : Nat) (b : Int), bestTo A i = some (j, b) → j < i ∧ A j = some b := by
  intro i
  induction i with
  | zero => intro j b h; simp [bestTo] at h
  | succ i ih =>
    intro j b h
    cases hA : A i with
    | none => rw [bestTo_none hA] at h; have := ih j b h; exact ⟨by omega, this.2⟩
    | some a =>
      cases hb : bestTo A i with
      | none => rw [bestTo_first hA hb] at h; simp only [Option.some.injEq, Prod.mk.injEq] at h; obtain ⟨h1, h2⟩ := h; subst h1; subst h2; exact ⟨by omega, hA⟩
      | some y =>
        obtain ⟨k, c⟩ := y
        by_cases hl : a < c
        · rw [bestTo_less hA hb hl] at h; simp only [Option.some.injEq, Prod.mk.injEq] at h; obtain ⟨h1, h2⟩ := h; subst h1; subst h2; exact ⟨by omega, hA⟩
        · rw [bestTo_more hA hb hl] at h; simp only [Option.some.injEq, Prod.mk.injEq] at h; obtain ⟨h1, h2⟩ := h; subst h1; subst h2; have := ih k c hb; exact ⟨by omega, this.2⟩

theorem firstTo_lt (N : Nat → Bool) : ∀ (i j : Nat), firstTo N i = some j → j < i ∧ N j = true := by
  intro i
  induction i with
  | zero => intro j h; simp [firstTo] at h
  | succ i ih =>
    intro j h
    cases hf : firstTo N i with
    | some k => rw [firstTo_some hf] at h; simp only [Option.some.injEq] at h; subst h; have := ih k hf; exact ⟨by omega, this.2⟩
    | none =>
      cases hN : N i with
      | true => rw [firstTo_new hf hN] at h; simp only [Option.some.injEq] at h; subst h; exact ⟨by omega, hN⟩
      | false => rw [firstTo_nil hf hN] at h; cases h

/-- What best holds after m rounds of the second loop. -/
def FVal (f : Option Nat) (v : Value) : Prop :=
  match f with
  | none => v = .int .i64 (-1)
  | some j => v = .int .i64 j

theorem firstTo_mono {N : Nat → Bool} {m j : Nat} (h : firstTo N m = some j) : ∀ {i : Nat}, m ≤ i → firstTo N i = some j := by
  intro i
  induction i with
  | zero => intro hm; obtain rfl : m = 0 := by omega
            exact h
  | succ i ih =>
    intro hm
    rcases Nat.lt_or_ge i m with h1 | h1
    · obtain rfl : m = i + 1 := by omega
      exact h
    · exact firstTo_some (ih h1)

theorem BVal.succ {D : Nat → EData} {i : Nat} {b b2 : Option (Nat × Int)} {v : Value} (e : b2 = b) (h : BVal D i b v) : BVal D (i + 1) b2 v := by
  subst e
  cases b2 with
  | none => exact h
  | some y =>
    obtain ⟨j, x⟩ := y
    obtain ⟨h1, h2, h3⟩ := h
    exact ⟨h1, by omega, h3⟩

set_option maxRecDepth 100000 in
set_option maxHeartbeats 8000000 in
theorem refLeast_any (n : Nat) (D : Nat → EData) (v : Value) (w : World) (h : DescsAt w v n D) (hn : n ≤ 1000) :
    Calls Tryd.prog 26 #[v] w (IntEnd (leastI (bestTo (AOf D) n) (firstTo (NOf D) n)) w) := by
  obtain ⟨p, cap, rfl, _, hc⟩ := h
  have HC := Lib.hid hc; clear hc
  go_enter Tryd.func26, Tryd.ntmps26
  go_wp2_with fail
  go_loopg [3, 4] (n + 1) (fun g x j wr => ∃ i : Nat, j = .int .i64 i ∧ i ≤ n ∧ n + 1 - i ≤ g ∧ BVal D i (bestTo (AOf D) i) x ∧ Below w.heap.size w wr)
  case atStart => exact ⟨0, rfl, Nat.zero_le _, by omega, rfl, Below.refl _ _⟩
  case round =>
    obtain ⟨i, rfl, hi, hgk, hx, hb⟩ := hrel
    have Hb := Lib.hid hb; clear hb
    by_cases hlt : i < n
    · have hi63 : (i : Int) + 1 ≤ 9223372036854775807 := by omega
      obtain ⟨b, o, rfl, hbs, hc⟩ := HC.out (by omega)
      obtain ⟨s, c0, c1, c2, c3, c4, _, _⟩ := hc i hlt
      have k0 := (Hb.out.cell (p := ⟨b, o + i * 5, none⟩) hbs).trans c0
      have k2 := (Hb.out.cell (p := ⟨b, o + i * 5 + 2, none⟩) hbs).trans c2
      have k3 := (Hb.out.cell (p := ⟨b, o + i * 5 + 3, none⟩) hbs).trans c3
      clear c0 c1 c2 c3 c4
      cases hnil : (D i).isNil with
      | true =>
        have hA : AOf D i = none := by simp [AOf, eOf, hnil, atOf]
        rw [hnil] at k0
        have HA := Lib.hid hA; clear hA
        have HNil := Lib.hid hnil; clear hnil
        have HX := Lib.hid hx; clear hx
        go_wp2_with fail
        go_quiet (fail)
        go_wp2_with fail
        go_roundg (gk - 1)
        case measure => omega
        case rel => exact ⟨i + 1, by go_num, by omega, by omega, BVal.succ (by rw [bestTo_none HA.out]) HX.out, below_drewN Hb.out _⟩
      | false =>
        rw [hnil] at k0
        cases hhas : (D i).has with
        | false =>
          have hA : AOf D i = none := by simp [AOf, eOf, hnil, atOf, baseOf, hhas]
          rw [hhas] at k2
          have HA := Lib.hid hA; clear hA
          have HNil := Lib.hid hnil; clear hnil
          have HHas := Lib.hid hhas; clear hhas
          have HX := Lib.hid hx; clear hx
          go_wp2_with fail
          go_quiet (fail)
          go_wp2_with fail
          go_roundg (gk - 1)
          case measure => omega
          case rel => exact ⟨i + 1, by go_num, by omega, by omega, BVal.succ (by rw [bestTo_none HA.out]) HX.out, below_drewN Hb.out _⟩
        | true =>
          have hA : AOf D i = some (D i).off := by simp [AOf, eOf, hnil, atOf, baseOf, hhas]
          rw [hhas] at k2
          have HA := Lib.hid hA; clear hA
          have HNil := Lib.hid hnil; clear hnil
          have HHas := Lib.hid hhas; clear hhas
          cases hbt : bestTo (AOf D) i with
          | none =>
            rw [hbt] at hx
            have HBT := Lib.hid hbt; clear hbt
            obtain rfl : _ = Value.int .i64 (-1) := hx
            go_wp2_with fail
            go_quiet (fail)
            go_wp2_with fail
            go_roundg (gk - 1)
            case measure => omega
            case rel => exact ⟨i + 1, by go_num, by omega, by omega, by rw [bestTo_first HA.out HBT.out]; exact ⟨rfl, by omega, rfl⟩, below_drewN Hb.out _⟩
          | some y =>
            obtain ⟨j, x⟩ := y
            rw [hbt] at hx
            have HBT := Lib.hid hbt; clear hbt
            obtain ⟨rfl, hj, rfl⟩ := hx
            obtain ⟨s', _, _, _, c3', _, _, _⟩ := hc j (by omega)
            have k3' := (Hb.out.cell (p := ⟨b, o + j * 5 + 3, none⟩) hbs).trans c3'
            clear c3'
            have hj0 : (0 : Int) ≤ (j : Int) := Int.natCast_nonneg _
            have hj1 : (j : Int) < (n : Int) := by omega
            have hdj : decide ((j : Int) < 0) = false := by simp
            generalize ha : (D i).off = a at k3
            generalize hb' : (D j).off = b' at k3'
            rw [ha] at HA
            have Ha := Lib.hid ha; clear ha
            have Hb' := Lib.hid hb'; clear hb'
            by_cases hab : a < b'
            · have hd : decide (a < b') = true := by simpa using hab
              have HAB := Lib.hid hab; clear hab
              go_wp2_with fail
              go_quiet (fail)
              go_wp2_with fail
              go_roundg (gk - 1)
              case measure => omega
              case rel => exact ⟨i + 1, by go_num, by omega, by omega, by rw [bestTo_less HA.out HBT.out (by rw [Hb'.out]; exact HAB.out)]; exact ⟨rfl, by omega, Ha.out.symm⟩, below_drewN Hb.out _⟩
            · have hd : decide (a < b') = false := by simpa using hab
              have HAB := Lib.hid hab; clear hab
              go_wp2_with fail
              go_quiet (fail)
              go_wp2_with fail
              go_roundg (gk - 1)
              case measure => omega
              case rel => exact ⟨i + 1, by go_num, by omega, by omega, by rw [bestTo_more HA.out HBT.out (by rw [Hb'.out]; exact Int.not_lt.2 HAB.out)]; exact ⟨rfl, by omega, rfl⟩, below_drewN Hb.out _⟩
    · obtain rfl : i = n := by omega
      have HLt := Lib.hid hlt; clear hlt
      have hd0 : decide ((i : Int) < (i : Int)) = false := by simp
      cases hbt : bestTo (AOf D) i with
      | some y =>
        obtain ⟨j, x⟩ := y
        rw [hbt] at hx
        have HBT := Lib.hid hbt; clear hbt
        obtain ⟨rfl, hj, _⟩ := hx
        have hdj : decide ((j : Int) < 0) = false := by simp
        go_wp2_with fail
        go_loopg [3, 5] 1 (fun g x k wx => x = .int .i64 j ∧ k = .int .i64 0 ∧ Below w.heap.size w wx)
        case atStart => exact ⟨rfl, rfl, Hb.out⟩
        case round =>
          obtain ⟨rfl, rfl, hb2⟩ := hrel
          have Hb2 := Lib.hid hb2; clear hb2
          rcases Nat.eq_zero_or_pos i with h0 | h0
          · subst h0; omega
          · have hdi : decide ((0 : Int) < (i : Int)) = true := by simp; omega
            go_wp2_with fail
            go_ret
            exact ⟨by rw [HBT.out]; rfl, Hb2.out⟩
      | none =>
        rw [hbt] at hx
        have HBT := Lib.hid hbt; clear hbt
        obtain rfl : _ = Value.int .i64 (-1) := hx
        go_wp2_with fail
        go_loopg [3, 5] (i + 1) (fun g x k wx => ∃ m : Nat, k = .int .i64 m ∧ m ≤ i ∧ i + 1 - m ≤ g ∧ FVal (firstTo (NOf D) m) x ∧ Below w.heap.size w wx)
        case atStart => exact ⟨0, rfl, Nat.zero_le _, by omega, rfl, Hb.out⟩
        case round =>
          obtain ⟨m, rfl, hm, hgm, hf, hb2⟩ := hrel
          have Hb2 := Lib.hid hb2; clear hb2
          cases hft : firstTo (NOf D) m with
          | some j =>
            rw [hft] at hf
            obtain rfl : _ = Value.int .i64 j := hf
            have hfi := firstTo_mono hft hm
            have HFI := Lib.hid hfi; clear hfi
            have HFT := Lib.hid hft; clear hft
            have hdj : decide ((j : Int) < 0) = false := by simp
            by_cases hmi : m < i
            · have hdm : decide ((m : Int) < (i : Int)) = true := by simp; omega
              go_wp2_with fail
              go_ret
              exact ⟨by rw [HBT.out, HFI.out]; rfl, Hb2.out⟩
            · have hdm : decide ((m : Int) < (i : Int)) = false := by simp; omega
              have HMI := Lib.hid hmi; clear hmi
              go_wp2_with fail
              go_ret
              exact ⟨by rw [HBT.out, HFI.out]; rfl, Hb2.out⟩
          | none =>
            rw [hft] at hf
            obtain rfl : _ = Value.int .i64 (-1) := hf
            by_cases hmi : m < i
            · have hdm : decide ((m : Int) < (i : Int)) = true := by simp; omega
              have hm63 : (m : Int) + 1 ≤ 9223372036854775807 := by omega
              obtain ⟨b, o, rfl, hbs, hc⟩ := HC.out (by omega)
              obtain ⟨s, c0, _, _, _, _, _, _⟩ := hc m hmi
              have k0 := (Hb2.out.cell (p := ⟨b, o + m * 5, none⟩) hbs).trans c0
              clear c0 hc
              cases hnil : (D m).isNil with
              | true =>
                rw [hnil] at k0
                have hN : NOf D m = false := by simp [NOf, eOf, hnil]
                have HF2 := Lib.hid (firstTo_nil hft hN); clear hft hN hnil
                go_wp2_with fail
                go_roundg (gk - 1)
                case measure => omega
                case rel => exact ⟨m + 1, by go_num, by omega, by omega, by rw [HF2.out]; rfl, Hb2.out⟩
              | false =>
                rw [hnil] at k0
                have hN : NOf D m = true := by simp [NOf, eOf, hnil]
                have HF2 := Lib.hid (firstTo_new hft hN); clear hft hN hnil
                go_wp2_with fail
                go_roundg (gk - 1)
                case measure => omega
                case rel => exact ⟨m + 1, by go_num, by omega, by omega, by rw [HF2.out]; rfl, Hb2.out⟩
            · have hdm : decide ((m : Int) < (i : Int)) = false := by simp; omega
              obtain rfl : m = i := by omega
              have HFT := Lib.hid hft; clear hft
              clear hmi
              go_wp2_with fail
              go_ret
              exact ⟨by rw [HBT.out, HFT.out]; rfl, Hb2.out⟩
end Go.Proofs.YtenfchkellkifaaDoor
