/- Sum of package word and the reference's Sum, and the law WordSums. Conditions: the arguments are numbers of 64 bits in memory. -/
import Derived.Test.YtomjjjjjmknhkaaWAlive
import Derived.Test.YtomjjjjjmknhkaaRow
import Derived.Deep.QuietTactic
import Derived.BigQuiet
namespace Go.Proofs.Ytomjjjjjmknhkaa
open Go.RowKit Go.ChangeShapes Go.WideShapes

/-- A slice of numbers in memory. -/
def NumsAt (w : World) (s : Value) (zs : List Int) : Prop :=
  ∃ p cap, s = .slice p zs.length cap ∧ zs.length ≤ 9223372036854775807 ∧ (∀ z ∈ zs, 0 ≤ z ∧ z ≤ 18446744073709551615) ∧
    (zs ≠ [] → ∃ b o, p = some ⟨b, o, none⟩ ∧ ∀ i, i < zs.length → w.cell? ⟨b, o + i, none⟩ = some (.int .u64 (zs.getD i 0)))

theorem NumsAt.drew {w w' : World} {s : Value} {zs : List Int} (h : NumsAt w s zs) (hb : Below w.heap.size w w') : NumsAt w' s zs := by
  obtain ⟨p, cap, h1, h2, h3, h4⟩ := h
  refine ⟨p, cap, h1, h2, h3, fun hne => ?_⟩
  obtain ⟨b, o, h5, h6⟩ := h4 hne
  exact ⟨b, o, h5, fun i hi => keep_cell (h6 i hi) hb⟩

theorem sum_nonneg : ∀ (zs : List Int), (∀ z ∈ zs, 0 ≤ z ∧ z ≤ 18446744073709551615) → 0 ≤ zs.sum := by
  intro zs
  induction zs with
  | nil => intro _; simp
  | cons z zs ih =>
    intro h
    have h1 := (h z (List.mem_cons_self ..)).1
    have h2 := ih (fun y hy => h y (List.mem_cons_of_mem _ hy))
    simp only [List.sum_cons]; omega

theorem sum_step (zs : List Int) (k : Nat) (hk : k < zs.length) : (zs.take (k + 1)).sum = (zs.take k).sum + zs.getD k 0 := by
  rw [List.take_succ_eq_append_getElem hk, List.sum_append]
  simp [hk]

theorem sum_take_le (zs : List Int) (k : Nat) (h : ∀ z ∈ zs, 0 ≤ z ∧ z ≤ 18446744073709551615) : (zs.take k).sum ≤ zs.sum := by
  have h1 : zs.sum = (zs.take k).sum + (zs.drop k).sum := by rw [← List.sum_append, List.take_append_drop]
  have h2 := sum_nonneg (zs.drop k) (fun z hz => h z (List.mem_of_mem_drop hz))
  omega

def sumV (zs : List Int) : Int := if zs.sum ≤ 18446744073709551615 then zs.sum else 0
def sumB (zs : List Int) : Bool := decide (zs.sum ≤ 18446744073709551615)
theorem sum_all {zs : List Int} (h : zs.sum ≤ 18446744073709551615) : sumV zs = zs.sum ∧ sumB zs = true := by unfold sumV sumB; rw [if_pos h]; exact ⟨rfl, by simpa using h⟩
theorem sum_none {zs : List Int} (h : ¬ zs.sum ≤ 18446744073709551615) : sumV zs = 0 ∧ sumB zs = false := by unfold sumV sumB; rw [if_neg h]; exact ⟨rfl, by simpa using h⟩

def TupB (a : Int) (b : Bool) (w : World) (e : Ending) (w' : World) : Prop := e = .returned (.tuple #[.int .u64 a, .bool b]) ∧ Below w.heap.size w w'

theorem ret_tup {a c : Int} {b d : Bool} (h : a = c) (k : b = d) : Ending.returned (.tuple #[.int .u64 a, .bool b]) = .returned (.tuple #[.int .u64 c, .bool d]) := by rw [h, k]

set_option maxRecDepth 100000 in
theorem sum_any (zs : List Int) (s : Value) (w : World) (h : NumsAt w s zs) :
    Calls Try.prog 12 #[s] w (TupB (sumV zs) (sumB zs) w) := by
  obtain ⟨p, cap, rfl, hl, hz, hc⟩ := h
  have HZ := Lib.hid hz; clear hz
  have HC := Lib.hid hc; clear hc
  go_enter Try.func12, Try.ntmps12
  go_wp2_with fail
  go_loop [4, 11] (fun a i => ∃ k : Nat, k ≤ zs.length ∧ i = .int .i64 k ∧ a = .int .u64 (zs.take k).sum ∧ (zs.take k).sum ≤ 18446744073709551615) (fun _ i => zs.length - (intOf i).toNat)
  case atStart => exact ⟨0, Nat.zero_le _, rfl, by simp, by simp⟩
  case round =>
    obtain ⟨k, hk, rfl, rfl, hs⟩ := hrel
    by_cases hlt : k < zs.length
    · have hne : zs ≠ [] := by intro h; subst h; simp at hlt
      obtain ⟨b, o, rfl, hcell⟩ := HC.out hne
      have hc := hcell k hlt
      clear hcell hne
      have hs0 := sum_nonneg (zs.take k) (fun z hz => HZ.out z (List.mem_of_mem_take hz))
      have hst := sum_step zs k hlt
      have hx := HZ.out (zs.getD k 0) (by simp [hlt])
      have hle := sum_take_le zs (k + 1) HZ.out
      generalize hS : (zs.take k).sum = S at *
      generalize hX : zs.getD k 0 = X at *
      have hx0 := hx.1
      have hx1 := hx.2
      clear hx
      have HS := Lib.hid hS; clear hS
      have HX := Lib.hid hX; clear hX
      by_cases hm : S + X ≤ 18446744073709551615
      · have ha := fun w => add64_run S X 0 w hs0 hx0 (by omega) (by omega)
        have e1 : (S + X + 0) % 18446744073709551616 = S + X := by omega
        have e2 : (S + X + 0) / 18446744073709551616 = 0 := by omega
        rw [e1, e2] at ha
        clear e1 e2
        have HST := Lib.hid hst; clear hst hle
        go_wp2_with fail
        go_round
        case rel => exact ⟨k + 1, by omega, by go_num, by rw [HST.out], by rw [HST.out]; exact hm⟩
        case measure => simp [intOf]; omega
      · have ha := fun w => add64_run S X 0 w hs0 hx0 (by omega) (by omega)
        have e2 : (S + X + 0) / 18446744073709551616 = 1 := by omega
        rw [e2] at ha
        have hn := sum_none (zs := zs) (by omega)
        have HN := Lib.hid hn; clear hn
        clear e2 hst hle
        go_wp2_with fail
        go_ret2
        exact ⟨ret_tup HN.out.1.symm HN.out.2.symm, Below.refl _ _⟩
    · obtain rfl : k = zs.length := by omega
      rw [List.take_length] at *
      have HN := Lib.hid (sum_all hs)
      go_wp2_with fail
      go_ret2
      exact ⟨ret_tup HN.out.1.symm HN.out.2.symm, Below.refl _ _⟩

theorem max_same (w : World) : Calls Try.prog 25 #[] w fun e w' => e = .returned (.int .u64 18446744073709551615) ∧ w' = w :=
  (max_any w).mono fun _ _ h => ⟨h.1, h.2.symm⟩

set_option maxRecDepth 100000 in
theorem refSum_any (zs : List Int) (s : Value) (w : World) (h : NumsAt w s zs) :
    Calls Try.prog 13 #[s] w (TupB (sumV zs) (sumB zs) w) := by
  have h0 := h
  obtain ⟨p, cap, rfl, hl, hz, hc⟩ := h
  have HZ := Lib.hid hz; clear hz
  have HC := Lib.hid hc; clear hc
  have H0 := Lib.hid h0; clear h0
  go_enter Try.func13, Try.ntmps13
  go_wp2_with fail
  go_loopw [4, 5] (fun a i wr => ∃ k : Nat, k ≤ zs.length ∧ i = .int .i64 k ∧ a = .int .u64 (zs.take k).sum ∧ (zs.take k).sum ≤ 18446744073709551615 ∧ Below w.heap.size w wr) (fun _ i _ => zs.length - (intOf i).toNat)
  case atStart => exact ⟨0, Nat.zero_le _, rfl, by simp, by simp, Below.refl _ _⟩
  case round =>
    obtain ⟨k, hk, rfl, rfl, hs, hb⟩ := hrel
    have HB := Lib.hid hb; clear hb
    by_cases hlt : k < zs.length
    · have hne : zs ≠ [] := by intro h; subst h; simp at hlt
      obtain ⟨b, o, rfl, hcell⟩ := HC.out hne
      have hc : wr.cell? ⟨b, o + k, none⟩ = some (.int .u64 (zs.getD k 0)) := keep_cell (hcell k hlt) HB.out
      clear hcell hne
      have hs0 := sum_nonneg (zs.take k) (fun z hz => HZ.out z (List.mem_of_mem_take hz))
      have hst := sum_step zs k hlt
      have hx := HZ.out (zs.getD k 0) (by simp [hlt])
      have hle := sum_take_le zs (k + 1) HZ.out
      generalize hS : (zs.take k).sum = S at *
      generalize hX : zs.getD k 0 = X at *
      have hx0 := hx.1
      have hx1 := hx.2
      clear hx
      have HS := Lib.hid hS; clear hS
      have HX := Lib.hid hX; clear hX
      by_cases hm : S + X ≤ 18446744073709551615
      · have HST := Lib.hid hst; clear hst hle
        have hd : decide (18446744073709551615 - S < X) = false := by simp; omega
        go_wp2_with fail
        go_quiet ((go_at_call 25; exact Calls.quiet_of_same (max_same _)))
        go_wp2_with fail
        go_roundw
        case rel => exact ⟨k + 1, by omega, by go_num, by rw [HST.out], by rw [HST.out]; exact hm, HB.out.trans ((below_drewN _ _).mono HB.out.size)⟩
        case measure => simp [intOf]; omega
      · have hd : decide (18446744073709551615 - S < X) = true := by simp; omega
        have hn := sum_none (zs := zs) (by omega)
        have HN := Lib.hid hn; clear hn
        clear hst hle
        go_wp2_with fail
        go_quiet ((go_at_call 25; exact Calls.quiet_of_same (max_same _)))
        go_wp2_with fail
        go_ret2
        exact ⟨ret_tup HN.out.1.symm HN.out.2.symm, HB.out.trans ((below_drewN _ _).mono HB.out.size)⟩
    · obtain rfl : k = zs.length := by omega
      rw [List.take_length] at *
      have HN := Lib.hid (sum_all hs)
      go_wp2_with fail
      go_ret2
      exact ⟨ret_tup HN.out.1.symm HN.out.2.symm, HB.out⟩

theorem sums_any (zs : List Int) (s : Value) (w : World) (h : NumsAt w s zs) :
    Calls Try.prog 4 #[s] w (TrueEnd w) := by
  obtain ⟨V, hV⟩ : ∃ V, sumV zs = V := ⟨_, rfl⟩
  obtain ⟨B, hB⟩ : ∃ B, sumB zs = B := ⟨_, rfl⟩
  have k1 := sum_any zs s w h
  have k2 := fun wx (hx : Below w.heap.size w wx) => refSum_any zs s wx (h.drew hx)
  rw [hV, hB] at k1
  simp only [hV, hB] at k2
  clear hV hB
  obtain ⟨p, cap, rfl, hl, hz, hc⟩ := h
  have K1 := Lib.hid k1; clear k1
  have K2 := Lib.hid k2; clear k2
  clear hz hc
  by_cases hlen : 1000 < zs.length
  · go_enter Try.func4, Try.ntmps4
    go_wp2_with fail
    refine (alive_any _).mono ?_
    rintro e w2 ⟨rfl, h2⟩
    have H2 := Lib.hid h2; clear h2
    go_wp2_with fail
    go_ret
    exact ⟨rfl, H2.out⟩
  · go_enter Try.func4, Try.ntmps4
    go_wp2_with fail
    refine K1.out.mono ?_
    rintro e w1 ⟨rfl, h1⟩
    have H1 := Lib.hid h1; clear h1
    go_wp2_with fail
    refine (K2.out _ H1.out).mono ?_
    rintro e w2 ⟨rfl, h2⟩
    have H2 := Lib.hid (keep_below H1.out (Nat.le_refl _) h2); clear h2
    go_wp2_with fail
    refine (alive_any _).mono ?_
    rintro e w3 ⟨rfl, h3⟩
    have H3 := Lib.hid (keep_below H2.out (Nat.le_refl _) h3); clear h3
    cases B
    all_goals
      go_wp2_with fail
      go_ret
      exact ⟨rfl, H3.out⟩

section
variable {H : Type} {enc : TypeId × Value → H}
theorem nums_open {W : World} {base : Nat} {v : Value} {d : DataW H} {p : List MemPlace} (hv : Value.okWide Try.prog W .any base 27 v) (h : DataW.Trod enc Try.prog W 0 (fun _ => true) true 27 v d p) :
    ∃ zs, NumsAt W v zs := by
  obtain ⟨a0, len0, cap0, rfl⟩ := okWide_slice Try.underlying27 hv
  obtain ⟨fuel, hf⟩ := h
  rcases open_ints Try.underlying27 Try.underlying22 (by kernel_rfl) hf with ⟨hcs, _⟩ | ⟨x, l, c, zs, hcs, _, hl, hm, hz, _, hcell, hwz⟩
  · simp [Value.cells] at hcs
    obtain ⟨rfl, rfl, rfl⟩ := hcs
    exact ⟨[], none, 0, rfl, by simp, by simp, fun h => absurd rfl h⟩
  · simp [Value.cells] at hcs
    obtain ⟨rfl, rfl, rfl⟩ := hcs
    have hz' : zs.length = cap0 := by simpa using hz
    unfold maxLen at hm
    refine ⟨zs.take len0, some x, cap0, by simp; omega, by simp; omega, fun z hz => bounds_u64 (hwz z (List.mem_of_mem_take hz)), fun hne => ?_⟩
    obtain ⟨b, o, spot⟩ := x
    have hp : 0 < len0 := by
      rcases Nat.eq_zero_or_pos len0 with h0 | h0
      · subst h0; exact absurd (by simp) hne
      · exact h0
    have hspot : spot = none := by simpa [Addr.add] using World.cell?_spot (hcell 0 (by omega))
    subst hspot
    refine ⟨b, o, rfl, fun i hi => ?_⟩
    have hi' : i < len0 := by simp at hi; omega
    have := hcell i (by omega)
    rw [add_plain] at this
    rw [this]
    simp [List.getD, hi']
end
end Go.Proofs.Ytomjjjjjmknhkaa
