/- The laws' look at their arguments: all lists correct and short, or not. No conditions. -/
import Derived.Test.YtdchddiilnhbcaaDoorORef
import Derived.Test.YtdchddiilnhbcaaDoorRIv
namespace Go.Proofs.YtdchddiilnhbcaaDoor
open Go.RowKit
/-- A list that the laws take. -/
def okArg (w : World) (v : Value) : Prop := ∃ l, IvsAt w v l ∧ GoodL l ∧ l.length ≤ 60
/-- A list that the laws turn away. -/
def badArg (w : World) (v : Value) : Prop := (∃ q n cap, v = .slice q n cap ∧ 60 < n) ∨ ∃ l, IvsAt w v l ∧ All64 l ∧ l.length ≤ 60 ∧ ¬ canon l
theorem arg_split {w : World} {v : Value} (h : (∃ q n cap, v = .slice q n cap ∧ 60 < n) ∨ ∃ l, l.length ≤ 60 ∧ All64 l ∧ IvsAt w v l) : okArg w v ∨ badArg w v := by
  rcases h with h | ⟨l, hl, h64, hi⟩
  · exact .inr (.inl h)
  · by_cases hc : canon l
    · exact .inl ⟨l, hi, good_of hc h64, hl⟩
    · exact .inr (.inr ⟨l, hi, h64, hl, hc⟩)
theorem arg_shape {w : World} {v : Value} (h : okArg w v ∨ badArg w v) : ∃ p n c, v = .slice p n c := by
  rcases h with ⟨l, h, _⟩ | ⟨q, n, cap, h, _⟩ | ⟨l, h, _⟩
  · obtain ⟨p, c, h, _⟩ := h.shape; exact ⟨p, _, c, h⟩
  · exact ⟨q, n, cap, h⟩
  · obtain ⟨p, c, h, _⟩ := h.shape; exact ⟨p, _, c, h⟩
theorem okArg.call {w w' : World} {v : Value} (h : okArg w v) (hb : Below w.heap.size w w') : okArg w' v := by
  obtain ⟨l, h1, h2, h3⟩ := h
  exact ⟨l, h1.call hb, h2, h3⟩
theorem badArg.call {w w' : World} {v : Value} (h : badArg w v) (hb : Below w.heap.size w w') : badArg w' v := by
  rcases h with h | ⟨l, h1, h2⟩
  · exact .inl h
  · exact .inr ⟨l, h1.call hb, h2⟩
/-- One round that does not turn away. -/
theorem okArg.right {w : World} {v : Value} (h : okArg w v) : ∃ p n cap, v = .slice p n cap ∧ n ≤ 60 ∧ ∀ W, Below w.heap.size w W → Calls Tryd.prog 11 #[v] W (IsEnd true W) := by
  obtain ⟨l, h1, h2, h3⟩ := h
  obtain ⟨p, cap, rfl, _⟩ := h1.shape
  refine ⟨p, l.length, cap, rfl, h3, fun W hW => ?_⟩
  have k := refRight_any l _ W (h1.call hW) h2.all
  rw [(rightB_iff l).2 h2.can] at k
  exact k
theorem badArg.right {w : World} {v : Value} (h : badArg w v) : ∃ p n cap, v = .slice p n cap ∧ (60 < n ∨ n ≤ 60 ∧ ∀ W, Below w.heap.size w W → Calls Tryd.prog 11 #[v] W (IsEnd false W)) := by
  rcases h with ⟨q, n, cap, rfl, hn⟩ | ⟨l, h1, h64, h3, hc⟩
  · exact ⟨q, n, cap, rfl, .inl hn⟩
  · obtain ⟨p, cap, rfl, _⟩ := h1.shape
    refine ⟨p, l.length, cap, rfl, .inr ⟨h3, fun W hW => ?_⟩⟩
    have k := refRight_any l _ W (h1.call hW) h64
    rw [show rightB l = false from by
      cases hr : rightB l with
      | false => rfl
      | true => exact absurd ((rightB_iff l).1 hr) hc] at k
    exact k
set_option maxRecDepth 100000 in
set_option maxHeartbeats 1000000 in
theorem rights_upto (n bl cp : Nat) (vs : Nat → Value) (w : World) (m : Nat) (hm : m ≤ n) (hn : n ≤ 100) (h : ∀ i, i < n → w.cell? ⟨bl, i, none⟩ = some (vs i)) (hok : ∀ i, i < m → okArg w (vs i)) (hbad : m < n → badArg w (vs m)) :
    Calls Tryd.prog 4 #[.slice (some ⟨bl, 0, none⟩) n cp] w (IsEnd (decide (m = n)) w) := by
  have HC := Lib.hid h
  have HK := Lib.hid hok
  have HD := Lib.hid hbad
  clear h hok hbad
  go_enter Tryd.func4, Tryd.ntmps4
  go_wp2_with fail
  go_loopw [4, 7] (fun _ i wr => ∃ k : Nat, k ≤ m ∧ i = .int .i64 k ∧ Below w.heap.size w wr) (fun _ i _ => n - (intOf i).toNat)
  case atStart => exact ⟨0, Nat.zero_le _, rfl, Below.refl _ _⟩
  case round =>
    obtain ⟨k, hk, rfl, hb⟩ := hrel
    have HB := Lib.hid hb; clear hb
    by_cases hlt : k < n
    · have c0 := keep_cell (HC.out k hlt) HB.out
      have i1 : (0 : Int) ≤ (k : Int) := by omega
      have i2 : (k : Int) < (n : Int) := by omega
      by_cases hkm : k < m
      · obtain ⟨p, l, cap, hv, hl, hr⟩ := (HK.out k hkm).right
        rw [hv] at c0 hr
        have KR := Lib.hid (hr wr HB.out)
        have i3 : ¬ (60 : Int) < (l : Int) := by omega
        clear hr hv
        go_wp2_with fail
        refine KR.out.mono ?_
        rintro e w1 ⟨rfl, h1⟩
        have H1 := Lib.hid (below_call HB.out h1); clear h1 c0
        go_wp2_with fail
        go_roundw
        case rel => exact ⟨k + 1, by omega, by go_num, H1.out⟩
        case measure => simp [intOf]; omega
      · obtain rfl : k = m := by omega
        obtain ⟨p, l, cap, hv, hr⟩ := (HD.out hlt).right
        rw [hv] at c0 hr
        have hd : decide (k = n) = false := by simp; omega
        rw [hd]
        clear hv
        rcases hr with hl | ⟨hl, hr⟩
        · have i3 : (60 : Int) < (l : Int) := by omega
          go_wp2_with fail
          go_ret
          exact ⟨rfl, HB.out⟩
        · have KR := Lib.hid (hr wr HB.out)
          have i3 : ¬ (60 : Int) < (l : Int) := by omega
          clear hr
          go_wp2_with fail
          refine KR.out.mono ?_
          rintro e w1 ⟨rfl, h1⟩
          have H1 := Lib.hid (below_call HB.out h1); clear h1 c0
          go_wp2_with fail
          go_ret
          exact ⟨rfl, H1.out⟩
    · obtain rfl : k = n := by omega
      obtain rfl : k = m := by omega
      rw [decide_eq_true rfl]
      go_wp2_with fail
      go_ret
      exact ⟨rfl, HB.out⟩
/-- The first list that is turned away, if there is one. -/
theorem rights_any (n bl cp : Nat) (vs : Nat → Value) (w w0 : World) (hw : Below w0.heap.size w0 w) (hn : n ≤ 100) (h : ∀ i, i < n → w.cell? ⟨bl, i, none⟩ = some (vs i)) (ha : ∀ i, i < n → okArg w0 (vs i) ∨ badArg w0 (vs i)) :
    ∃ r : Bool, (r = true → ∀ i, i < n → okArg w0 (vs i)) ∧ Calls Tryd.prog 4 #[.slice (some ⟨bl, 0, none⟩) n cp] w (IsEnd r w) := by
  have step : ∀ m, m ≤ n → (∀ i, i < m → okArg w0 (vs i)) ∨ ∃ j, j < m ∧ (∀ i, i < j → okArg w0 (vs i)) ∧ badArg w0 (vs j) := by
    intro m
    induction m with
    | zero => intro _; exact .inl fun i hi => by omega
    | succ m ih =>
      intro hm
      rcases ih (by omega) with h1 | ⟨j, hj, h1, h2⟩
      · rcases ha m (by omega) with h2 | h2
        · refine .inl fun i hi => ?_
          by_cases he : i = m
          · subst he; exact h2
          · exact h1 i (by omega)
        · exact .inr ⟨m, by omega, h1, h2⟩
      · exact .inr ⟨j, by omega, h1, h2⟩
  rcases step n (Nat.le_refl _) with h1 | ⟨j, hj, h1, h2⟩
  · refine ⟨true, fun _ => h1, ?_⟩
    have k := rights_upto n bl cp vs w n (Nat.le_refl _) hn h (fun i hi => (h1 i hi).call hw) (fun hlt => absurd hlt (by omega))
    rw [decide_eq_true rfl] at k
    exact k
  · refine ⟨false, (fun h => by cases h), ?_⟩
    have k := rights_upto n bl cp vs w j (by omega) hn h (fun i hi => (h1 i hi).call hw) (fun _ => h2.call hw)
    rw [decide_eq_false (by omega)] at k
    exact k
end Go.Proofs.YtdchddiilnhbcaaDoor
