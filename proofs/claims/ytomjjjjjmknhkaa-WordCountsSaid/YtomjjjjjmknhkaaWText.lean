/- Text of package word returns the decimal text of every count. Conditions: the count's two parts are numbers of 64 bits. -/
import Derived.Test.YtomjjjjjmknhkaaWDiv
import Derived.Test.YtomjjjjjmknhkaaWDigits
import Derived.Laws.IdiomStrings
namespace Go.Proofs.Ytomjjjjjmknhkaa
open Go.RowKit

def hiN (m : Nat) : Nat := m / 18446744073709551616
def loN (m : Nat) : Nat := m % 18446744073709551616
def DivEnd (m : Nat) (w : World) (e : Ending) (w' : World) : Prop :=
  e = .returned (.tuple #[.agg #[.int .u64 (hiN (m / 10) : Nat), .int .u64 (loN (m / 10) : Nat)], .int .u64 (m % 10 : Nat)]) ∧ Below w.heap.size w w'

theorem divide_nat (m : Nat) (hm : m < 340282366920938463463374607431768211456) (w : World) :
    Calls Try.prog 28 #[.agg #[.int .u64 (hiN m : Nat), .int .u64 (loN m : Nat)]] w (DivEnd m w) := by
  have h := divide_any (hiN m : Nat) (loN m : Nat) w (by omega) (by unfold hiN; omega) (by omega) (by unfold loN; omega)
  have e1 : ((hiN m : Nat) : Int) / 10 = ((hiN (m / 10) : Nat) : Int) := by unfold hiN; omega
  have e2 : (((hiN m : Nat) : Int) % 10 * 18446744073709551616 + ((loN m : Nat) : Int)) / 10 = ((loN (m / 10) : Nat) : Int) := by unfold hiN loN; omega
  have e3 : (((hiN m : Nat) : Int) % 10 * 18446744073709551616 + ((loN m : Nat) : Int)) % 10 = ((m % 10 : Nat) : Int) := by unfold hiN loN; omega
  rw [e1, e2, e3] at h
  exact h

/-- The boxed count and the array behind k rounds. -/
structure TextAt (B n k : Nat) (W wr : World) : Prop where
  c0 : wr.cell? ⟨B, 0, none⟩ = some (.int .u64 (hiN (n / 10 ^ k) : Nat))
  c1 : wr.cell? ⟨B, 1, none⟩ = some (.int .u64 (loN (n / 10 ^ k) : Nat))
  f0 : wr.frozen? ⟨B, 0, none⟩ = false
  f1 : wr.frozen? ⟨B, 1, none⟩ = false
  d : ∀ j, j < 39 → wr.cell? ⟨B + 1, j, none⟩ = some (.int .u8 (dig n k j : Nat))
  df : ∀ j, j < 39 → wr.frozen? ⟨B + 1, j, none⟩ = false
  size : B + 2 ≤ wr.heap.size
  below : Below B W wr

theorem TextAt.call {B n k : Nat} {W w1 w2 : World} (h : TextAt B n k W w1) (hb : Below w1.heap.size w1 w2) : TextAt B n k W w2 := by
  have hs := h.size
  exact ⟨keep_cell h.c0 hb, keep_cell h.c1 hb, keep_free h.f0 (by simp; omega) hb, keep_free h.f1 (by simp; omega) hb, fun j hj => keep_cell (h.d j hj) hb, fun j hj => keep_free (h.df j hj) (by simp; omega) hb,
    Nat.le_trans hs hb.size, h.below.trans (hb.mono (by omega))⟩

/-- What a round stores. -/
theorem TextAt.round {B n k g : Nat} {W w1 : World} (h : TextAt B n k W w1) (hg : g + k = 38) {y0 y1 x : Int} (e0 : y0 = (hiN (n / 10 ^ (k + 1)) : Nat)) (e1 : y1 = (loN (n / 10 ^ (k + 1)) : Nat)) (e2 : x = (48 + n / 10 ^ k % 10 : Nat)) :
    TextAt B n (k + 1) W (((w1.setCell ⟨B, 0, none⟩ (.int .u64 y0)).setCell ⟨B, 1, none⟩ (.int .u64 y1)).setCell ⟨B + 1, g, none⟩ (.int .u8 x)) := by
  subst e0 e1 e2
  have hs := two_stored h.c0 h.c1 (.int .u64 (hiN (n / 10 ^ (k + 1)) : Nat)) (.int .u64 (loN (n / 10 ^ (k + 1)) : Nat))
  have hz := h.size
  refine ⟨?_, ?_, by simp [h.f0], by simp [h.f1], fun j hj => ?_, fun j hj => by simp [h.df j hj], by simpa using hz, ((h.below.setCell (Nat.le_refl _) _).setCell (Nat.le_refl _) _).setCell (by simp) _⟩
  · rw [World.cell?_setCell_other _ _ _ _ (by simp)]; exact hs.1
  · rw [World.cell?_setCell_other _ _ _ _ (by simp)]; exact hs.2.1
  · by_cases hjg : j = g
    · subst hjg
      rw [dig_new n k j hg]
      refine World.cell?_setCell_same' _ _ _ ?_
      rw [World.cell?_setCell_other _ _ _ _ (by simp), World.cell?_setCell_other _ _ _ _ (by simp), h.d j hj]; rfl
    · have hne : (⟨B + 1, g, none⟩ : Addr) ≠ ⟨B + 1, j, none⟩ := by intro h; injection h with _ h; omega
      rw [dig_other n k j (by omega), World.cell?_setCell_other _ _ _ _ hne, World.cell?_setCell_other _ _ _ _ (by simp), World.cell?_setCell_other _ _ _ _ (by simp)]
      exact h.d j hj

theorem slice_digits (b g : Nat) (hg : g ≤ 38) (w : World) :
    (Instr.sliceAt 50 (.pointer (some ⟨b, 0, none⟩)) (some (.int .i64 (g : Int))) none none).run Try.prog w = .ok (.slice (some ⟨b, g, none⟩) (39 - g) (39 - g)) w := by
  have e1 : Try.prog.arrayLen 50 = 39 := by kernel_rfl
  have e2 : (sizeOf (Try.prog.elem 50)).run Try.prog w = .ok 1 w := by kernel_rfl
  have hne : ¬ 39 = g := by omega
  rw [run_sliceAt_array_l w 50 ⟨b, 0, none⟩ (by kernel_rfl) .i64 g (by omega) (by rw [e1]; omega), e1, e2]
  simp [Result.andThen, slicedAt, hne, Go.WideShapes.add_plain]

theorem text_back {B n k g : Nat} {W wr : World} (h : TextAt B n (k + 1) W wr) (hg : g + k = 38) (hz : n / 10 ^ (k + 1) = 0) (hk : k = 0 ∨ n / 10 ^ k ≠ 0) :
    (convert 53 9 (.slice (some ⟨B + 1, g, none⟩) (39 - g) (39 - g))).run Try.prog wr = .ok (.string ⟨(decText n).toArray⟩) wr := by
  have e : 39 - g = ((ds n (k + 1)).reverse.map byteOf).length := by rw [ds_len]; omega
  have h := run_convert_bytes_back (P := Try.prog) wr 53 9 5 ⟨B + 1, g, none⟩ (39 - g) ((ds n (k + 1)).reverse.map byteOf) Try.underlying53 Try.underlying5 Try.underlying9 (fun j hj => by
    have hj' : j < k + 1 := by rw [ds_len] at hj; exact hj
    rw [ds_at n (k + 1) j hj]
    have := h.d (g + j) (by omega)
    rw [dig_old n (k + 1) (g + j) (by omega)] at this
    rw [show k + 1 - 1 - j = 38 - (g + j) by omega]
    rw [Go.WideShapes.add_plain]
    exact this)
  rw [← e, ds_text k n hz hk] at h
  exact h

theorem text_start (n : Nat) (w : World) (C : Array Value) (t u : TypeId) (hC : C = Array.replicate 39 (.int .u8 0)) :
    TextAt w.heap.size n 0 w ((w.alloc (.cells #[.int .u64 (hiN n : Nat), .int .u64 (loN n : Nat)] t)).alloc (.cells C u)) := by
  subst hC
  have e : ∀ j, j < 39 → (Array.replicate 39 (Value.int .u8 0))[j]? = some (.int .u8 (dig n 0 j : Nat)) := fun j hj => by
    rw [dig_zero n j hj]; simp [hj]
  refine ⟨by simp, by simp, by simp, by simp, fun j hj => ?_, fun j hj => by simp, by simp, below_alloc (below_alloc (Below.refl _ _) _) _⟩
  rw [World.cell?_alloc_at _ _ _ _ (by simp)]
  exact e j hj

/-- A count of no more than 39 digits runs out in 39 rounds. -/
theorem rounds_le {n k : Nat} (hn : n < 10 ^ 39) (h : n / 10 ^ k ≠ 0) : k ≤ 38 := by
  rcases Nat.lt_or_ge 38 k with h1 | h1
  · exact absurd (Nat.div_eq_of_lt (Nat.lt_of_lt_of_le hn (Nat.pow_le_pow_right (by omega) (by omega)))) h
  · exact h1

def IsText (l : List UInt8) (w : World) (e : Ending) (w' : World) : Prop := e = .returned (.string ⟨l.toArray⟩) ∧ Below w.heap.size w w'

set_option maxRecDepth 100000 in
theorem text_any (n : Nat) (hn : n < 340282366920938463463374607431768211456) (w : World) :
    Calls Try.prog 22 #[.agg #[.int .u64 (hiN n : Nat), .int .u64 (loN n : Nat)]] w (IsText (decText n) w) := by
  have hn2 : n < 10 ^ 39 := Nat.lt_trans hn (by decide)
  have HN := Lib.hid hn; clear hn
  have HN2 := Lib.hid hn2; clear hn2
  go_enter Try.func22, Try.ntmps22
  go_wp2_with fail
  go_loopw [4, 6] (fun f i wr => ∃ k g : Nat, g + k = 38 ∧ i = .int .i64 k ∧ f = .int .i64 (g + 1 : Nat) ∧ (k = 0 ∨ n / 10 ^ k ≠ 0) ∧ TextAt w.heap.size n k w wr) (fun _ i _ => 39 - (intOf i).toNat)
  case atStart => exact ⟨0, 38, rfl, rfl, rfl, Or.inl rfl, text_start n w _ _ _ rfl⟩
  case round =>
    obtain ⟨k, g, hkg, rfl, rfl, hk, hT⟩ := hrel
    have e10 : n / 10 ^ k / 10 = n / 10 ^ (k + 1) := by rw [Nat.pow_succ, ← Nat.div_div_eq_div_mul]
    have kd := divide_nat (n / 10 ^ k) (Nat.lt_of_le_of_lt (Nat.div_le_self _ _) HN.out) wr
    unfold DivEnd at kd
    rw [e10] at kd
    obtain ⟨r, hr⟩ : ∃ r, n / 10 ^ k % 10 = r := ⟨_, rfl⟩
    have hr9 : r ≤ 9 := by omega
    rw [hr] at kd
    have hc0 := hT.c0
    have hc1 := hT.c1
    have hT0 := Lib.hid hT; clear hT
    have HK := Lib.hid hk; clear hk
    have HR := Lib.hid hr; clear hr
    have KD := Lib.hid kd; clear kd e10
    have hg2 : g ≤ 38 := by omega
    have hk2 : k < 39 := by omega
    have HG := Lib.hid hkg; clear hkg
    go_wp2_with fail
    refine KD.out.mono ?_
    rintro e w1 ⟨rfl, hb⟩
    have hT1 := hT0.out.call hb
    clear hc0 hc1 hb
    have hd0 := hT1.d g (by omega)
    have hd1 := hT1.df g (by omega)
    have hc0 := hT1.c0
    have hc1 := hT1.c1
    have hf0 := hT1.f0
    have hf1 := hT1.f1
    have hz : w.heap.size ≠ w.heap.size + 1 := by omega
    have HT1 := Lib.hid hT1; clear hT1
    have hsl := fun W => slice_digits (w.heap.size + 1) g hg2 W
    by_cases hq : n / 10 ^ (k + 1) = 0
    · have HQ := Lib.hid hq
      have z1 : hiN 0 = 0 := rfl
      have z2 : loN 0 = 0 := rfl
      simp only [hq, z1, z2]
      clear hq z1 z2
      have HT2 := Lib.hid (HT1.out.round HG.out (y0 := 0) (y1 := 0) (x := 48 + r) (by rw [HQ.out]; rfl) (by rw [HQ.out]; rfl) (by rw [HR.out]; omega))
      have hcv := text_back HT2.out HG.out HQ.out HK.out
      go_wp2_with fail
      go_ret
      exact ⟨rfl, HT2.out.below⟩
    · have hk1 := rounds_le HN2.out hq
      obtain ⟨y0, hy0⟩ : ∃ y, hiN (n / 10 ^ (k + 1)) = y := ⟨_, rfl⟩
      obtain ⟨y1, hy1⟩ : ∃ y, loN (n / 10 ^ (k + 1)) = y := ⟨_, rfl⟩
      have HT2 := Lib.hid (HT1.out.round HG.out (y0 := y0) (y1 := y1) (x := 48 + r) (by rw [hy0]) (by rw [hy1]) (by rw [HR.out]; omega))
      have hne : ¬ (y0 = 0 ∧ y1 = 0) := by
        intro ⟨a, b⟩
        rw [← hy0] at a
        rw [← hy1] at b
        unfold hiN at a
        unfold loN at b
        omega
      have HQ := Lib.hid hq; clear hq
      simp only [hy0, hy1]
      clear hy0 hy1
      have HK1 := Lib.hid hk1; clear hk1
      by_cases h0 : y0 = 0
      · have h1 : ¬ y1 = 0 := fun h => hne ⟨h0, h⟩
        subst h0
        clear hne
        go_wp2_with fail
        go_roundw
        case rel =>
          have := HG.out
          have := HK1.out
          exact ⟨k + 1, g - 1, by omega, by go_num, by rw [show g - 1 + 1 = g by omega], Or.inr HQ.out, HT2.out⟩
        case measure => simp [intOf]; omega
      · clear hne
        go_wp2_with fail
        go_roundw
        case rel =>
          have := HG.out
          have := HK1.out
          exact ⟨k + 1, g - 1, by omega, by go_num, by rw [show g - 1 + 1 = g by omega], Or.inr HQ.out, HT2.out⟩
        case measure => simp [intOf]; omega
end Go.Proofs.Ytomjjjjjmknhkaa
