/- The text of a code. Condition: the code is an int. -/
import Derived.Test.YtenfchkellkifaaDoorHas
namespace Go.Proofs.YtenfchkellkifaaDoor
open Go.RowKit Go.Extern.Stop Go.Stop Go.Extern

/-- The text of a code that is not negative, from its last digit on. -/
def errS : Nat → Nat → ByteArray → ByteArray
  | 0, m, t => (⟨#[101, 114, 114, 111, 114, 32]⟩ ++ Utf8.encode (48 + (m : Int))) ++ t
  | f + 1, m, t => if 9 < m then errS f (m / 10) (Utf8.encode (48 + (m : Int) % 10) ++ t) else (⟨#[101, 114, 114, 111, 114, 32]⟩ ++ Utf8.encode (48 + (m : Int))) ++ t

theorem errS_last (f m : Nat) (t : ByteArray) (h : ¬ 9 < m) : errS f m t = (⟨#[101, 114, 114, 111, 114, 32]⟩ ++ Utf8.encode (48 + (m : Int))) ++ t := by
  cases f with
  | zero => rfl
  | succ f => rw [errS, if_neg h]

/-- The text of a code. -/
def errT (c : Int) : ByteArray := if c < 0 then ⟨#[101, 114, 114, 111, 114]⟩ else errS c.toNat c.toNat ⟨#[]⟩

theorem enc_size (x : Nat) (h : x < 10) : (Utf8.encode (48 + (x : Int))).size = 1 := by
  have k : ∀ y : Fin 10, (Utf8.encode (48 + ((y.val : Nat) : Int))).size = 1 := by decide
  exact k ⟨x, h⟩

theorem enc_size_mod (m : Nat) : (Utf8.encode (48 + (m : Int) % 10)).size = 1 := by
  have h := enc_size (m % 10) (by omega)
  rw [Int.natCast_emod] at h
  exact h

theorem small_of_pow (k m c : Nat) (hm : 0 < m) (h : m * 10 ^ k ≤ c) (hc : c ≤ 9223372036854775807) : k ≤ 18 := by
  rcases Nat.lt_or_ge 18 k with hk | hk
  · have h1 : 10 ^ 19 ≤ 10 ^ k := Nat.pow_le_pow_right (by decide) hk
    have h2 : 1 * 10 ^ k ≤ m * 10 ^ k := Nat.mul_le_mul_right _ hm
    have h3 : (10 : Nat) ^ 19 = 10000000000000000000 := by decide
    omega
  · exact hk

theorem pow_step (m k : Nat) : m / 10 * 10 ^ (k + 1) ≤ m * 10 ^ k := by
  rw [Nat.pow_succ, Nat.mul_comm (10 ^ k) 10, ← Nat.mul_assoc]
  exact Nat.mul_le_mul_right _ (Nat.div_mul_le_self m 10)

theorem errS_size (c : Nat) (hc : c ≤ 9223372036854775807) : ∀ (f m : Nat) (t : ByteArray), m ≤ f → m * 10 ^ t.size ≤ c → (m = 0 → t.size = 0) → (errS f m t).size ≤ 40 := by
  intro f
  induction f with
  | zero =>
    intro m t hm _ h0
    obtain rfl : m = 0 := by omega
    have := enc_size 0 (by omega)
    have h00 := h0 rfl
    simp only [errS, ByteArray.size_append]
    rw [this, h00]
    decide
  | succ f ih =>
    intro m t hm hp h0
    by_cases h9 : 9 < m
    · rw [errS, if_pos h9]
      have he := enc_size_mod m
      have hsz : (Utf8.encode (48 + (m : Int) % 10) ++ t).size = t.size + 1 := by rw [ByteArray.size_append, he]; omega
      refine ih _ _ (by omega) ?_ (by omega)
      rw [hsz]
      exact Nat.le_trans (pow_step m t.size) hp
    · rw [errS_last _ _ _ h9]
      have h1 := enc_size m (by omega)
      have h2 : t.size ≤ 18 := by
        rcases Nat.eq_zero_or_pos m with h | h
        · have := h0 h; omega
        · exact small_of_pow _ m c h hp hc
      simp only [ByteArray.size_append]
      rw [h1]
      have h6 : (⟨#[101, 114, 114, 111, 114, 32]⟩ : ByteArray).size = 6 := by decide
      omega

theorem errT_size (c : Int) (hc : c ≤ 9223372036854775807) : (errT c).size ≤ 40 := by
  unfold errT
  split
  · decide
  · exact errS_size c.toNat (by omega) _ _ _ (Nat.le_refl _) (by show c.toNat * 10 ^ 0 ≤ c.toNat; omega) (fun _ => rfl)

theorem errno_neg (c : Int) (w : World) (h : c < 0) :
    Calls Tryd.prog 32 #[.int .i64 c] w (fun e w' => e = .returned (.string (errT c)) ∧ w = w') := by
  have hf : errT c = ⟨#[101, 114, 114, 111, 114]⟩ := by unfold errT; rw [if_pos h]
  have Hf := Lib.hid hf; clear hf
  go_enter Tryd.func32, Tryd.ntmps32
  go_wp2_with fail
  go_ret
  exact ⟨by rw [Hf.out]; rfl, rfl⟩

def TextEnd (t : ByteArray) (w : World) (e : Ending) (w' : World) : Prop := e = .returned (.string t) ∧ w = w'

/-- What holds at the head of a round: m and t still yield the text. -/
def ErrRel (c g m : Nat) (t : ByteArray) : Prop := m ≤ c ∧ m * 10 ^ t.size ≤ c ∧ (m = 0 → t.size = 0) ∧ errS g m t = errS c c ⟨#[]⟩

set_option maxRecDepth 100000 in
theorem errno_pos (c : Nat) (w : World) (hc : c ≤ 9223372036854775807) :
    Calls Tryd.prog 32 #[.int .i64 c] w (TextEnd (errT c) w) := by
  have hf : errT c = errS c c ⟨#[]⟩ := by unfold errT; rw [if_neg (by omega)]; rfl
  have Hf := Lib.hid hf; clear hf
  have hn : decide ((c : Int) < 0) = false := by simp
  have HC := Lib.hid hc; clear hc
  go_enter Tryd.func32, Tryd.ntmps32
  go_wp2_with fail
  go_loopg [3, 4] c (fun g n s wr => ∃ (m : Nat) (t : ByteArray), n = .int .i64 m ∧ s = .string t ∧ m ≤ g ∧ wr = w ∧ ErrRel c g m t)
  case atStart => exact ⟨c, ⟨#[]⟩, rfl, rfl, Nat.le_refl _, rfl, Nat.le_refl _, (by show c * 10 ^ 0 ≤ c; omega), fun _ => rfl, rfl⟩
  case round =>
    obtain ⟨m, t, rfl, rfl, hm, rfl, hmc, hp, h0, he⟩ := hrel
    have hc := HC.out
    have hmI : (m : Int) ≤ 9223372036854775807 := by omega
    by_cases hlt : 9 < m
    · have h18 := small_of_pow t.size m c (by omega) hp hc
      have hsz : (Utf8.encode (48 + (m : Int) % 10)).size + t.size ≤ 100 := by rw [enc_size_mod m]; omega
      clear hc
      have Hp := Lib.hid hp; clear hp
      have H0 := Lib.hid h0; clear h0
      have He := Lib.hid he; clear he
      go_wp2_with fail
      go_roundg (gk - 1)
      case measure => omega
      case rel =>
        refine ⟨m / 10, Utf8.encode (48 + (m : Int) % 10) ++ t, by go_num, rfl, by omega, rfl, by omega, ?_, by omega, ?_⟩
        · have e : (Utf8.encode (48 + (m : Int) % 10) ++ t).size = t.size + 1 := by rw [ByteArray.size_append, enc_size_mod m]; omega
          rw [e]
          exact Nat.le_trans (pow_step m t.size) Hp.out
        · rw [← He.out]
          obtain ⟨g, rfl⟩ : ∃ g, gk = g + 1 := ⟨gk - 1, by omega⟩
          rw [errS, if_pos hlt]; rfl
    · have h2 : t.size ≤ 18 := by
        rcases Nat.eq_zero_or_pos m with h | h
        · have := h0 h; omega
        · exact small_of_pow _ m c h hp hc
      have hle : m ≤ 9 := by omega
      have hd : decide ((9 : Int) < (m : Int)) = false := by simp; omega
      have Hlt := Lib.hid hlt; clear hlt
      have hsz : 6 + (Utf8.encode (48 + (m : Int))).size ≤ 100 := by rw [enc_size m (by omega)]; omega
      have hsz2 : 6 + (Utf8.encode (48 + (m : Int))).size + t.size ≤ 100 := by rw [enc_size m (by omega)]; omega
      clear hc
      have Hp := Lib.hid hp; clear hp
      have H0 := Lib.hid h0; clear h0
      have He := Lib.hid he; clear he
      go_wp2_with fail
      go_ret
      exact ⟨by rw [Hf.out, ← He.out, errS_last gk m t Hlt.out]; rfl, rfl⟩

theorem errno_any (c : Int) (w : World) (hc : c ≤ 9223372036854775807) :
    Calls Tryd.prog 32 #[.int .i64 c] w (TextEnd (errT c) w) := by
  rcases Int.lt_or_le c 0 with h | h
  · exact errno_neg c w h
  · obtain ⟨n, rfl⟩ := Int.eq_ofNat_of_zero_le h
    exact errno_pos n w (by omega)
end Go.Proofs.YtenfchkellkifaaDoor
