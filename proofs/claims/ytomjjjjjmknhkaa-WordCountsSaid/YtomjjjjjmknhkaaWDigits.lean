/- Decimal digits of a number: plain mathematics. No conditions. -/
import Derived.Test.YtomjjjjjmknhkaaLaw
namespace Go.Proofs.Ytomjjjjjmknhkaa

/-- The digits of a number, the least weight first, none for 0. -/
def lsd (n : Nat) : List Nat := if h : n = 0 then [] else n % 10 :: lsd (n / 10)
termination_by n
decreasing_by omega

theorem lsd_zero : lsd 0 = [] := by rw [lsd]; simp
theorem lsd_pos {n : Nat} (h : n ≠ 0) : lsd n = n % 10 :: lsd (n / 10) := by rw [lsd]; simp [h]

def byteOf (d : Nat) : UInt8 := UInt8.ofNat (48 + d)
/-- The text of a number. -/
def decText (n : Nat) : List UInt8 := if n = 0 then [48] else (lsd n).reverse.map byteOf

/-- The first k digits. -/
def ds (n k : Nat) : List Nat := (List.range k).map fun i => n / 10 ^ i % 10

theorem ds_succ (n k : Nat) : ds n (k + 1) = n % 10 :: ds (n / 10) k := by
  unfold ds
  rw [List.range_succ_eq_map, List.map_cons, List.map_map]
  simp only [Nat.pow_zero, Nat.div_one, List.cons.injEq, true_and]
  apply List.map_congr_left
  intro i _
  simp only [Function.comp, Nat.succ_eq_add_one]
  rw [Nat.pow_succ, Nat.mul_comm, ← Nat.div_div_eq_div_mul]

theorem ds_lsd : ∀ (k n : Nat), n ≠ 0 → n / 10 ^ (k + 1) = 0 → (k = 0 ∨ n / 10 ^ k ≠ 0) → ds n (k + 1) = lsd n := by
  intro k
  induction k with
  | zero =>
    intro n hn h _
    rw [ds_succ, lsd_pos hn]
    simp at h
    have : n / 10 = 0 := by omega
    rw [this, lsd_zero]
    rfl
  | succ k ih =>
    intro n hn h hk
    have hk' : n / 10 ^ (k + 1) ≠ 0 := by rcases hk with h | h; omega; exact h
    have e : ∀ j, n / 10 ^ (j + 1) = n / 10 / 10 ^ j := fun j => by rw [Nat.pow_succ, Nat.mul_comm, ← Nat.div_div_eq_div_mul]
    rw [e] at h hk'
    have h10 : n / 10 ≠ 0 := fun h0 => by rw [h0] at hk'; simp at hk'
    rw [ds_succ, lsd_pos hn, ih (n / 10) h10 h (Or.inr hk')]

theorem ds_text (k n : Nat) (h : n / 10 ^ (k + 1) = 0) (hk : k = 0 ∨ n / 10 ^ k ≠ 0) : (ds n (k + 1)).reverse.map byteOf = decText n := by
  unfold decText
  by_cases hn : n = 0
  · subst hn
    have hk0 : k = 0 := by rcases hk with h | h; exact h; simp at h
    subst hk0
    rw [if_pos rfl]
    decide
  · rw [if_neg hn, ds_lsd k n hn h hk]

theorem ds_len (n k : Nat) : ((ds n k).reverse.map byteOf).length = k := by simp [ds]

theorem ds_at (n k j : Nat) (hj : j < ((ds n k).reverse.map byteOf).length) : ((((ds n k).reverse.map byteOf)[j].toNat : Nat) : Int) = ((48 + n / 10 ^ (k - 1 - j) % 10 : Nat) : Int) := by
  have hj' : j < k := by simpa [ds] using hj
  simp only [List.getElem_map, List.getElem_reverse, ds, List.length_map, List.length_range, List.getElem_range, byteOf]
  have : n / 10 ^ (k - 1 - j) % 10 < 10 := Nat.mod_lt _ (by omega)
  rw [UInt8.toNat_ofNat']
  omega

/-- Cell j of the array of 39 digits behind k rounds. -/
def dig (n k j : Nat) : Nat := if 39 ≤ j + k then 48 + n / 10 ^ (38 - j) % 10 else 0
theorem dig_zero (n j : Nat) (h : j < 39) : dig n 0 j = 0 := by unfold dig; rw [if_neg (by omega)]
theorem dig_other (n k j : Nat) (h : j + k ≠ 38) : dig n (k + 1) j = dig n k j := by
  unfold dig
  by_cases h1 : 39 ≤ j + k
  · rw [if_pos h1, if_pos (by omega)]
  · rw [if_neg h1, if_neg (by omega)]
theorem dig_new (n k j : Nat) (h : j + k = 38) : dig n (k + 1) j = 48 + n / 10 ^ k % 10 := by
  unfold dig
  rw [if_pos (by omega), show 38 - j = k by omega]
theorem dig_old (n k j : Nat) (h : 39 ≤ j + k) : dig n k j = 48 + n / 10 ^ (38 - j) % 10 := by
  unfold dig
  rw [if_pos h]

/-- Twice a number, plus a bit, by its digits. -/
def dbl : List Nat → Nat → List Nat
  | [], b => if 0 < b then [b] else []
  | d :: r, b => (2 * d + b) % 10 :: dbl r ((2 * d + b) / 10)

theorem dbl_lsd : ∀ (m n b : Nat), n ≤ m → b ≤ 1 → dbl (lsd n) b = lsd (2 * n + b) := by
  intro m
  induction m with
  | zero =>
    intro n b hn hb
    obtain rfl : n = 0 := by omega
    rw [lsd_zero]
    have : b = 0 ∨ b = 1 := by omega
    rcases this with rfl | rfl
    · rw [lsd_zero]; rfl
    · rw [lsd_pos (by omega), lsd_zero]; rfl
  | succ m ih =>
    intro n b hn hb
    by_cases h0 : n = 0
    · exact ih n b (by omega) hb
    · rw [lsd_pos h0, lsd_pos (n := 2 * n + b) (by omega)]
      show (2 * (n % 10) + b) % 10 :: dbl (lsd (n / 10)) ((2 * (n % 10) + b) / 10) = _
      rw [ih (n / 10) _ (by omega) (by omega)]
      congr 1
      · omega
      · congr 1; omega

theorem lsd_len : ∀ (k n : Nat), n < 10 ^ k → (lsd n).length ≤ k := by
  intro k
  induction k with
  | zero => intro n h; simp at h; subst h; rw [lsd_zero]; simp
  | succ k ih =>
    intro n h
    by_cases h0 : n = 0
    · subst h0; rw [lsd_zero]; simp
    · rw [lsd_pos h0]
      have := ih (n / 10) (by rw [Nat.pow_succ] at h; omega)
      simp; omega

theorem lsd_small : ∀ (m n : Nat), n ≤ m → ∀ d ∈ lsd n, d < 10 := by
  intro m
  induction m with
  | zero => intro n hn; obtain rfl : n = 0 := by omega
            simp [lsd_zero]
  | succ m ih =>
    intro n hn
    by_cases h0 : n = 0
    · exact ih n (by omega)
    · rw [lsd_pos h0]
      intro d hd
      rcases List.mem_cons.1 hd with rfl | hd
      · omega
      · exact ih (n / 10) (by omega) d hd
end Go.Proofs.Ytomjjjjjmknhkaa
