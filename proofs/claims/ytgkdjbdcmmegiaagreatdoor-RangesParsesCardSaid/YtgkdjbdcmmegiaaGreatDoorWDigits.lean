/- Decimal digits of a number: plain mathematics. No conditions. -/
import Derived.Test.YtgkdjbdcmmegiaaGreatDoorLaw
import Derived.Test.YtgkdjbdcmmegiaaGreatDoorRShelf
import Derived.Test.YtgkdjbdcmmegiaaGreatDoorRIv
import Derived.Lib.Walk
import Derived.Lib.ItoaWalk
import Derived.Lib.ItoaMem
import Derived.Lib.AppendIntMem
import Derived.Lib.BufferKept
import Derived.WalkKit
import Derived.BigCall
import Derived.BigGuard
import Derived.Test.YtgkdjbdcmmegiaaGreatDoorROwn
import Derived.Lib.Join
namespace Go.Proofs.YtgkdjbdcmmegiaaGreatDoor

/-- The digits of a number, the least weight first, none for 0. -/
def lsd (n : Nat) : List Nat := if h : n = 0 then [] else n % 10 :: lsd (n / 10)
termination_by n
decreasing_by omega

theorem lsd_zero : lsd 0 = [] := by rw [lsd]; simp
theorem lsd_pos {n : Nat} (h : n ≠ 0) : lsd n = n % 10 :: lsd (n / 10) := by rw [lsd]; simp [h]

def byteOf (d : Nat) : UInt8 := UInt8.ofNat (48 + d)
/-- The text of a number. -/
def decText (n : Nat) : List UInt8 := if n = 0 then [48] else (lsd n).reverse.map byteOf

/-- The first k digits. -/
def ds (n k : Nat) : List Nat := (List.range k).map fun i => n / 10 ^ i % 10

theorem ds_succ (n k : Nat) : ds n (k + 1) = n % 10 :: ds (n / 10) k := by
  unfold ds
  rw [List.range_succ_eq_map, List.map_cons, List.map_map]
  simp only [Nat.pow_zero, Nat.div_one, List.cons.injEq, true_and]
  apply List.map_congr_left
  intro i _
  simp only [Function.comp, Nat.succ_eq_add_one]
  rw [Nat.pow_succ, Nat.mul_comm, ← Nat.div_div_eq_div_mul]

theorem ds_lsd : ∀ (k n : Nat), n ≠ 0 → n / 10 ^ (k + 1) = 0 → (k = 0 ∨ n / 10 ^ k ≠ 0) → ds n (k + 1) = lsd n := by
  intro k
  induction k with
  | zero =>
    intro n hn h _
    rw [ds_succ, lsd_pos hn]
    simp at h
    have : n / 10 = 0 := by omega
    rw [this, lsd_zero]
    rfl
  | succ k ih =>
    intro n hn h hk
    have hk' : n / 10 ^ (k + 1) ≠ 0 := by rcases hk with h | h; omega; exact h
    have e : ∀ j, n / 10 ^ (j + 1) = n / 10 / 10 ^ j := fun j => by rw [Nat.pow_succ, Nat.mul_comm, ← Nat.div_div_eq_div_mul]
    rw [e] at h hk'
    have h10 : n / 10 ≠ 0 := fun h0 => by rw [h0] at hk'; simp at hk'
    rw [ds_succ, lsd_pos hn, ih (n / 10) h10 h (Or.inr hk')]

theorem ds_text (k n : Nat) (h : n / 10 ^ (k + 1) = 0) (hk : k = 0 ∨ n / 10 ^ k ≠ 0) : (ds n (k + 1)).reverse.map byteOf = decText n := by
  unfold decText
  by_cases hn : n = 0
  · subst hn
    have hk0 : k = 0 := by rcases hk with h | h; exact h; simp at h
    subst hk0
    rw [if_pos rfl]
    decide
  · rw [if_neg hn, ds_lsd k n hn h hk]

theorem ds_len (n k : Nat) : ((ds n k).reverse.map byteOf).length = k := by simp [ds]

theorem ds_at (n k j : Nat) (hj : j < ((ds n k).reverse.map byteOf).length) : ((((ds n k).reverse.map byteOf)[j].toNat : Nat) : Int) = ((48 + n / 10 ^ (k - 1 - j) % 10 : Nat) : Int) := by
  have hj' : j < k := by simpa [ds] using hj
  simp only [List.getElem_map, List.getElem_reverse, ds, List.length_map, List.length_range, List.getElem_range, byteOf]
  have : n / 10 ^ (k - 1 - j) % 10 < 10 := Nat.mod_lt _ (by omega)
  rw [UInt8.toNat_ofNat']
  omega

/-- Cell j of the array of 39 digits behind k rounds. -/
def dig (n k j : Nat) : Nat := if 39 ≤ j + k then 48 + n / 10 ^ (38 - j) % 10 else 0
theorem dig_zero (n j : Nat) (h : j < 39) : dig n 0 j = 0 := by unfold dig; rw [if_neg (by omega)]
theorem dig_other (n k j : Nat) (h : j + k ≠ 38) : dig n (k + 1) j = dig n k j := by
  unfold dig
  by_cases h1 : 39 ≤ j + k
  · rw [if_pos h1, if_pos (by omega)]
  · rw [if_neg h1, if_neg (by omega)]
theorem dig_new (n k j : Nat) (h : j + k = 38) : dig n (k + 1) j = 48 + n / 10 ^ k % 10 := by
  unfold dig
  rw [if_pos (by omega), show 38 - j = k by omega]
theorem dig_old (n k j : Nat) (h : 39 ≤ j + k) : dig n k j = 48 + n / 10 ^ (38 - j) % 10 := by
  unfold dig
  rw [if_pos h]

/-- Twice a number, plus a bit, by its digits. -/
def dbl : List Nat → Nat → List Nat
  | [], b => if 0 < b then [b] else []
  | d :: r, b => (2 * d + b) % 10 :: dbl r ((2 * d + b) / 10)

theorem dbl_lsd : ∀ (m n b : Nat), n ≤ m → b ≤ 1 → dbl (lsd n) b = lsd (2 * n + b) := by
  intro m
  induction m with
  | zero =>
    intro n b hn hb
    obtain rfl : n = 0 := by omega
    rw [lsd_zero]
    have : b = 0 ∨ b = 1 := by omega
    rcases this with rfl | rfl
    · rw [lsd_zero]; rfl
    · rw [lsd_pos (by omega), lsd_zero]; rfl
  | succ m ih =>
    intro n b hn hb
    by_cases h0 : n = 0
    · exact ih n b (by omega) hb
    · rw [lsd_pos h0, lsd_pos (n := 2 * n + b) (by omega)]
      show (2 * (n % 10) + b) % 10 :: dbl (lsd (n / 10)) ((2 * (n % 10) + b) / 10) = _
      rw [ih (n / 10) _ (by omega) (by omega)]
      congr 1
      · omega
      · congr 1; omega

theorem lsd_len : ∀ (k n : Nat), n < 10 ^ k → (lsd n).length ≤ k := by
  intro k
  induction k with
  | zero => intro n h; simp at h; subst h; rw [lsd_zero]; simp
  | succ k ih =>
    intro n h
    by_cases h0 : n = 0
    · subst h0; rw [lsd_zero]; simp
    · rw [lsd_pos h0]
      have := ih (n / 10) (by rw [Nat.pow_succ] at h; omega)
      simp; omega

theorem lsd_small : ∀ (m n : Nat), n ≤ m → ∀ d ∈ lsd n, d < 10 := by
  intro m
  induction m with
  | zero => intro n hn; obtain rfl : n = 0 := by omega
            simp [lsd_zero]
  | succ m ih =>
    intro n hn
    by_cases h0 : n = 0
    · exact ih n (by omega)
    · rw [lsd_pos h0]
      intro d hd
      rcases List.mem_cons.1 hd with rfl | hd
      · omega
      · exact ih (n / 10) (by omega) d hd
end Go.Proofs.YtgkdjbdcmmegiaaGreatDoor

/- strconv.FormatUint at base 10 returns the decimal numeral. Conditions: the number has 64 bits; the table of powers of ten is in its variable. -/
namespace Go.Proofs.YtgkdjbdcmmegiaaGreatDoor
open Go.RowKit Go.Shelf Go.Lib
open Go.Sort hiding Below

/-- A call that returns a text and leaves what was. -/
def IsStr (l : List UInt8) (w : World) (e : Ending) (w' : World) : Prop := e = .returned (.string ⟨l.toArray⟩) ∧ Below w.heap.size w w'
/-- The table of the powers of ten. -/
def Pow (w : World) : Prop := Lib.TabIs Tryz.prog w "internal/strconv.uint64pow10" .u64 Lib.pow10Tab

/-- .. and it stays. -/
def PowT (w : World) : Prop := ∀ W, Below w.heap.size w W → Pow W
theorem PowT.now {w : World} (h : PowT w) : Pow w := h w (Below.refl _ _)
theorem PowT.here {w w' : World} (h : PowT w) (hb : Below w.heap.size w w') : PowT w' := fun W hW => h W (hb.trans (hW.mono hb.size))
theorem ret_str {a b : ByteArray} (h : a = b) : Ending.returned (.string a) = .returned (.string b) := by rw [h]

theorem dec_text (n : Nat) : Lib.decDigits n = decText n := by
  have big : ∀ m, m ≠ 0 → Lib.decDigits m = (lsd m).reverse.map byteOf := by
    intro m
    induction m using Nat.strongRecOn with
    | _ m ih =>
      intro hm
      rw [Lib.decDigits, lsd_pos hm, List.reverse_cons, List.map_append]
      by_cases h : m < 10
      · rw [dif_pos h, show m / 10 = 0 by omega, lsd_zero, show m % 10 = m by omega]; rfl
      · rw [dif_neg h, ih (m / 10) (by omega) (by omega)]; rfl
  by_cases h : n = 0
  · subst h; rw [Lib.decDigits]; rfl
  · rw [big n h]; unfold decText; rw [if_neg h]

set_option maxHeartbeats 6400000 in
set_option maxRecDepth 100000 in
theorem fmt_inner (u : Nat) (hu64 : u < 18446744073709551616) (w : World) (htab : Pow w) :
    Calls Tryz.prog 90 #[.int .u64 u, .int .i64 10] w (IsStr (Lib.decDigits u) w) := by
  by_cases hs : u < 100
  · go_enter Tryz.func90, Tryz.ntmps90
    have iu : (u : Int) < 100 := by omega
    go_wp2_with fail
    refine (Tryz.internal_strconv_small u hs _).mono ?_
    rintro e w' ⟨rfl, rfl⟩
    go_wp2_with fail
    go_ret
    exact ⟨rfl, Below.refl _ _⟩
  · have hu1 : 1 ≤ u := by omega
    have iu : (100 : Int) ≤ (u : Int) := by omega
    have hnd20 : Lib.nDigits u ≤ 20 := by have := Lib.numDigits_eq u hu1 hu64; split at this <;> omega
    have hal : Tryz.prog.arrayLen 164 = 24 := by kernel_rfl
    have hsl : ∀ W, (Instr.sliceAt 164 (.pointer (some ⟨w.heap.size, 0, none⟩)) none (some (.int .i64 (Lib.nDigits u : Int))) none).run Tryz.prog W = .ok (.slice (some ⟨w.heap.size, 0, none⟩) (Lib.nDigits u) 24) W := fun W => by
      rw [run_sliceAt_array_h W 164 ⟨w.heap.size, 0, none⟩ (by kernel_rfl) .i64 (Lib.nDigits u : Int) (by omega) (by rw [hal]; omega)]
      rw [show (sizeOf (Tryz.prog.elem 164)).run Tryz.prog W = .ok 1 W by kernel_rfl, hal]
      simp [slicedAt, Addr.add]
    have hH0 := Lib.holds_zero0 w 164 (Lib.nDigits u) (by omega)
    have hfmt := Tryz.internal_strconv_formatBase10 w.heap.size 0 24 u (Array.replicate (Lib.nDigits u) 0) (w.alloc (.cells Lib.zeros24 164)) hH0 (by rw [Array.size_replicate]; exact Lib.lt_pow_nDigits u) hu64 (by rw [Array.size_replicate]; omega)
    rw [Array.size_replicate] at hfmt
    have HH0 := Lib.hid hH0
    clear hH0 hal
    go_enter Tryz.func90, Tryz.ntmps90
    go_wp2_with fail
    refine (Tryz.internal_strconv_numDigits u hu1 hu64 _ (Lib.tabIs_alloc htab _)).mono ?_
    rintro e w' ⟨rfl, rfl⟩
    go_wp2_with fail
    refine hfmt.mono ?_
    rintro e w' ⟨rfl, k, v', dk, rfl, hF⟩
    have hcv : (convert 96 9 (.slice (some ⟨w.heap.size, 0, none⟩) (Lib.nDigits u) 24)).run Tryz.prog ((putRow (fun (b : UInt8) => Value.int .u8 (b.toNat : Int)) (w.alloc (.cells Lib.zeros24 164)) w.heap.size 0 dk).drewN k) = .ok (.string ⟨(Lib.decDigits u).toArray⟩) ((putRow (fun (b : UInt8) => Value.int .u8 (b.toNat : Int)) (w.alloc (.cells Lib.zeros24 164)) w.heap.size 0 dk).drewN k) := by
      have h := run_convert_bytes_back (P := Tryz.prog) ((putRow (fun (b : UInt8) => Value.int .u8 (b.toNat : Int)) (w.alloc (.cells Lib.zeros24 164)) w.heap.size 0 dk).drewN k) 96 9 5 ⟨w.heap.size, 0, none⟩ 24 (Lib.decDigits u) Tryz.underlying96 Tryz.underlying5 Tryz.underlying9 (fun j hj => by
        rw [Lib.row_is_numeral hF j hj, Lib.add_plain, World.cell?_drewN]
        exact cell?_putRow (fun (b : UInt8) => Value.int .u8 (b.toNat : Int)) _ w.heap.size 0 _ dk HH0.out (by rw [hF.size, Array.size_replicate]) j (by rw [hF.size]; rw [Lib.decDigits_length] at hj; exact hj))
      rw [Lib.decDigits_length] at h
      exact h
    obtain ⟨os, eo⟩ := Lib.fin_at w (.cells Lib.zeros24 164) dk k 0
    have hb : Below w.heap.size w ((putRow (fun (b : UInt8) => Value.int .u8 (b.toNat : Int)) (w.alloc (.cells Lib.zeros24 164)) w.heap.size 0 dk).drewN k) := by rw [eo]; exact Lib.below_grow w.heap.size w (Nat.le_refl _) k os
    have HB := Lib.hid hb
    clear eo hb HH0 hfmt
    generalize (putRow (fun (b : UInt8) => Value.int .u8 (b.toNat : Int)) (w.alloc (.cells Lib.zeros24 164)) w.heap.size 0 dk).drewN k = W2 at hcv HB ⊢
    go_wp2
    go_ret
    exact ⟨rfl, HB.out⟩

theorem fmt_any (u : Nat) (hu64 : u < 18446744073709551616) (w : World) (htab : Pow w) :
    Calls Tryz.prog 64 #[.int .u64 u, .int .i64 10] w (IsStr (decText u) w) := by
  have K := Lib.hid (fmt_inner u hu64 w htab)
  go_enter Tryz.func64, Tryz.ntmps64
  go_wp2_with fail
  refine K.out.mono ?_
  rintro e w' ⟨rfl, h'⟩
  have h := Lib.hid h'
  clear h'
  go_wp2_with fail
  go_ret
  rw [dec_text]
  exact ⟨rfl, h.out⟩
end Go.Proofs.YtgkdjbdcmmegiaaGreatDoor

/- Text of package ranges: the intervals, with commas between them. Conditions: at most 1048576 intervals of 64 bits; the table of powers of ten. -/
namespace Go.Proofs.YtgkdjbdcmmegiaaGreatDoor
open Go.RowKit

theorem dec_len (n : Nat) (h : n < 18446744073709551616) : (decText n).length ≤ 20 ∧ 1 ≤ (decText n).length := by
  rw [← dec_text, Lib.decDigits_length]
  by_cases h0 : n = 0
  · subst h0; rw [Lib.nDigits_small (by omega)]; omega
  · have := Lib.numDigits_eq n (by omega) h
    have h2 : 1 ≤ Lib.nDigits n := by
      by_cases h10 : n < 10
      · rw [Lib.nDigits_small h10]; omega
      · rw [Lib.nDigits_big h10]; omega
    split at this <;> omega

/-- The text of an interval. -/
def ivText (x : Iv) : List UInt8 := if x.2 = x.1 then decText x.1.toNat else decText x.1.toNat ++ 45 :: decText x.2.toNat
/-- The text of a list. -/
def listText (l : List Iv) : List UInt8 := if l = [] then [110, 111, 110, 101] else Lib.join (l.map ivText) [44]

theorem ivText_len (x : Iv) (hx : In64 x) : (ivText x).length ≤ 41 ∧ 1 ≤ (ivText x).length := by
  obtain ⟨⟨h1, h2⟩, h3, h4⟩ := hx
  have a := dec_len x.1.toNat (by omega)
  have b := dec_len x.2.toNat (by omega)
  unfold ivText
  split
  · omega
  · simp; omega

theorem lens_iv : ∀ (l : List Iv), All64 l → Lib.lens (l.map ivText) ≤ 41 * l.length := by
  intro l
  induction l with
  | nil => intro _; simp [Lib.lens]
  | cons x l ih =>
    intro h
    have h1 := ivText_len x (h x (by simp))
    have h2 := ih (fun y hy => h y (List.mem_cons_of_mem _ hy))
    have e : Lib.lens ((x :: l).map ivText) = (ivText x).length + Lib.lens (l.map ivText) := by simp [Lib.lens]
    rw [e, List.length_cons]
    omega
theorem join_len (l : List Iv) (h : All64 l) : (Lib.join (l.map ivText) [44]).length ≤ 42 * l.length := by
  cases l with
  | nil => simp [Lib.join_nil]
  | cons x l =>
    have h2 := lens_iv (x :: l) h
    rw [List.map_cons, Lib.join_length, ← List.map_cons]
    have e1 : ([44] : List UInt8).length = 1 := rfl
    rw [e1, List.length_map, Nat.one_mul]
    simp only [List.length_cons] at h2 ⊢
    omega

theorem add_text (a b : List UInt8) : (⟨a.toArray⟩ : ByteArray) ++ ⟨b.toArray⟩ = ⟨(a ++ b).toArray⟩ := by
  apply ByteArray.ext
  rw [ByteArray.data_append]
  simp

set_option maxRecDepth 100000 in
theorem textOf_any (x : Iv) (w : World) (hx : In64 x) (hp : PowT w) :
    Calls Tryz.prog 44 #[.agg #[.int .u64 x.1, .int .u64 x.2]] w (IsStr (ivText x) w) := by
  obtain ⟨a, b⟩ := x
  obtain ⟨⟨h1, h2⟩, h3, h4⟩ := hx
  obtain ⟨u, rfl⟩ : ∃ u : Nat, a = u := ⟨a.toNat, by simp at h1; omega⟩
  obtain ⟨v, rfl⟩ : ∃ v : Nat, b = v := ⟨b.toNat, by simp at h3; omega⟩
  have hu : u < 18446744073709551616 := by simp at h2; omega
  have hv : v < 18446744073709551616 := by simp at h4; omega
  have lu := dec_len u hu
  have lv := dec_len v hv
  have KU := Lib.hid (fun w h => fmt_any u hu w h)
  have KV := Lib.hid (fun w h => fmt_any v hv w h)
  have HP := Lib.hid hp; clear hp
  have hn := Below.refl w.heap.size w
  have hn := below_alloc hn (.cells #[.int .u64 u, .int .u64 v] 38)
  have HN := Lib.hid hn; clear hn h1 h2 h3 h4
  go_enter Tryz.func44, Tryz.ntmps44
  go_wp2_with fail
  refine (KU.out _ (HP.out.here HN.out).now).mono ?_
  rintro e w1 ⟨rfl, h1⟩
  have H1 := Lib.hid (below_call HN.out h1)
  have c0 : w1.cell? ⟨w.heap.size, 0, none⟩ = some (.int .u64 u) := keep_cell (by simp) h1
  have c1 : w1.cell? ⟨w.heap.size, 1, none⟩ = some (.int .u64 v) := keep_cell (by simp) h1
  have hsz : w.heap.size < w1.heap.size := by have := h1.size; simp at this; omega
  clear h1
  by_cases hne : v = u
  · subst hne
    go_wp2_with fail
    go_ret
    exact ⟨by simp [ivText], H1.out⟩
  · have hne' : ¬ (v : Int) = (u : Int) := by omega
    have hb : ((v : Int) != (u : Int)) = true := by simpa using hne'
    have hT := ret_str (a := (⟨(decText u).toArray⟩ : ByteArray) ++ (⟨#[45]⟩ ++ ⟨(decText v).toArray⟩)) (b := ⟨(ivText (u, v)).toArray⟩) (by
      rw [show (⟨#[45]⟩ : ByteArray) = ⟨[(45 : UInt8)].toArray⟩ from rfl, add_text, add_text]
      unfold ivText
      rw [if_neg hne']
      rfl)
    obtain ⟨U, hU⟩ : ∃ U : ByteArray, ⟨(decText u).toArray⟩ = U := ⟨_, rfl⟩
    obtain ⟨V, hV⟩ : ∃ V : ByteArray, ⟨(decText v).toArray⟩ = V := ⟨_, rfl⟩
    have sU : U.size = (decText u).length := by rw [← hU]; simp [ByteArray.size]
    have sV : V.size = (decText v).length := by rw [← hV]; simp [ByteArray.size]
    rw [hU, hV] at hT
    rw [hU]
    have HT := Lib.hid hT; clear hT
    have HV' := Lib.hid hV; clear hV hU
    go_wp2_with fail
    refine (KV.out _ (HP.out.here H1.out).now).mono ?_
    rintro e w2 ⟨rfl, h2⟩
    have H2 := Lib.hid (below_call H1.out h2); clear h2
    rw [HV'.out]
    have s1 : ¬ 9223372036854775807 < 1 + V.size := by omega
    have s2 : ¬ 9223372036854775807 < U.size + (1 + V.size) := by omega
    go_wp2_with fail
    go_ret
    exact ⟨HT.out, H2.out⟩

/-- The texts behind k rounds. -/
structure TextsAt (g : Nat) (l : List Iv) (k : Nat) (W wr : World) : Prop where
  done : ∀ j x, j < k → l[j]? = some x → wr.cell? ⟨g, j, none⟩ = some (.string ⟨(ivText x).toArray⟩)
  todo : ∀ j x, k ≤ j → l[j]? = some x → wr.cell? ⟨g, j, none⟩ = some (.string ⟨#[]⟩)
  free : ∀ j, j < l.length → wr.frozen? ⟨g, j, none⟩ = false
  lt : g < wr.heap.size
  base : W.heap.size ≤ g
  below : Below W.heap.size W wr
theorem TextsAt.call {g : Nat} {l : List Iv} {k : Nat} {W w1 w2 : World} (h : TextsAt g l k W w1) (hb : Below w1.heap.size w1 w2) : TextsAt g l k W w2 :=
  ⟨fun j x hj hx => keep_cell (h.done j x hj hx) hb, fun j x hj hx => keep_cell (h.todo j x hj hx) hb, fun j hj => keep_free (h.free j hj) h.lt hb, Nat.lt_of_lt_of_le h.lt hb.size, h.base, below_call h.below hb⟩
theorem TextsAt.round {g : Nat} {l : List Iv} {k : Nat} {x : Iv} {W w1 : World} (h : TextsAt g l k W w1) (hx : l[k]? = some x) :
    TextsAt g l (k + 1) W (w1.setCell ⟨g, k, none⟩ (.string ⟨(ivText x).toArray⟩)) := by
  have ne : ∀ j, j ≠ k → (⟨g, k, none⟩ : Addr) ≠ ⟨g, j, none⟩ := fun j hj e => by injection e with _ e; exact hj e.symm
  refine ⟨fun j y hj hy => ?_, fun j y hj hy => ?_, fun j hj => by simp [h.free j hj], by simpa using h.lt, h.base, h.below.setCell (p := ⟨g, k, none⟩) h.base _⟩
  · by_cases e : j = k
    · subst e
      rw [hx] at hy
      cases hy
      exact World.cell?_setCell_same _ _ _ (h.todo j x (Nat.le_refl _) hx)
    · rw [World.cell?_setCell_other _ _ _ _ (ne j e)]
      exact h.done j y (by omega) hy
  · rw [World.cell?_setCell_other _ _ _ _ (ne j (by omega))]
    exact h.todo j y (by omega) hy

theorem strs_made {w : World} {B g n : Nat} (h : w.ownsRow B 9 1 (.slice (some ⟨g, 0, none⟩) n n) n (madeCells (Value.string ⟨#[]⟩).cells (n * 1)).toList) :
    (∀ j, j < n → w.cell? ⟨g, j, none⟩ = some (.string ⟨#[]⟩)) ∧ (∀ j, j < n → w.frozen? ⟨g, j, none⟩ = false) ∧ (0 < n → g < w.heap.size) := by
  refine ⟨fun j hj => ?_, fun j _ => h.frozenAt _, fun _ => (h.lt g rfl).2⟩
  rw [h.cellAt _ (by omega)]
  have : j < n * 1 := by omega
  simp [madeCells, Value.cells, hj, Nat.mod_one]
theorem grown_none {W W1 : World} (hg : W.grownBy W1 none) : Below W.heap.size W W1 := (Below.refl _ _).grown hg (Nat.le_refl _) (fun k e => by cases e)

theorem infoS : (Tryz.prog.info? 9).map (fun i => (i.zero, i.size, i.bytes)) = some (some (.string ⟨#[]⟩), 1, 16) := by kernel_rfl

set_option maxRecDepth 100000 in
set_option maxHeartbeats 4000000 in
theorem text_any (l : List Iv) (s : Value) (w : World) (hl : IvsAt w s l) (h64 : All64 l) (hp : PowT w) :
    Calls Tryz.prog 23 #[s] w (IsStr (listText l) w) := by
  obtain ⟨i0, hi', hz0, hz1, hz2⟩ := info_parts infoS
  obtain ⟨p, cap, rfl, hlen⟩ := hl.shape
  by_cases h0 : l = []
  · subst h0
    go_enter Tryz.func23, Tryz.ntmps23
    go_wp2_with fail
    go_ret
    exact ⟨rfl, Below.refl _ _⟩
  have hpos : 0 < l.length := List.length_pos_iff.2 h0
  have I := Lib.hid hl; clear hl
  have HP := Lib.hid hp; clear hp
  have H64 := Lib.hid h64; clear h64
  have H0 := Lib.hid h0; clear h0
  have hcast : ¬ (l.length : Int) = 0 := by omega
  have hcb : ((l.length : Int) == 0) = false := by simpa using hcast
  obtain ⟨w2, hmk, hown2, hg2⟩ := run_make_full (P := Tryz.prog) w w.heap.size 68 9 i0 (.string ⟨#[]⟩) 1 Tryz.underlying68 hi' hz0 hz1 .i64 .i64 l.length (by rw [hz2]; omega) (by unfold maxLen; omega) (Nat.le_refl _)
  have hb2 := grown_none hg2
  obtain ⟨m1, m2, m3⟩ := strs_made hown2
  have HT := Lib.hid (show TextsAt w.heap.size l 0 w w2 from ⟨fun j x hj _ => absurd hj (Nat.not_lt_zero _), fun j x _ hx => m1 j (List.getElem?_eq_some_iff.1 hx).1, m2, m3 hpos, Nat.le_refl _, hb2⟩)
  clear hown2 hg2 hb2 m1 m2 m3
  have K := Lib.hid textOf_any
  go_enter Tryz.func23, Tryz.ntmps23
  go_wp2_with fail
  go_loopw [14] (fun i wr => ∃ k : Nat, k ≤ l.length ∧ i = .int .i64 k ∧ TextsAt w.heap.size l k w wr) (fun i _ => l.length - (intOf i).toNat)
  case atStart => exact ⟨0, Nat.zero_le _, rfl, HT.out⟩
  case round =>
    obtain ⟨k, hk, rfl, ht⟩ := hrel
    have HR := Lib.hid ht; clear ht
    by_cases hlt : k < l.length
    · obtain ⟨x, hx⟩ : ∃ x, l[k]? = some x := ⟨l[k], by simp [hlt]⟩
      have i1 : (0 : Int) ≤ (k : Int) := by omega
      have i2 : (k : Int) < (l.length : Int) := by omega
      have i3 : (k : Int) + 1 ≤ (l.length : Int) := by omega
      have KX := Lib.hid (fun W hp => K.out x W (H64.out.at hx) hp)
      obtain ⟨b, o, cap', e, hc⟩ := (I.out.call HR.out.below).elem hx
      cases e
      obtain ⟨hc0, hc1⟩ := hc
      go_wp2_with fail
      have HA := Lib.hid (HR.out.call (below_new wr (.cells #[.int .u64 x.1, .int .u64 x.2] 38)))
      refine (KX.out _ (HP.out.here HA.out.below)).mono ?_
      rintro e w1 ⟨rfl, h1⟩
      have HB := Lib.hid (HA.out.call h1); clear h1
      have hf := HB.out.free k hlt
      have hc := HB.out.todo k x (Nat.le_refl _) hx
      go_wp2_with fail
      go_roundw
      case rel => exact ⟨k + 1, by omega, by go_num, HB.out.round hx⟩
      case measure => simp [intOf]; omega
    · obtain rfl : k = l.length := by omega
      have hxs : (l.map fun x => (⟨(ivText x).toArray⟩ : ByteArray)).length = l.length := List.length_map _
      have hj : (l.map fun x => (⟨(ivText x).toArray⟩ : ByteArray)).map (·.data.toList) = l.map ivText := by rw [List.map_map]; apply List.map_congr_left; intro x _; simp
      have KJ := Tryz.strings_Join w.heap.size 0 l.length (l.map fun x => (⟨(ivText x).toArray⟩ : ByteArray)) ⟨#[44]⟩ wr (fun j y hy => by
        rw [List.getElem?_map] at hy
        obtain ⟨x, hx, rfl⟩ := Option.map_eq_some_iff.1 hy
        rw [Nat.zero_add]
        exact HR.out.done j x (List.getElem?_eq_some_iff.1 hx).1 hx) HR.out.lt (by rw [hxs]; omega) (by rw [hxs]; omega) (by
        rw [hj]
        have := join_len l H64.out
        have e : (⟨#[44]⟩ : ByteArray).data.toList = [44] := rfl
        rw [e]
        omega)
      rw [hxs, hj] at KJ
      have KK := Lib.hid KJ; clear KJ hxs hj
      go_wp2_with fail
      refine KK.out.mono ?_
      rintro e w1 ⟨rfl, h1⟩
      have H1 := Lib.hid (below_call HR.out.below h1); clear h1
      go_wp2_with fail
      go_ret
      exact ⟨ret_str (by unfold listText; rw [if_neg H0.out]), H1.out⟩
end Go.Proofs.YtgkdjbdcmmegiaaGreatDoor
