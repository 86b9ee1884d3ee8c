/- The reference's Text returns the decimal text of every count. Conditions: the parts are numbers of 64 bits. -/
import Derived.Test.YtomjjjjjmknhkaaWDouble
import Derived.Laws.BitsAllLaws
import Derived.Deep.QuietTactic
import Derived.BigQuiet
namespace Go.Proofs.Ytomjjjjjmknhkaa
open Go.RowKit

theorem ret_str {a b : ByteArray} (h : a = b) : Ending.returned (.string a) = .returned (.string b) := by rw [h]

theorem and_one (n : Int) : bits .and .i64 n 1 = n % 2 := by
  have h : BitVec.ofInt 64 (1 : Int) = BitVec.ofNat 64 1 := rfl
  show IntKind.i64.wrap ((BitVec.ofInt 64 n &&& BitVec.ofInt 64 1).toNat : Int) = _
  have e : ((BitVec.ofInt 64 n &&& BitVec.ofInt 64 1).toNat : Int) = n % 2 := by
    rw [h, BitVec.toNat_and, BitVec.toNat_ofNat, BitVec.toNat_ofInt]
    have : (1 % 2 ^ 64 : Nat) = 1 := by decide
    rw [this, Nat.and_one_is_mod]
    have h0 : 0 ≤ n % ((2 ^ 64 : Nat) : Int) := Int.emod_nonneg _ (by decide)
    have h2 : ((2 ^ 64 : Nat) : Int) = 18446744073709551616 := by decide
    rw [h2] at *
    omega
  rw [e]
  exact IntWalk.i64_in _ (by omega)

theorem bit_at (h j : Nat) : bits .and .i64 (wrap64 ((h : Int) / 2 ^ j)) 1 = ((h / 2 ^ j % 2 : Nat) : Int) := by
  have e : (h : Int) / 2 ^ j = ((h / 2 ^ j : Nat) : Int) := by
    rw [Int.natCast_ediv, Int.natCast_pow]; rfl
  rw [and_one, e]
  generalize h / 2 ^ j = x
  unfold wrap64
  omega

theorem bit_step (h j : Nat) : 2 * (h / 2 ^ (j + 1)) + h / 2 ^ j % 2 = h / 2 ^ j := by
  have : h / 2 ^ (j + 1) = h / 2 ^ j / 2 := by rw [Nat.pow_succ, ← Nat.div_div_eq_div_mul]
  omega

theorem low_bit (h l j : Nat) (hj : j < 64) : (h * 18446744073709551616 + l) / 2 ^ j % 2 = l / 2 ^ j % 2 := by
  have e : h * 18446744073709551616 + l = l + 2 ^ j * (h * (2 * 2 ^ (63 - j))) := by
    have e2 : (18446744073709551616 : Nat) = 2 ^ j * (2 * 2 ^ (63 - j)) := by
      rw [← Nat.pow_succ', ← Nat.pow_add, show j + (63 - j).succ = 64 by omega]
    rw [e2, Nat.add_comm, Nat.mul_left_comm]
  rw [e, Nat.add_mul_div_left _ _ (Nat.two_pow_pos j), Nat.mul_left_comm]
  omega

/-- The text behind k digits. -/
def tx (ds : List Nat) (k : Nat) : ByteArray := ⟨((ds.take k).reverse.map byteOf).toArray⟩
theorem tx_zero (ds : List Nat) : tx ds 0 = ⟨#[]⟩ := rfl
theorem tx_succ (ds : List Nat) (k : Nat) (hk : k < ds.length) : (⟨#[byteOf (ds.getD k 0)]⟩ : ByteArray) ++ tx ds k = tx ds (k + 1) := by
  have e : ds.getD k 0 = ds[k] := by simp [hk]
  unfold tx
  rw [List.take_succ_eq_append_getElem hk, e, List.reverse_append, List.reverse_singleton, List.singleton_append, List.map_cons]
  apply ByteArray.ext
  rw [ByteArray.data_append]
  apply Array.ext'
  rw [Array.toList_append]
  rfl
theorem tx_size (ds : List Nat) (k : Nat) (hk : k ≤ ds.length) : (tx ds k).size = k := by
  show (((ds.take k).reverse.map byteOf).toArray).size = k
  simp; omega
theorem tx_all (n : Nat) : tx (lsd n) (lsd n).length = ⟨((lsd n).reverse.map byteOf).toArray⟩ := by unfold tx; rw [List.take_length]

theorem digit_at : ∀ d : Fin 10, (⟨#[48, 49, 50, 51, 52, 53, 54, 55, 56, 57]⟩ : ByteArray).extract d.val (d.val + 1) = ⟨#[byteOf d.val]⟩ := by decide
theorem slice_digit (d : Nat) (hd : d < 10) (W : World) :
    (Instr.slice 9 (.string ⟨#[48, 49, 50, 51, 52, 53, 54, 55, 56, 57]⟩) (some (.int .i64 (d : Int))) (some (.int .i64 ((d : Int) + 1))) none).run Try.prog W = .ok (.string ⟨#[byteOf d]⟩) W := by
  have hs : (⟨#[48, 49, 50, 51, 52, 53, 54, 55, 56, 57]⟩ : ByteArray).size = 10 := rfl
  rw [run_slice_string W 9 _ .i64 .i64 (d : Int) ((d : Int) + 1) Try.underlying9 (by omega) (by omega) (by rw [hs]; omega)]
  have e1 : ((d : Int)).toNat = d := by omega
  have e2 : ((d : Int) + 1).toNat = d + 1 := by omega
  rw [e1, e2, digit_at ⟨d, hd⟩]

set_option maxRecDepth 100000 in
theorem refText_any (h l : Nat) (w : World) (h1 : h < 18446744073709551616) (h2 : l < 18446744073709551616) :
    Calls Try.prog 23 #[.int .u64 (h : Int), .int .u64 (l : Int)] w (IsText (decText (h * 18446744073709551616 + l)) w) := by
  have H1 := Lib.hid h1; clear h1
  have H2 := Lib.hid h2; clear h2
  go_enter Try.func23, Try.ntmps23
  go_wp2_with fail
  go_loopw [5, 6] (fun v i wr => ∃ g : Nat, g ≤ 64 ∧ i = .int .i64 ((g : Int) - 1) ∧ IntsAt wr v (lsd (h / 2 ^ g)) ∧ Below w.heap.size w wr) (fun _ i _ => (intOf i + 1).toNat)
  case atStart =>
    refine ⟨64, Nat.le_refl _, rfl, ?_, Below.refl _ _⟩
    have e : h / 2 ^ 64 = 0 := Nat.div_eq_of_lt (by have := H1.out; omega)
    rw [e, lsd_zero]
    exact ⟨none, 0, rfl, fun h => absurd rfl h⟩
  case round =>
    obtain ⟨g, hg, rfl, hv, hb⟩ := hrel
    have HV := Lib.hid hv
    have HB := Lib.hid hb
    obtain ⟨p, cap, rfl, _⟩ := hv
    clear hb
    by_cases hg0 : g = 0
    · subst hg0
      rw [Nat.pow_zero, Nat.div_one] at HV ⊢
      have em : ((0 : Nat) : Int) - 1 = -1 := rfl
      rw [em]
      clear em
      obtain ⟨n, hn⟩ : ∃ n, h * 18446744073709551616 + l = n := ⟨_, rfl⟩
      rw [hn]
      have hlen : n < 10 ^ 39 := Nat.lt_trans (by have := H1.out; have := H2.out; omega : n < 340282366920938463463374607431768211456) (by decide)
      have HL := Lib.hid hlen; clear hlen
      have HN := Lib.hid hn; clear hn
      go_wp2_with fail
      obtain ⟨wo, rfl⟩ : ∃ wo : World, wo = wr := ⟨_, rfl⟩
      go_loopw [5, 7] (fun v i wr => ∃ g : Nat, g ≤ 64 ∧ i = .int .i64 ((g : Int) - 1) ∧ IntsAt wr v (lsd (n / 2 ^ g)) ∧ Below w.heap.size w wr) (fun _ i _ => (intOf i + 1).toNat)
      case atStart =>
        refine ⟨64, Nat.le_refl _, rfl, ?_, HB.out⟩
        have e : n / 2 ^ 64 = h := by rw [← HN.out]; have := H2.out; omega
        rw [e]
        exact HV.out
      case round =>
        obtain ⟨g, hg, rfl, hv, hb⟩ := hrel
        have HV2 := Lib.hid hv
        have HB2 := Lib.hid hb
        obtain ⟨p2, cap2, rfl, hcell⟩ := hv
        clear hb
        by_cases hg0 : g = 0
        · subst hg0
          have em : ((0 : Nat) : Int) - 1 = -1 := rfl
          rw [Nat.pow_zero, Nat.div_one] at hcell HV2 ⊢
          rw [em]
          clear em
          have hl39 := lsd_len 39 n HL.out
          obtain ⟨ds, hds⟩ : ∃ ds, lsd n = ds := ⟨_, rfl⟩
          rw [hds] at hcell HV2 hl39 ⊢
          have HC := Lib.hid hcell
          clear hcell
          have HDS := Lib.hid hds; clear hds
          go_wp2_with fail
          obtain ⟨wp, rfl⟩ : ∃ wp : World, wp = wr := ⟨_, rfl⟩
          go_loopw [8, 9] (fun s i wr => ∃ k : Nat, k ≤ ds.length ∧ i = .int .i64 k ∧ s = .string (tx ds k) ∧ Below wp.heap.size wp wr) (fun _ i _ => ds.length - (intOf i).toNat)
          case atStart => exact ⟨0, Nat.zero_le _, rfl, rfl, Below.refl _ _⟩
          case round =>
            obtain ⟨k, hk, rfl, rfl, hb⟩ := hrel
            have HB3 := Lib.hid hb; clear hb
            by_cases hlt : k < ds.length
            · have hne : ds ≠ [] := by intro h; subst h; simp at hlt
              obtain ⟨gb, rfl, hcell⟩ := HC.out hne
              have hx : wr.cell? ⟨gb, k, none⟩ = some (.int .i64 (ds.getD k 0 : Nat)) := keep_cell (hcell k hlt) HB3.out
              have hd10 : ds.getD k 0 < 10 := lsd_small _ _ (Nat.le_refl n) _ (by rw [HDS.out]; simp [hlt])
              generalize hdd : ds.getD k 0 = d at *
              have HDD := Lib.hid hdd; clear hdd hcell hne
              have hsl := fun W => slice_digit d hd10 W
              have hwr : IntKind.i64.wrap ((d : Int) + 1) = (d : Int) + 1 := IntWalk.i64_in _ (by omega)
              have hts := tx_size ds k hk
              generalize hT : tx ds k = T at *
              have hsz : ¬ 9223372036854775807 < 1 + T.size := by omega
              clear hts
              have HT := Lib.hid hT; clear hT
              go_wp2_with fail
              go_quiet (fail)
              go_wp2_with fail
              go_roundw
              case rel => exact ⟨k + 1, by omega, by go_num, by rw [← tx_succ ds k hlt, HT.out, HDD.out], HB3.out.trans ((below_drewN _ _).mono HB3.out.size)⟩
              case measure => simp [intOf]; omega
            · obtain rfl : k = ds.length := by omega
              have htx : tx ds ds.length = ⟨(ds.reverse.map byteOf).toArray⟩ := by unfold tx; rw [List.take_length]
              have hts := tx_size ds ds.length (Nat.le_refl _)
              generalize hT : tx ds ds.length = T at *
              have HT := Lib.hid hT; clear hT
              have HTX := Lib.hid htx; clear htx
              by_cases h0 : ds.length = 0
              · have hd : ds = [] := List.eq_nil_of_length_eq_zero h0
                have ht : T = ⟨#[]⟩ := by rw [HTX.out, hd]; rfl
                have hn0 : decText n = [48] := by
                  have : n = 0 := by
                    rcases Nat.eq_zero_or_pos n with h | h
                    · exact h
                    · have := HDS.out; rw [lsd_pos (by omega), hd] at this; cases this
                  subst this; rfl
                have HN0 := Lib.hid hn0
                clear hts h0 hn0
                subst ht
                go_wp2_with fail
                go_ret
                exact ⟨ret_str (by rw [HN.out, HN0.out]), HB2.out.trans (HB3.out.mono HB2.out.size)⟩
              · have hn0 : decText n = ds.reverse.map byteOf := by
                  have : n ≠ 0 := by intro h; have := HDS.out; rw [h, lsd_zero] at this; rw [← this] at h0; exact h0 rfl
                  unfold decText
                  rw [if_neg this, HDS.out]
                have HN0 := Lib.hid hn0
                clear hn0
                have hb : T.toList.isEmpty = false := by
                  rw [ByteArray.toList_eq]
                  cases hd : T.data.toList with
                  | nil =>
                    have : T.data.size = 0 := by rw [← Array.length_toList, hd]; rfl
                    exact absurd (hts.symm.trans this) h0
                  | cons a r => rfl
                clear hts h0
                go_wp2_with fail
                go_ret
                exact ⟨ret_str (by rw [HN.out, HN0.out, HTX.out]), HB2.out.trans (HB3.out.mono HB2.out.size)⟩
        · obtain ⟨j, rfl⟩ : ∃ j, g = j + 1 := ⟨g - 1, by omega⟩
          have e1 : ((j + 1 : Nat) : Int) - 1 = (j : Int) := by omega
          rw [e1]
          clear hg0 e1 hcell
          have hbit := bit_at l j
          rw [← low_bit h l j (by omega), HN.out] at hbit
          obtain ⟨q, hq⟩ : ∃ q, n / 2 ^ j % 2 = q := ⟨_, rfl⟩
          have hst := bit_step n j
          rw [hq] at hbit hst
          have hq1 : q ≤ 1 := by omega
          have K := Lib.hid (double_any (lsd (n / 2 ^ (j + 1))) q _ wr HV2.out (lsd_small _ _ (Nat.le_refl _)) hq1 (Nat.le_trans (lsd_len 39 _ (Nat.lt_of_le_of_lt (Nat.div_le_self _ _) HL.out)) (by omega)))
          have hd := dbl_lsd _ (n / 2 ^ (j + 1)) q (Nat.le_refl _) hq1
          rw [hst] at hd
          have HDD := Lib.hid hd
          clear hst hd hq
          go_wp2_with fail
          refine K.out.mono ?_
          rintro e w1 ⟨v, rfl, hv1, hb1⟩
          rw [HDD.out] at hv1
          have HV1 := Lib.hid hv1
          obtain ⟨p1, cap1, rfl, _⟩ := hv1
          have HB1 := Lib.hid (keep_below HB2.out (Nat.le_refl _) hb1)
          clear hb1
          go_wp2_with fail
          go_roundw
          case rel => exact ⟨j, by omega, rfl, HV1.out, HB1.out⟩
          case measure => simp [intOf]
    · obtain ⟨j, rfl⟩ : ∃ j, g = j + 1 := ⟨g - 1, by omega⟩
      have e1 : ((j + 1 : Nat) : Int) - 1 = (j : Int) := by omega
      rw [e1]
      clear hg0 e1
      have hbit := bit_at h j
      obtain ⟨q, hq⟩ : ∃ q, h / 2 ^ j % 2 = q := ⟨_, rfl⟩
      have hst := bit_step h j
      rw [hq] at hbit hst
      have hq1 : q ≤ 1 := by omega
      have K := Lib.hid (double_any (lsd (h / 2 ^ (j + 1))) q _ wr HV.out (lsd_small _ _ (Nat.le_refl _)) hq1 (Nat.le_trans (lsd_len 20 _ (Nat.lt_of_le_of_lt (Nat.div_le_self _ _) (Nat.lt_trans H1.out (by decide)))) (by omega)))
      have hd := dbl_lsd _ (h / 2 ^ (j + 1)) q (Nat.le_refl _) hq1
      rw [hst] at hd
      have HDD := Lib.hid hd
      clear hst hd hq
      go_wp2_with fail
      refine K.out.mono ?_
      rintro e w1 ⟨v, rfl, hv1, hb1⟩
      rw [HDD.out] at hv1
      have HV1 := Lib.hid hv1
      obtain ⟨p1, cap1, rfl, _⟩ := hv1
      have HB1 := Lib.hid (keep_below HB.out (Nat.le_refl _) hb1)
      clear hb1
      go_wp2_with fail
      go_roundw
      case rel => exact ⟨j, by omega, rfl, HV1.out, HB1.out⟩
      case measure => simp [intOf]
end Go.Proofs.Ytomjjjjjmknhkaa
