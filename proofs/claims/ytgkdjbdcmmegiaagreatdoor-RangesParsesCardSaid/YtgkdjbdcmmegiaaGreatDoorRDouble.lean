/- Slices of ints that a function builds by append; the reference's double. Conditions: the digits are less than 10. -/
import Derived.Test.YtgkdjbdcmmegiaaGreatDoorWDigits
import Derived.Test.YtgkdjbdcmmegiaaGreatDoorROwn
import Derived.OwnWalk
import Derived.Laws.BitsAllLaws
import Derived.Deep.QuietTactic
import Derived.BigQuiet
namespace Go.Proofs.YtgkdjbdcmmegiaaGreatDoor
open Go.RowKit

theorem owns_below {w w' : World} {base : Nat} {e : TypeId} {size : Nat} {v : Value} {n : Nat} {xs : List Value} (h : w.ownsRow base e size v n xs) (hb : Below w.heap.size w w') : w'.ownsRow base e size v n xs := by
  obtain ⟨h1, h2⟩ := h
  refine ⟨h1, ?_⟩
  rcases h2 with h2 | ⟨g, cap, cur, hv, hg, hh, r⟩
  · exact Or.inl h2
  · have hlt : g < w.heap.size := by
      rcases Nat.lt_or_ge g w.heap.size with h | h
      · exact h
      · rw [Array.getElem?_eq_none h] at hh; cases hh
    exact Or.inr ⟨g, cap, cur, hv, hg, by rw [hb.block g hlt]; exact hh, r⟩

theorem owns_cell {w : World} {base : Nat} {e : TypeId} {v : Value} {n : Nat} {xs : List Value} (h : w.ownsRow base e 1 v n xs) (hn : 0 < n) :
    ∃ g cap, v = .slice (some ⟨g, 0, none⟩) n cap ∧ base ≤ g ∧ g < w.heap.size ∧ ∀ i, i < n → w.cell? ⟨g, i, none⟩ = some (xs.getD i .nilIface) := by
  obtain ⟨hl, h2⟩ := h
  rcases h2 with ⟨_, h0⟩ | ⟨g, cap, cur, hv, hg, hh, hnc, _, hcs, ht⟩
  · omega
  · refine ⟨g, cap, hv, hg, ?_, fun i hi => ?_⟩
    · rcases Nat.lt_or_ge g w.heap.size with h | h
      · exact h
      · rw [Array.getElem?_eq_none h] at hh; cases hh
    · have hi' : i < cur.toList.length := by simp; omega
      have e1 : w.cell? ⟨g, i, none⟩ = cur[i]? := by simp [World.cell?, hh]
      rw [e1, ← ht, ← Array.getElem?_toList]
      simp only [Nat.mul_one]
      rw [List.getD_eq_getElem?_getD, List.getElem?_take_of_lt hi, List.getElem?_eq_getElem hi']
      rfl

/-- A slice of ints in memory. -/
def IntsAt (w : World) (s : Value) (ds : List Nat) : Prop :=
  ∃ p cap, s = .slice p ds.length cap ∧ (ds ≠ [] → ∃ g, p = some ⟨g, 0, none⟩ ∧ ∀ i, i < ds.length → w.cell? ⟨g, i, none⟩ = some (.int .i64 (ds.getD i 0 : Nat)))

theorem IntsAt.below {w w' : World} {s : Value} {ds : List Nat} (h : IntsAt w s ds) (hb : Below w.heap.size w w') : IntsAt w' s ds := by
  obtain ⟨p, cap, h1, h2⟩ := h
  refine ⟨p, cap, h1, fun hne => ?_⟩
  obtain ⟨g, h3, h4⟩ := h2 hne
  exact ⟨g, h3, fun i hi => keep_cell (h4 i hi) hb⟩

def vI (d : Nat) : Value := .int .i64 (d : Int)

theorem ints_of_owned {w : World} {base : Nat} {e : TypeId} {v : Value} {ds : List Nat} (h : w.ownsRow base e 1 v ds.length (ds.map vI)) (h0 : ds = [] → v = .slice none 0 0) : IntsAt w v ds := by
  cases ds with
  | nil => exact ⟨none, 0, h0 rfl, fun h => absurd rfl h⟩
  | cons d r =>
    obtain ⟨g, cap, hv, _, _, hc⟩ := owns_cell h (by simp)
    refine ⟨some ⟨g, 0, none⟩, cap, hv, fun _ => ⟨g, rfl, fun i hi => ?_⟩⟩
    rw [hc i hi]
    simp only [List.getD_eq_getElem?_getD, List.getElem?_map, List.getElem?_eq_getElem hi]
    rfl

def RowEnd (xs : List Nat) (w : World) (e : Ending) (w' : World) : Prop := ∃ v, e = .returned v ∧ IntsAt w' v xs ∧ Below w.heap.size w w'

/-- What double has built behind k rounds. -/
structure Dbl (ds : List Nat) (b k c : Nat) (out : Value) (w wr : World) : Prop where
  bit : c ≤ 1
  rest : ∃ pre : List Nat, pre.length = k ∧ dbl ds b = pre ++ dbl (ds.drop k) c ∧ wr.ownsRow w.heap.size 3 1 out k (pre.map vI)
  nil : k = 0 → out = .slice none 0 0
  below : Below w.heap.size w wr

theorem cell_one_new (w : World) (v : Value) (t : TypeId) : ∀ j u, ([v] : List Value)[j]? = some u → (w.alloc (.cells #[v] t)).cell? ((⟨w.heap.size, 0, none⟩ : Addr).add j) = some u := by
  intro j u h
  cases j with
  | zero => simpa [Addr.add] using h
  | succ j => simp at h

theorem int_info : (Tryz.prog.info? 3).map (fun i => (i.zero, i.size, i.bytes)) = some (some (.int .i64 0), 1, 8) := by kernel_rfl

theorem grown_below {B : Nat} {W w w' : World} {base : Nat} {e : TypeId} {size : Nat} {v : Value} {n : Nat} {xs : List Value} (h : Below B W w) (hg : w.grownBy w' v.ownBlock) (ho : w.ownsRow base e size v n xs) (hB : B ≤ w.heap.size) (hb : B ≤ base) : Below B W w' :=
  h.grown hg hB (fun k hk => Nat.le_trans hb (ho.lt k hk).1)

set_option maxRecDepth 100000 in
set_option maxHeartbeats 1000000 in
theorem double_any (ds : List Nat) (b : Nat) (s : Value) (w : World) (h : IntsAt w s ds) (hd : ∀ d ∈ ds, d < 10) (hb : b ≤ 1) (hl : ds.length ≤ 1000) :
    Calls Tryz.prog 68 #[s, .int .i64 (b : Int)] w (RowEnd (dbl ds b) w) := by
  obtain ⟨p, cap, rfl, hc⟩ := h
  have HC := Lib.hid hc; clear hc
  have HD := Lib.hid hd; clear hd
  obtain ⟨i0, hi, hz0, hz1, hz2⟩ := info_parts int_info
  have HI0 := Lib.hid hi; clear hi
  have HZ0 := Lib.hid hz0; clear hz0
  have HZ1 := Lib.hid hz1; clear hz1
  have HZ2 := Lib.hid hz2; clear hz2
  go_enter Tryz.func68, Tryz.ntmps68
  go_wp2_with fail
  go_loopw [1, 5, 6] (fun c out i wr => ∃ k cN : Nat, k ≤ ds.length ∧ i = .int .i64 k ∧ c = .int .i64 cN ∧ Dbl ds b k cN out w wr) (fun _ _ i _ => ds.length - (intOf i).toNat)
  case atStart => exact ⟨0, b, Nat.zero_le _, rfl, rfl, hb, ⟨[], rfl, rfl, rfl, Or.inl ⟨rfl, rfl⟩⟩, fun _ => rfl, Below.refl _ _⟩
  case round =>
    obtain ⟨k, c, hk, rfl, rfl, hD⟩ := hrel
    by_cases hlt : k < ds.length
    · have hne : ds ≠ [] := by intro h; subst h; simp at hlt
      obtain ⟨g, rfl, hcell⟩ := HC.out hne
      have hx : wr.cell? ⟨g, k, none⟩ = some (.int .i64 (ds.getD k 0 : Nat)) := keep_cell (hcell k hlt) hD.below
      have hd10 : ds.getD k 0 < 10 := HD.out _ (by simp [hlt])
      have hdrop : ds.drop k = ds.getD k 0 :: ds.drop (k + 1) := by
        rw [List.drop_eq_getElem_cons hlt]; simp [hlt]
      generalize hdd : ds.getD k 0 = d at *
      have hc1 := hD.bit
      obtain ⟨pre, hp1, hp2, hown⟩ := hD.rest
      have HNB := Lib.hid hD.below
      rw [hdrop] at hp2
      have hp3 : dbl ds b = (pre ++ [(2 * d + c) % 10]) ++ dbl (ds.drop (k + 1)) ((2 * d + c) / 10) := by rw [hp2]; simp [dbl]
      obtain ⟨q, hq⟩ : ∃ q, (2 * d + c) % 10 = q := ⟨_, rfl⟩
      obtain ⟨c2, hc2⟩ : ∃ c2, (2 * d + c) / 10 = c2 := ⟨_, rfl⟩
      have e1 : (2 * (d : Int) + c) % 10 = (q : Int) := by omega
      have e2 : (2 * (d : Int) + c) / 10 = (c2 : Int) := by omega
      have hc21 : c2 ≤ 1 := by omega
      rw [hq, hc2] at hp3
      have HP := Lib.hid hp3
      have HP1 := Lib.hid hp1
      have HO := Lib.hid hown
      have HDD := Lib.hid hdd
      clear hp1 hp2 hp3 hown hdd hD hdrop hq hc2 hcell hne
      have HO2 := Lib.hid (HO.out.alloc (.cells #[.int .i64 (q : Int)] 3))
      have HNB2 := Lib.hid (HNB.out.alloc HNB.out.size (.cells #[.int .i64 (q : Int)] 3))
      go_wp2_with (at_builtin; refine wpList_append_own _ rfl (.tmp 21) (.tmp 24) 103 rfl w.heap.size 3 i0 (.int .i64 0) 1 8 Tryz.underlying103 HI0.out HZ0.out HZ1.out HZ2.out rfl (by decide) _ k (pre.map vI) rfl HO2.out ⟨wr.heap.size, 0, none⟩ 1 1 [.int .i64 (q : Int)] rfl rfl ?c1 ?c2 ?c3 ?c4 ?c5 ?_)
      case c1 => exact cell_one_new _ _ _
      case c2 => intro u hu; rw [List.mem_singleton.1 hu]; rfl
      case c3 => unfold maxLen; omega
      case c4 => omega
      case c5 => exact Nat.le_trans HNB2.out.size (by simp)
      intro v' w1 hown' hgrow _
      have HB1 := Lib.hid (grown_below HNB2.out hgrow HO2.out HNB2.out.size (Nat.le_refl _))
      have HO1 := Lib.hid hown'
      clear hown' hgrow
      go_wp2_with fail
      go_roundw
      case rel => exact ⟨k + 1, c2, by omega, by go_num, by rw [e2], hc21, ⟨pre ++ [q], by simp [HP1.out], HP.out, by simpa [vI] using HO1.out⟩, fun h => by omega, HB1.out⟩
      case measure => simp [intOf]; omega
    · obtain rfl : k = ds.length := by omega
      have hc1 := hD.bit
      obtain ⟨pre, hp1, hp2, hown⟩ := hD.rest
      have HNB := Lib.hid hD.below
      have HNIL := Lib.hid hD.nil
      rw [List.drop_length] at hp2
      have HO := Lib.hid hown
      have HP1 := Lib.hid hp1
      clear hown hD hp1
      by_cases hc0 : c = 0
      · subst hc0
        have e : dbl ds b = pre := by rw [hp2]; simp [dbl]
        have HE := Lib.hid e
        clear hp2 e
        go_wp2_with fail
        go_ret
        exact ⟨_, rfl, by rw [HE.out]; exact ints_of_owned (e := 3) (base := w.heap.size) (by rw [HP1.out]; exact HO.out) (fun h => HNIL.out (by rw [← HP1.out, h]; rfl)), HNB.out⟩
      · obtain rfl : c = 1 := by omega
        have e : dbl ds b = pre ++ [1] := by rw [hp2]; simp [dbl]
        have HE := Lib.hid e
        have HO2 := Lib.hid (HO.out.alloc (.cells #[.int .i64 1] 3))
        have HNB2 := Lib.hid (HNB.out.alloc HNB.out.size (.cells #[.int .i64 1] 3))
        clear hp2 e hc0
        go_wp2_with (at_builtin; refine wpList_append_own _ rfl (.tmp 30) (.tmp 32) 103 rfl w.heap.size 3 i0 (.int .i64 0) 1 8 Tryz.underlying103 HI0.out HZ0.out HZ1.out HZ2.out rfl (by decide) _ ds.length (pre.map vI) rfl HO2.out ⟨wr.heap.size, 0, none⟩ 1 1 [.int .i64 1] rfl rfl ?c1 ?c2 ?c3 ?c4 ?c5 ?_)
        case c1 => exact cell_one_new _ _ _
        case c2 => intro u hu; rw [List.mem_singleton.1 hu]; rfl
        case c3 => unfold maxLen; omega
        case c4 => omega
        case c5 => exact Nat.le_trans HNB2.out.size (by simp)
        intro v' w1 hown' hgrow _
        have HB1 := Lib.hid (grown_below HNB2.out hgrow HO2.out HNB2.out.size (Nat.le_refl _))
        have HO1 := Lib.hid hown'
        clear hown' hgrow
        go_wp2_with fail
        go_ret
        exact ⟨_, rfl, by rw [HE.out]; exact ints_of_owned (e := 3) (base := w.heap.size) (by simpa [vI, HP1.out] using HO1.out) (fun h => by simp at h), HB1.out⟩
end Go.Proofs.YtgkdjbdcmmegiaaGreatDoor

/- The reference's Text returns the decimal text of every count. Conditions: the parts are numbers of 64 bits. -/
namespace Go.Proofs.YtgkdjbdcmmegiaaGreatDoor
open Go.RowKit


theorem and_one (n : Int) : bits .and .i64 n 1 = n % 2 := by
  have h : BitVec.ofInt 64 (1 : Int) = BitVec.ofNat 64 1 := rfl
  show IntKind.i64.wrap ((BitVec.ofInt 64 n &&& BitVec.ofInt 64 1).toNat : Int) = _
  have e : ((BitVec.ofInt 64 n &&& BitVec.ofInt 64 1).toNat : Int) = n % 2 := by
    rw [h, BitVec.toNat_and, BitVec.toNat_ofNat, BitVec.toNat_ofInt]
    have : (1 % 2 ^ 64 : Nat) = 1 := by decide
    rw [this, Nat.and_one_is_mod]
    have h0 : 0 ≤ n % ((2 ^ 64 : Nat) : Int) := Int.emod_nonneg _ (by decide)
    have h2 : ((2 ^ 64 : Nat) : Int) = 18446744073709551616 := by decide
    rw [h2] at *
    omega
  rw [e]
  exact IntWalk.i64_in _ (by omega)

theorem bit_at (h j : Nat) : bits .and .i64 (wrap64 ((h : Int) / 2 ^ j)) 1 = ((h / 2 ^ j % 2 : Nat) : Int) := by
  have e : (h : Int) / 2 ^ j = ((h / 2 ^ j : Nat) : Int) := by
    rw [Int.natCast_ediv, Int.natCast_pow]; rfl
  rw [and_one, e]
  generalize h / 2 ^ j = x
  unfold wrap64
  omega

theorem bit_step (h j : Nat) : 2 * (h / 2 ^ (j + 1)) + h / 2 ^ j % 2 = h / 2 ^ j := by
  have : h / 2 ^ (j + 1) = h / 2 ^ j / 2 := by rw [Nat.pow_succ, ← Nat.div_div_eq_div_mul]
  omega

theorem low_bit (h l j : Nat) (hj : j < 64) : (h * 18446744073709551616 + l) / 2 ^ j % 2 = l / 2 ^ j % 2 := by
  have e : h * 18446744073709551616 + l = l + 2 ^ j * (h * (2 * 2 ^ (63 - j))) := by
    have e2 : (18446744073709551616 : Nat) = 2 ^ j * (2 * 2 ^ (63 - j)) := by
      rw [← Nat.pow_succ', ← Nat.pow_add, show j + (63 - j).succ = 64 by omega]
    rw [e2, Nat.add_comm, Nat.mul_left_comm]
  rw [e, Nat.add_mul_div_left _ _ (Nat.two_pow_pos j), Nat.mul_left_comm]
  omega

/-- The text behind k digits. -/
def tx (ds : List Nat) (k : Nat) : ByteArray := ⟨((ds.take k).reverse.map byteOf).toArray⟩
theorem tx_zero (ds : List Nat) : tx ds 0 = ⟨#[]⟩ := rfl
theorem tx_succ (ds : List Nat) (k : Nat) (hk : k < ds.length) : (⟨#[byteOf (ds.getD k 0)]⟩ : ByteArray) ++ tx ds k = tx ds (k + 1) := by
  have e : ds.getD k 0 = ds[k] := by simp [hk]
  unfold tx
  rw [List.take_succ_eq_append_getElem hk, e, List.reverse_append, List.reverse_singleton, List.singleton_append, List.map_cons]
  apply ByteArray.ext
  rw [ByteArray.data_append]
  apply Array.ext'
  rw [Array.toList_append]
  rfl
theorem tx_size (ds : List Nat) (k : Nat) (hk : k ≤ ds.length) : (tx ds k).size = k := by
  show (((ds.take k).reverse.map byteOf).toArray).size = k
  simp; omega
theorem tx_all (n : Nat) : tx (lsd n) (lsd n).length = ⟨((lsd n).reverse.map byteOf).toArray⟩ := by unfold tx; rw [List.take_length]

theorem digit_at : ∀ d : Fin 10, (⟨#[48, 49, 50, 51, 52, 53, 54, 55, 56, 57]⟩ : ByteArray).extract d.val (d.val + 1) = ⟨#[byteOf d.val]⟩ := by decide
theorem slice_digit (d : Nat) (hd : d < 10) (W : World) :
    (Instr.slice 9 (.string ⟨#[48, 49, 50, 51, 52, 53, 54, 55, 56, 57]⟩) (some (.int .i64 (d : Int))) (some (.int .i64 ((d : Int) + 1))) none).run Tryz.prog W = .ok (.string ⟨#[byteOf d]⟩) W := by
  have hs : (⟨#[48, 49, 50, 51, 52, 53, 54, 55, 56, 57]⟩ : ByteArray).size = 10 := rfl
  rw [run_slice_string W 9 _ .i64 .i64 (d : Int) ((d : Int) + 1) Tryz.underlying9 (by omega) (by omega) (by rw [hs]; omega)]
  have e1 : ((d : Int)).toNat = d := by omega
  have e2 : ((d : Int) + 1).toNat = d + 1 := by omega
  rw [e1, e2, digit_at ⟨d, hd⟩]

set_option maxRecDepth 100000 in
theorem refText_any (h l : Nat) (w : World) (h1 : h < 18446744073709551616) (h2 : l < 18446744073709551616) :
    Calls Tryz.prog 46 #[.int .u64 (h : Int), .int .u64 (l : Int)] w (IsStr (decText (h * 18446744073709551616 + l)) w) := by
  have H1 := Lib.hid h1; clear h1
  have H2 := Lib.hid h2; clear h2
  go_enter Tryz.func46, Tryz.ntmps46
  go_wp2_with fail
  go_loopw [5, 6] (fun v i wr => ∃ g : Nat, g ≤ 64 ∧ i = .int .i64 ((g : Int) - 1) ∧ IntsAt wr v (lsd (h / 2 ^ g)) ∧ Below w.heap.size w wr) (fun _ i _ => (intOf i + 1).toNat)
  case atStart =>
    refine ⟨64, Nat.le_refl _, rfl, ?_, Below.refl _ _⟩
    have e : h / 2 ^ 64 = 0 := Nat.div_eq_of_lt (by have := H1.out; omega)
    rw [e, lsd_zero]
    exact ⟨none, 0, rfl, fun h => absurd rfl h⟩
  case round =>
    obtain ⟨g, hg, rfl, hv, hb⟩ := hrel
    have HV := Lib.hid hv
    have HB := Lib.hid hb
    obtain ⟨p, cap, rfl, _⟩ := hv
    clear hb
    by_cases hg0 : g = 0
    · subst hg0
      rw [Nat.pow_zero, Nat.div_one] at HV ⊢
      have em : ((0 : Nat) : Int) - 1 = -1 := rfl
      rw [em]
      clear em
      obtain ⟨n, hn⟩ : ∃ n, h * 18446744073709551616 + l = n := ⟨_, rfl⟩
      rw [hn]
      have hlen : n < 10 ^ 39 := Nat.lt_trans (by have := H1.out; have := H2.out; omega : n < 340282366920938463463374607431768211456) (by decide)
      have HL := Lib.hid hlen; clear hlen
      have HN := Lib.hid hn; clear hn
      go_wp2_with fail
      obtain ⟨wo, rfl⟩ : ∃ wo : World, wo = wr := ⟨_, rfl⟩
      go_loopw [5, 7] (fun v i wr => ∃ g : Nat, g ≤ 64 ∧ i = .int .i64 ((g : Int) - 1) ∧ IntsAt wr v (lsd (n / 2 ^ g)) ∧ Below w.heap.size w wr) (fun _ i _ => (intOf i + 1).toNat)
      case atStart =>
        refine ⟨64, Nat.le_refl _, rfl, ?_, HB.out⟩
        have e : n / 2 ^ 64 = h := by rw [← HN.out]; have := H2.out; omega
        rw [e]
        exact HV.out
      case round =>
        obtain ⟨g, hg, rfl, hv, hb⟩ := hrel
        have HV2 := Lib.hid hv
        have HB2 := Lib.hid hb
        obtain ⟨p2, cap2, rfl, hcell⟩ := hv
        clear hb
        by_cases hg0 : g = 0
        · subst hg0
          have em : ((0 : Nat) : Int) - 1 = -1 := rfl
          rw [Nat.pow_zero, Nat.div_one] at hcell HV2 ⊢
          rw [em]
          clear em
          have hl39 := lsd_len 39 n HL.out
          obtain ⟨ds, hds⟩ : ∃ ds, lsd n = ds := ⟨_, rfl⟩
          rw [hds] at hcell HV2 hl39 ⊢
          have HC := Lib.hid hcell
          clear hcell
          have HDS := Lib.hid hds; clear hds
          go_wp2_with fail
          obtain ⟨wp, rfl⟩ : ∃ wp : World, wp = wr := ⟨_, rfl⟩
          go_loopw [8, 9] (fun s i wr => ∃ k : Nat, k ≤ ds.length ∧ i = .int .i64 k ∧ s = .string (tx ds k) ∧ Below wp.heap.size wp wr) (fun _ i _ => ds.length - (intOf i).toNat)
          case atStart => exact ⟨0, Nat.zero_le _, rfl, rfl, Below.refl _ _⟩
          case round =>
            obtain ⟨k, hk, rfl, rfl, hb⟩ := hrel
            have HB3 := Lib.hid hb; clear hb
            by_cases hlt : k < ds.length
            · have hne : ds ≠ [] := by intro h; subst h; simp at hlt
              obtain ⟨gb, rfl, hcell⟩ := HC.out hne
              have hx : wr.cell? ⟨gb, k, none⟩ = some (.int .i64 (ds.getD k 0 : Nat)) := keep_cell (hcell k hlt) HB3.out
              have hd10 : ds.getD k 0 < 10 := lsd_small _ _ (Nat.le_refl n) _ (by rw [HDS.out]; simp [hlt])
              generalize hdd : ds.getD k 0 = d at *
              have HDD := Lib.hid hdd; clear hdd hcell hne
              have hsl := fun W => slice_digit d hd10 W
              have hwr : IntKind.i64.wrap ((d : Int) + 1) = (d : Int) + 1 := IntWalk.i64_in _ (by omega)
              have hts := tx_size ds k hk
              generalize hT : tx ds k = T at *
              have hsz : ¬ 9223372036854775807 < 1 + T.size := by omega
              clear hts
              have HT := Lib.hid hT; clear hT
              go_wp2_with fail
              go_quiet (fail)
              go_wp2_with fail
              go_roundw
              case rel => exact ⟨k + 1, by omega, by go_num, by rw [← tx_succ ds k hlt, HT.out, HDD.out], below_drewN HB3.out _⟩
              case measure => simp [intOf]; omega
            · obtain rfl : k = ds.length := by omega
              have htx : tx ds ds.length = ⟨(ds.reverse.map byteOf).toArray⟩ := by unfold tx; rw [List.take_length]
              have hts := tx_size ds ds.length (Nat.le_refl _)
              generalize hT : tx ds ds.length = T at *
              have HT := Lib.hid hT; clear hT
              have HTX := Lib.hid htx; clear htx
              by_cases h0 : ds.length = 0
              · have hd : ds = [] := List.eq_nil_of_length_eq_zero h0
                have ht : T = ⟨#[]⟩ := by rw [HTX.out, hd]; rfl
                have hn0 : decText n = [48] := by
                  have : n = 0 := by
                    rcases Nat.eq_zero_or_pos n with h | h
                    · exact h
                    · have := HDS.out; rw [lsd_pos (by omega), hd] at this; cases this
                  subst this; rfl
                have HN0 := Lib.hid hn0
                clear hts h0 hn0
                subst ht
                go_wp2_with fail
                go_ret
                exact ⟨ret_str (by rw [HN.out, HN0.out]), HB2.out.trans (HB3.out.mono HB2.out.size)⟩
              · have hn0 : decText n = ds.reverse.map byteOf := by
                  have : n ≠ 0 := by intro h; have := HDS.out; rw [h, lsd_zero] at this; rw [← this] at h0; exact h0 rfl
                  unfold decText
                  rw [if_neg this, HDS.out]
                have HN0 := Lib.hid hn0
                clear hn0
                have hb : T.toList.isEmpty = false := by
                  rw [ByteArray.toList_eq]
                  cases hd : T.data.toList with
                  | nil =>
                    have : T.data.size = 0 := by rw [← Array.length_toList, hd]; rfl
                    exact absurd (hts.symm.trans this) h0
                  | cons a r => rfl
                clear hts h0
                go_wp2_with fail
                go_ret
                exact ⟨ret_str (by rw [HN.out, HN0.out, HTX.out]), HB2.out.trans (HB3.out.mono HB2.out.size)⟩
        · obtain ⟨j, rfl⟩ : ∃ j, g = j + 1 := ⟨g - 1, by omega⟩
          have e1 : ((j + 1 : Nat) : Int) - 1 = (j : Int) := by omega
          rw [e1]
          clear hg0 e1 hcell
          have hbit := bit_at l j
          rw [← low_bit h l j (by omega), HN.out] at hbit
          obtain ⟨q, hq⟩ : ∃ q, n / 2 ^ j % 2 = q := ⟨_, rfl⟩
          have hst := bit_step n j
          rw [hq] at hbit hst
          have hq1 : q ≤ 1 := by omega
          have K := Lib.hid (double_any (lsd (n / 2 ^ (j + 1))) q _ wr HV2.out (lsd_small _ _ (Nat.le_refl _)) hq1 (Nat.le_trans (lsd_len 39 _ (Nat.lt_of_le_of_lt (Nat.div_le_self _ _) HL.out)) (by omega)))
          have hd := dbl_lsd _ (n / 2 ^ (j + 1)) q (Nat.le_refl _) hq1
          rw [hst] at hd
          have HDD := Lib.hid hd
          clear hst hd hq
          go_wp2_with fail
          refine K.out.mono ?_
          rintro e w1 ⟨v, rfl, hv1, hb1⟩
          rw [HDD.out] at hv1
          have HV1 := Lib.hid hv1
          obtain ⟨p1, cap1, rfl, _⟩ := hv1
          have HB1 := Lib.hid (keep_below HB2.out (Nat.le_refl _) hb1)
          clear hb1
          go_wp2_with fail
          go_roundw
          case rel => exact ⟨j, by omega, rfl, HV1.out, HB1.out⟩
          case measure => simp [intOf]
    · obtain ⟨j, rfl⟩ : ∃ j, g = j + 1 := ⟨g - 1, by omega⟩
      have e1 : ((j + 1 : Nat) : Int) - 1 = (j : Int) := by omega
      rw [e1]
      clear hg0 e1
      have hbit := bit_at h j
      obtain ⟨q, hq⟩ : ∃ q, h / 2 ^ j % 2 = q := ⟨_, rfl⟩
      have hst := bit_step h j
      rw [hq] at hbit hst
      have hq1 : q ≤ 1 := by omega
      have K := Lib.hid (double_any (lsd (h / 2 ^ (j + 1))) q _ wr HV.out (lsd_small _ _ (Nat.le_refl _)) hq1 (Nat.le_trans (lsd_len 20 _ (Nat.lt_of_le_of_lt (Nat.div_le_self _ _) (Nat.lt_trans H1.out (by decide)))) (by omega)))
      have hd := dbl_lsd _ (h / 2 ^ (j + 1)) q (Nat.le_refl _) hq1
      rw [hst] at hd
      have HDD := Lib.hid hd
      clear hst hd hq
      go_wp2_with fail
      refine K.out.mono ?_
      rintro e w1 ⟨v, rfl, hv1, hb1⟩
      rw [HDD.out] at hv1
      have HV1 := Lib.hid hv1
      obtain ⟨p1, cap1, rfl, _⟩ := hv1
      have HB1 := Lib.hid (keep_below HB.out (Nat.le_refl _) hb1)
      clear hb1
      go_wp2_with fail
      go_roundw
      case rel => exact ⟨j, by omega, rfl, HV1.out, HB1.out⟩
      case measure => simp [intOf]
end Go.Proofs.YtgkdjbdcmmegiaaGreatDoor

/- The reference's Text of a list is the same text. Conditions: at most 1048576 intervals of 64 bits. -/
namespace Go.Proofs.YtgkdjbdcmmegiaaGreatDoor
open Go.RowKit

def pre (l : List Iv) (k : Nat) : List UInt8 := Lib.join ((l.take k).map ivText) [44]
theorem pre_zero (l : List Iv) : pre l 0 = [] := rfl
theorem pre_one (l : List Iv) (x : Iv) (hx : l[0]? = some x) : pre l 1 = ivText x := by
  cases l with
  | nil => simp at hx
  | cons y l => simp at hx; subst hx; simp [pre, Lib.join_one]
theorem joinTail_snoc (sep : List UInt8) (r : List (List UInt8)) (x : List UInt8) : Lib.joinTail sep (r ++ [x]) = Lib.joinTail sep r ++ (sep ++ x) := by
  simp [Lib.joinTail]
theorem pre_succ (l : List Iv) (k : Nat) (x : Iv) (hk : 0 < k) (hx : l[k]? = some x) : pre l (k + 1) = pre l k ++ 44 :: ivText x := by
  have hlt : k < l.length := (List.getElem?_eq_some_iff.1 hx).1
  have e : l.take (k + 1) = l.take k ++ [x] := by rw [List.take_succ_eq_append_getElem hlt, (List.getElem?_eq_some_iff.1 hx).2]
  unfold pre
  rw [e, List.map_append]
  obtain ⟨y, r, hr⟩ : ∃ y r, l.take k = y :: r := by
    cases hh : l.take k with
    | nil => have h2 := congrArg List.length hh; rw [List.length_take, List.length_nil] at h2; omega
    | cons y r => exact ⟨y, r, rfl⟩
  rw [hr, List.map_cons, List.cons_append, Lib.join_cons, Lib.join_cons, List.map_singleton, joinTail_snoc]
  simp
theorem pre_len (l : List Iv) (k : Nat) (h : All64 l) : (pre l k).length ≤ 42 * k := by
  have := join_len (l.take k) (fun x hx => h x (List.mem_of_mem_take hx))
  unfold pre
  have e : (l.take k).length ≤ k := by simp; omega
  omega
theorem pre_all (l : List Iv) : pre l l.length = Lib.join (l.map ivText) [44] := by unfold pre; rw [List.take_length]
theorem pre_step (l : List Iv) (k : Nat) (x : Iv) (hk : ¬ k = 0) (hx : l[k]? = some x) : (⟨(pre l k).toArray⟩ : ByteArray) ++ ⟨#[44]⟩ ++ ⟨(ivText x).toArray⟩ = ⟨(pre l (k + 1)).toArray⟩ := by
  rw [show (⟨#[44]⟩ : ByteArray) = ⟨[(44 : UInt8)].toArray⟩ from rfl, add_text, add_text, pre_succ l k x (by omega) hx]
  simp

theorem ivText_two (u v : Nat) (h : ¬ v = u) : (⟨(ivText ((u : Int), (v : Int))).toArray⟩ : ByteArray) = ⟨(decText u).toArray⟩ ++ ⟨#[45]⟩ ++ ⟨(decText v).toArray⟩ := by
  have h' : ¬ (v : Int) = (u : Int) := by omega
  rw [show (⟨#[45]⟩ : ByteArray) = ⟨[(45 : UInt8)].toArray⟩ from rfl, add_text, add_text]
  unfold ivText
  rw [if_neg h']
  simp
theorem empty_add (b : ByteArray) : (⟨#[]⟩ : ByteArray) ++ b = b := by
  apply ByteArray.ext
  rw [ByteArray.data_append]
  simp
theorem refText_low (u : Nat) (w : World) (hu : u < 18446744073709551616) : Calls Tryz.prog 46 #[.int .u64 0, .int .u64 u] w (IsStr (decText u) w) := by
  have h := refText_any 0 u w (by omega) hu
  rw [Nat.zero_mul, Nat.zero_add] at h
  exact h

set_option maxRecDepth 100000 in
set_option maxHeartbeats 4000000 in
theorem refList_any (l : List Iv) (s : Value) (w : World) (hl : IvsAt w s l) (h64 : All64 l) :
    Calls Tryz.prog 24 #[s] w (IsStr (listText l) w) := by
  obtain ⟨p, cap, rfl, hlen⟩ := hl.shape
  by_cases h0 : l = []
  · subst h0
    go_enter Tryz.func24, Tryz.ntmps24
    go_wp2_with fail
    go_ret
    exact ⟨rfl, Below.refl _ _⟩
  have hpos : 0 < l.length := List.length_pos_iff.2 h0
  have I := Lib.hid hl; clear hl
  have H64 := Lib.hid h64; clear h64
  have H0 := Lib.hid h0; clear h0
  have hcast : ¬ (l.length : Int) = 0 := by omega
  have hcb : ((l.length : Int) == 0) = false := by simpa using hcast
  have K := Lib.hid refText_low
  go_enter Tryz.func24, Tryz.ntmps24
  go_wp2_with fail
  go_loopw [3, 4] (fun t i wr => ∃ k : Nat, k ≤ l.length ∧ i = .int .i64 k ∧ t = .string ⟨(pre l k).toArray⟩ ∧ Below w.heap.size w wr) (fun _ i _ => l.length - (intOf i).toNat)
  case atStart => exact ⟨0, Nat.zero_le _, rfl, rfl, Below.refl _ _⟩
  case round =>
    obtain ⟨k, hk, rfl, rfl, hb⟩ := hrel
    have HB := Lib.hid hb; clear hb
    have hSl := pre_len l k H64.out
    obtain ⟨S, hS⟩ : ∃ S : ByteArray, ⟨(pre l k).toArray⟩ = S := ⟨_, rfl⟩
    have hSs : S.size = (pre l k).length := by rw [← hS]; simp [ByteArray.size]
    rw [hS]
    have HS := Lib.hid hS; clear hS
    by_cases hlt : k < l.length
    · obtain ⟨⟨a, c⟩, hx⟩ : ∃ x, l[k]? = some x := ⟨l[k], by simp [hlt]⟩
      obtain ⟨⟨h1, h2⟩, h3, h4⟩ := H64.out.at hx
      obtain ⟨u, rfl⟩ : ∃ u : Nat, a = u := ⟨a.toNat, by simp at h1; omega⟩
      obtain ⟨v, rfl⟩ : ∃ v : Nat, c = v := ⟨c.toNat, by simp at h3; omega⟩
      have hu : u < 18446744073709551616 := by simp at h2; omega
      have hv : v < 18446744073709551616 := by simp at h4; omega
      have lu := dec_len u hu
      have lv := dec_len v hv
      have KU := Lib.hid (fun W => K.out u W hu)
      have KV := Lib.hid (fun W => K.out v W hv)
      have i1 : (0 : Int) ≤ (k : Int) := by omega
      have i2 : (k : Int) < (l.length : Int) := by omega
      have i3 : (k : Int) + 1 ≤ (l.length : Int) := by omega
      obtain ⟨b, o, cap', e, hc0, hc1⟩ := (I.out.call HB.out).elem hx
      cases e
      clear h1 h2 h3 h4
      obtain ⟨U, hU⟩ : ∃ U : ByteArray, ⟨(decText u).toArray⟩ = U := ⟨_, rfl⟩
      obtain ⟨V, hV⟩ : ∃ V : ByteArray, ⟨(decText v).toArray⟩ = V := ⟨_, rfl⟩
      have sU : U.size = (decText u).length := by rw [← hU]; simp [ByteArray.size]
      have sV : V.size = (decText v).length := by rw [← hV]; simp [ByteArray.size]
      have s1 : ¬ 9223372036854775807 < S.size + 1 := by omega
      have s2 : ¬ 9223372036854775807 < S.size + U.size := by omega
      have s3 : ¬ 9223372036854775807 < S.size + 1 + U.size := by omega
      have s4 : ¬ 9223372036854775807 < S.size + U.size + 1 := by omega
      have s5 : ¬ 9223372036854775807 < S.size + 1 + U.size + 1 := by omega
      have s6 : ¬ 9223372036854775807 < S.size + U.size + 1 + V.size := by omega
      have s7 : ¬ 9223372036854775807 < S.size + 1 + U.size + 1 + V.size := by omega
      have HU := Lib.hid hU; clear hU
      have HV := Lib.hid hV; clear hV
      clear sU sV lu lv hSs hSl
      rcases Decidable.em ((0 : Int) < (k : Int)) with hp | hp
      · by_cases huv : v = u
        · have HE : Hid (S ++ ⟨#[44]⟩ ++ U = ⟨(pre l (k + 1)).toArray⟩) := Lib.hid (by
            have := pre_step l k _ (by omega) hx
            rw [show ivText ((u : Int), (v : Int)) = decText u by simp [ivText, huv], HS.out, HU.out] at this
            exact this)
          subst huv
          go_wp2_with fail
          refine (KU.out _).mono ?_
          rintro e w1 ⟨rfl, h1⟩
          have d0 := keep_cell hc0 h1
          have d1 := keep_cell hc1 h1
          have H1 := Lib.hid (below_call HB.out h1)
          clear h1 hc0 hc1
          rw [HU.out]
          go_wp2_with fail
          go_quiet (fail)
          go_wp2_with fail
          go_roundw
          case rel => exact ⟨k + 1, by omega, by go_num, congrArg Value.string HE.out, below_drewN H1.out _⟩
          case measure => simp [intOf]; omega
        · have huv' : ¬ (v : Int) = (u : Int) := by omega
          have hb2 : ((v : Int) != (u : Int)) = true := by simpa using huv'
          have HE : Hid (S ++ ⟨#[44]⟩ ++ U ++ ⟨#[45]⟩ ++ V = ⟨(pre l (k + 1)).toArray⟩) := Lib.hid (by
            have := pre_step l k _ (by omega) hx
            rw [ivText_two u v huv, ← ByteArray.append_assoc, ← ByteArray.append_assoc, HS.out, HU.out, HV.out] at this
            exact this)
          go_wp2_with fail
          refine (KU.out _).mono ?_
          rintro e w1 ⟨rfl, h1⟩
          have d0 := keep_cell hc0 h1
          have d1 := keep_cell hc1 h1
          have H1 := Lib.hid (below_call HB.out h1)
          clear h1 hc0 hc1
          rw [HU.out]
          go_wp2_with fail
          go_quiet (fail)
          go_wp2_with fail
          refine (KV.out _).mono ?_
          rintro e w2 ⟨rfl, h2⟩
          have H2 := Lib.hid (below_call (below_drewN H1.out _) h2)
          clear h2
          rw [HV.out]
          go_wp2_with fail
          go_roundw
          case rel => exact ⟨k + 1, by omega, by go_num, congrArg Value.string HE.out, H2.out⟩
          case measure => simp [intOf]; omega
      · have HK0 : Hid (k = 0) := Lib.hid (by omega)
        have HSE : Hid (S = ⟨#[]⟩) := Lib.hid (by rw [← HS.out, HK0.out, pre_zero])
        by_cases huv : v = u
        · have HE : Hid (S ++ U = ⟨(pre l (k + 1)).toArray⟩) := Lib.hid (by
            rw [HSE.out, ← HU.out, HK0.out, pre_one l _ (HK0.out ▸ hx), show ivText ((u : Int), (v : Int)) = decText u by simp [ivText, huv]]
            exact empty_add _)
          subst huv
          go_wp2_with fail
          refine (KU.out _).mono ?_
          rintro e w1 ⟨rfl, h1⟩
          have d0 := keep_cell hc0 h1
          have d1 := keep_cell hc1 h1
          have H1 := Lib.hid (below_call HB.out h1)
          clear h1 hc0 hc1
          rw [HU.out]
          go_wp2_with fail
          go_quiet (fail)
          go_wp2_with fail
          go_roundw
          case rel => exact ⟨k + 1, by omega, by go_num, congrArg Value.string HE.out, below_drewN H1.out _⟩
          case measure => simp [intOf]; omega
        · have huv' : ¬ (v : Int) = (u : Int) := by omega
          have hb2 : ((v : Int) != (u : Int)) = true := by simpa using huv'
          have HE : Hid (S ++ U ++ ⟨#[45]⟩ ++ V = ⟨(pre l (k + 1)).toArray⟩) := Lib.hid (by
            rw [HSE.out, HK0.out, pre_one l _ (HK0.out ▸ hx), ivText_two u v huv, HU.out, HV.out, empty_add])
          go_wp2_with fail
          refine (KU.out _).mono ?_
          rintro e w1 ⟨rfl, h1⟩
          have d0 := keep_cell hc0 h1
          have d1 := keep_cell hc1 h1
          have H1 := Lib.hid (below_call HB.out h1)
          clear h1 hc0 hc1
          rw [HU.out]
          go_wp2_with fail
          go_quiet (fail)
          go_wp2_with fail
          refine (KV.out _).mono ?_
          rintro e w2 ⟨rfl, h2⟩
          have H2 := Lib.hid (below_call (below_drewN H1.out _) h2)
          clear h2
          rw [HV.out]
          go_wp2_with fail
          go_roundw
          case rel => exact ⟨k + 1, by omega, by go_num, congrArg Value.string HE.out, H2.out⟩
          case measure => simp [intOf]; omega
    · obtain rfl : k = l.length := by omega
      go_wp2_with fail
      go_ret
      exact ⟨ret_str (by rw [← HS.out, pre_all]; unfold listText; rw [if_neg H0.out]), HB.out⟩
end Go.Proofs.YtgkdjbdcmmegiaaGreatDoor
