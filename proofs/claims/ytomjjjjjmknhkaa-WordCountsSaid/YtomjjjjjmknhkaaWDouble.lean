/- Slices of ints that a function builds by append; the reference's double. Conditions: the digits are less than 10. -/
import Derived.Test.YtomjjjjjmknhkaaWAlive
import Derived.Test.YtomjjjjjmknhkaaWDigits
import Derived.OwnWalk
namespace Go.Proofs.Ytomjjjjjmknhkaa
open Go.RowKit

theorem owns_below {w w' : World} {base : Nat} {e : TypeId} {size : Nat} {v : Value} {n : Nat} {xs : List Value} (h : w.ownsRow base e size v n xs) (hb : Below w.heap.size w w') : w'.ownsRow base e size v n xs := by
  obtain ⟨h1, h2⟩ := h
  refine ⟨h1, ?_⟩
  rcases h2 with h2 | ⟨g, cap, cur, hv, hg, hh, r⟩
  · exact Or.inl h2
  · have hlt : g < w.heap.size := by
      rcases Nat.lt_or_ge g w.heap.size with h | h
      · exact h
      · rw [Array.getElem?_eq_none h] at hh; cases hh
    exact Or.inr ⟨g, cap, cur, hv, hg, by rw [hb.block g hlt]; exact hh, r⟩

theorem owns_cell {w : World} {base : Nat} {e : TypeId} {v : Value} {n : Nat} {xs : List Value} (h : w.ownsRow base e 1 v n xs) (hn : 0 < n) :
    ∃ g cap, v = .slice (some ⟨g, 0, none⟩) n cap ∧ base ≤ g ∧ g < w.heap.size ∧ ∀ i, i < n → w.cell? ⟨g, i, none⟩ = some (xs.getD i .nilIface) := by
  obtain ⟨hl, h2⟩ := h
  rcases h2 with ⟨_, h0⟩ | ⟨g, cap, cur, hv, hg, hh, hnc, _, hcs, ht⟩
  · omega
  · refine ⟨g, cap, hv, hg, ?_, fun i hi => ?_⟩
    · rcases Nat.lt_or_ge g w.heap.size with h | h
      · exact h
      · rw [Array.getElem?_eq_none h] at hh; cases hh
    · have hi' : i < cur.toList.length := by simp; omega
      have e1 : w.cell? ⟨g, i, none⟩ = cur[i]? := by simp [World.cell?, hh]
      rw [e1, ← ht, ← Array.getElem?_toList]
      simp only [Nat.mul_one]
      rw [List.getD_eq_getElem?_getD, List.getElem?_take_of_lt hi, List.getElem?_eq_getElem hi']
      rfl

/-- A slice of ints in memory. -/
def IntsAt (w : World) (s : Value) (ds : List Nat) : Prop :=
  ∃ p cap, s = .slice p ds.length cap ∧ (ds ≠ [] → ∃ g, p = some ⟨g, 0, none⟩ ∧ ∀ i, i < ds.length → w.cell? ⟨g, i, none⟩ = some (.int .i64 (ds.getD i 0 : Nat)))

theorem IntsAt.below {w w' : World} {s : Value} {ds : List Nat} (h : IntsAt w s ds) (hb : Below w.heap.size w w') : IntsAt w' s ds := by
  obtain ⟨p, cap, h1, h2⟩ := h
  refine ⟨p, cap, h1, fun hne => ?_⟩
  obtain ⟨g, h3, h4⟩ := h2 hne
  exact ⟨g, h3, fun i hi => keep_cell (h4 i hi) hb⟩

def vI (d : Nat) : Value := .int .i64 (d : Int)

theorem ints_of_owned {w : World} {base : Nat} {e : TypeId} {v : Value} {ds : List Nat} (h : w.ownsRow base e 1 v ds.length (ds.map vI)) (h0 : ds = [] → v = .slice none 0 0) : IntsAt w v ds := by
  cases ds with
  | nil => exact ⟨none, 0, h0 rfl, fun h => absurd rfl h⟩
  | cons d r =>
    obtain ⟨g, cap, hv, _, _, hc⟩ := owns_cell h (by simp)
    refine ⟨some ⟨g, 0, none⟩, cap, hv, fun _ => ⟨g, rfl, fun i hi => ?_⟩⟩
    rw [hc i hi]
    simp only [List.getD_eq_getElem?_getD, List.getElem?_map, List.getElem?_eq_getElem hi]
    rfl

def RowEnd (xs : List Nat) (w : World) (e : Ending) (w' : World) : Prop := ∃ v, e = .returned v ∧ IntsAt w' v xs ∧ Below w.heap.size w w'

/-- What double has built behind k rounds. -/
structure Dbl (ds : List Nat) (b k c : Nat) (out : Value) (w wr : World) : Prop where
  bit : c ≤ 1
  rest : ∃ pre : List Nat, pre.length = k ∧ dbl ds b = pre ++ dbl (ds.drop k) c ∧ wr.ownsRow w.heap.size 3 1 out k (pre.map vI)
  nil : k = 0 → out = .slice none 0 0
  below : Below w.heap.size w wr

theorem cell_one_new (w : World) (v : Value) (t : TypeId) : ∀ j u, ([v] : List Value)[j]? = some u → (w.alloc (.cells #[v] t)).cell? ((⟨w.heap.size, 0, none⟩ : Addr).add j) = some u := by
  intro j u h
  cases j with
  | zero => simpa [Addr.add] using h
  | succ j => simp at h

theorem int_info : (Try.prog.info? 3).map (fun i => (i.zero, i.size, i.bytes)) = some (some (.int .i64 0), 1, 8) := by kernel_rfl

theorem grown_below {B : Nat} {W w w' : World} {base : Nat} {e : TypeId} {size : Nat} {v : Value} {n : Nat} {xs : List Value} (h : Below B W w) (hg : w.grownBy w' v.ownBlock) (ho : w.ownsRow base e size v n xs) (hB : B ≤ w.heap.size) (hb : B ≤ base) : Below B W w' :=
  h.grown hg hB (fun k hk => Nat.le_trans hb (ho.lt k hk).1)

set_option maxRecDepth 100000 in
set_option maxHeartbeats 1000000 in
theorem double_any (ds : List Nat) (b : Nat) (s : Value) (w : World) (h : IntsAt w s ds) (hd : ∀ d ∈ ds, d < 10) (hb : b ≤ 1) (hl : ds.length ≤ 1000) :
    Calls Try.prog 29 #[s, .int .i64 (b : Int)] w (RowEnd (dbl ds b) w) := by
  obtain ⟨p, cap, rfl, hc⟩ := h
  have HC := Lib.hid hc; clear hc
  have HD := Lib.hid hd; clear hd
  obtain ⟨i0, hi, hz0, hz1, hz2⟩ := info_parts int_info
  have HI0 := Lib.hid hi; clear hi
  have HZ0 := Lib.hid hz0; clear hz0
  have HZ1 := Lib.hid hz1; clear hz1
  have HZ2 := Lib.hid hz2; clear hz2
  go_enter Try.func29, Try.ntmps29
  go_wp2_with fail
  go_loopw [1, 5, 6] (fun c out i wr => ∃ k cN : Nat, k ≤ ds.length ∧ i = .int .i64 k ∧ c = .int .i64 cN ∧ Dbl ds b k cN out w wr) (fun _ _ i _ => ds.length - (intOf i).toNat)
  case atStart => exact ⟨0, b, Nat.zero_le _, rfl, rfl, hb, ⟨[], rfl, rfl, rfl, Or.inl ⟨rfl, rfl⟩⟩, fun _ => rfl, Below.refl _ _⟩
  case round =>
    obtain ⟨k, c, hk, rfl, rfl, hD⟩ := hrel
    by_cases hlt : k < ds.length
    · have hne : ds ≠ [] := by intro h; subst h; simp at hlt
      obtain ⟨g, rfl, hcell⟩ := HC.out hne
      have hx : wr.cell? ⟨g, k, none⟩ = some (.int .i64 (ds.getD k 0 : Nat)) := keep_cell (hcell k hlt) hD.below
      have hd10 : ds.getD k 0 < 10 := HD.out _ (by simp [hlt])
      have hdrop : ds.drop k = ds.getD k 0 :: ds.drop (k + 1) := by
        rw [List.drop_eq_getElem_cons hlt]; simp [hlt]
      generalize hdd : ds.getD k 0 = d at *
      have hc1 := hD.bit
      obtain ⟨pre, hp1, hp2, hown⟩ := hD.rest
      have HNB := Lib.hid hD.below
      rw [hdrop] at hp2
      have hp3 : dbl ds b = (pre ++ [(2 * d + c) % 10]) ++ dbl (ds.drop (k + 1)) ((2 * d + c) / 10) := by rw [hp2]; simp [dbl]
      obtain ⟨q, hq⟩ : ∃ q, (2 * d + c) % 10 = q := ⟨_, rfl⟩
      obtain ⟨c2, hc2⟩ : ∃ c2, (2 * d + c) / 10 = c2 := ⟨_, rfl⟩
      have e1 : (2 * (d : Int) + c) % 10 = (q : Int) := by omega
      have e2 : (2 * (d : Int) + c) / 10 = (c2 : Int) := by omega
      have hc21 : c2 ≤ 1 := by omega
      rw [hq, hc2] at hp3
      have HP := Lib.hid hp3
      have HP1 := Lib.hid hp1
      have HO := Lib.hid hown
      have HDD := Lib.hid hdd
      clear hp1 hp2 hp3 hown hdd hD hdrop hq hc2 hcell hne
      have HO2 := Lib.hid (HO.out.alloc (.cells #[.int .i64 (q : Int)] 3))
      have HNB2 := Lib.hid (HNB.out.alloc HNB.out.size (.cells #[.int .i64 (q : Int)] 3))
      go_wp2_with (at_builtin; refine wpList_append_own _ rfl (.tmp 21) (.tmp 24) 54 rfl w.heap.size 3 i0 (.int .i64 0) 1 8 Try.underlying54 HI0.out HZ0.out HZ1.out HZ2.out rfl (by decide) _ k (pre.map vI) rfl HO2.out ⟨wr.heap.size, 0, none⟩ 1 1 [.int .i64 (q : Int)] rfl rfl ?c1 ?c2 ?c3 ?c4 ?c5 ?_)
      case c1 => exact cell_one_new _ _ _
      case c2 => intro u hu; rw [List.mem_singleton.1 hu]; rfl
      case c3 => unfold maxLen; omega
      case c4 => omega
      case c5 => exact Nat.le_trans HNB2.out.size (by simp)
      intro v' w1 hown' hgrow _
      have HB1 := Lib.hid (grown_below HNB2.out hgrow HO2.out HNB2.out.size (Nat.le_refl _))
      have HO1 := Lib.hid hown'
      clear hown' hgrow
      go_wp2_with fail
      go_roundw
      case rel => exact ⟨k + 1, c2, by omega, by go_num, by rw [e2], hc21, ⟨pre ++ [q], by simp [HP1.out], HP.out, by simpa [vI] using HO1.out⟩, fun h => by omega, HB1.out⟩
      case measure => simp [intOf]; omega
    · obtain rfl : k = ds.length := by omega
      have hc1 := hD.bit
      obtain ⟨pre, hp1, hp2, hown⟩ := hD.rest
      have HNB := Lib.hid hD.below
      have HNIL := Lib.hid hD.nil
      rw [List.drop_length] at hp2
      have HO := Lib.hid hown
      have HP1 := Lib.hid hp1
      clear hown hD hp1
      by_cases hc0 : c = 0
      · subst hc0
        have e : dbl ds b = pre := by rw [hp2]; simp [dbl]
        have HE := Lib.hid e
        clear hp2 e
        go_wp2_with fail
        go_ret
        exact ⟨_, rfl, by rw [HE.out]; exact ints_of_owned (e := 3) (base := w.heap.size) (by rw [HP1.out]; exact HO.out) (fun h => HNIL.out (by rw [← HP1.out, h]; rfl)), HNB.out⟩
      · obtain rfl : c = 1 := by omega
        have e : dbl ds b = pre ++ [1] := by rw [hp2]; simp [dbl]
        have HE := Lib.hid e
        have HO2 := Lib.hid (HO.out.alloc (.cells #[.int .i64 1] 3))
        have HNB2 := Lib.hid (HNB.out.alloc HNB.out.size (.cells #[.int .i64 1] 3))
        clear hp2 e hc0
        go_wp2_with (at_builtin; refine wpList_append_own _ rfl (.tmp 30) (.tmp 32) 54 rfl w.heap.size 3 i0 (.int .i64 0) 1 8 Try.underlying54 HI0.out HZ0.out HZ1.out HZ2.out rfl (by decide) _ ds.length (pre.map vI) rfl HO2.out ⟨wr.heap.size, 0, none⟩ 1 1 [.int .i64 1] rfl rfl ?c1 ?c2 ?c3 ?c4 ?c5 ?_)
        case c1 => exact cell_one_new _ _ _
        case c2 => intro u hu; rw [List.mem_singleton.1 hu]; rfl
        case c3 => unfold maxLen; omega
        case c4 => omega
        case c5 => exact Nat.le_trans HNB2.out.size (by simp)
        intro v' w1 hown' hgrow _
        have HB1 := Lib.hid (grown_below HNB2.out hgrow HO2.out HNB2.out.size (Nat.le_refl _))
        have HO1 := Lib.hid hown'
        clear hown' hgrow
        go_wp2_with fail
        go_ret
        exact ⟨_, rfl, by rw [HE.out]; exact ints_of_owned (e := 3) (base := w.heap.size) (by simpa [vI, HP1.out] using HO1.out) (fun h => by simp at h), HB1.out⟩
end Go.Proofs.Ytomjjjjjmknhkaa
