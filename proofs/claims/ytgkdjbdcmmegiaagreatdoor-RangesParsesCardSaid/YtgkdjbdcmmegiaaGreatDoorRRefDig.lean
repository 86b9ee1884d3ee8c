/- The reference's Digits and Value. Conditions: the text is shorter than 2^62 bytes; Value's has digits alone. -/
import Derived.Test.YtgkdjbdcmmegiaaGreatDoorRNum
import Derived.Test.YtgkdjbdcmmegiaaGreatDoorRFind
import Derived.Test.YtgkdjbdcmmegiaaGreatDoorRSort
import Derived.Test.YtgkdjbdcmmegiaaGreatDoorRIdx
import Derived.Test.YtgkdjbdcmmegiaaGreatDoorRIv
namespace Go.Proofs.YtgkdjbdcmmegiaaGreatDoor
open Go.RowKit Go.Shelf

set_option maxRecDepth 100000 in
set_option maxHeartbeats 4000000 in
theorem refDigits_any (s : List UInt8) (hs : s.length < 4611686018427387904) (w : World) :
    Calls Tryz.prog 52 #[.string ⟨s.toArray⟩] w fun e w' => e = .returned (.bool (isNum s)) ∧ w' = w := by
  by_cases hne : s = []
  · subst hne
    go_enter Tryz.func52, Tryz.ntmps52
    go_wp2_with fail
    go_loop [3] (fun i => i = .int .i64 0) (fun _ => 0)
    case atStart => rfl
    case round =>
      subst hrel
      go_wp2_with fail
      go_ret
      exact ⟨rfl, rfl⟩
  obtain ⟨S, hS⟩ : ∃ S : ByteArray, ⟨s.toArray⟩ = S := ⟨_, rfl⟩
  have hsz : S.size = s.length := by rw [← hS]; simp [ByteArray.size]
  rw [hS]
  have HS := Lib.hid hS
  have HSZ := Lib.hid hsz
  have hlen : ((S.size : Nat) : Int) < 9223372036854775807 := by omega
  clear hS hsz
  go_enter Tryz.func52, Tryz.ntmps52
  go_wp2_with fail
  go_loop [3] (fun i => ∃ k : Nat, k ≤ S.size ∧ i = .int .i64 k ∧ Hid (∀ (j : Nat) d, j < k → s[j]? = some d → ¬ d.toNat < 48 ∧ ¬ 57 < d.toNat)) (fun i => S.size - (intOf i).toNat)
  case atStart => exact ⟨0, Nat.zero_le _, rfl, Lib.hid fun j d hj => absurd hj (Nat.not_lt_zero _)⟩
  case round =>
    obtain ⟨k, hk, rfl, HG⟩ := hrel
    by_cases hlt : k < S.size
    · obtain ⟨d, hd⟩ : ∃ d, s[k]? = some d := ⟨_, List.getElem?_eq_getElem (by rw [← HSZ.out]; exact hlt)⟩
      have hbk : S[k] = d := byte_at s k d hd S HS.out hlt
      have HD := Lib.hid hd; clear hd
      have i1 : (0 : Int) ≤ (k : Int) := by omega
      have i2 : (k : Int) < (S.size : Int) := by omega
      by_cases h1 : ((d.toNat : Nat) : Int) < 48
      · have HN := Lib.hid (isNum_bad HD.out (.inl (by omega)))
        go_wp2_with fail
        go_ret
        rw [HN.out]
        exact ⟨rfl, rfl⟩
      · by_cases h2 : (57 : Int) < ((d.toNat : Nat) : Int)
        · have HN := Lib.hid (isNum_bad HD.out (.inr (by omega)))
          go_wp2_with fail
          go_ret
          rw [HN.out]
          exact ⟨rfl, rfl⟩
        · have HG2 : Hid (∀ (j : Nat) d, j < k + 1 → s[j]? = some d → ¬ d.toNat < 48 ∧ ¬ 57 < d.toNat) := Lib.hid (by
            intro j e hj he
            by_cases hjk : j = k
            · subst hjk
              have := HD.out.symm.trans he
              cases this
              omega
            · exact HG.out j e (by omega) he)
          clear HG
          go_wp2_with fail
          go_round
          case rel => exact ⟨k + 1, by omega, by go_num, HG2⟩
          case measure => simp [intOf]; omega
    · obtain rfl : k = S.size := by omega
      have hall : ∀ (j : Nat) d, s[j]? = some d → ¬ d.toNat < 48 ∧ ¬ 57 < d.toNat := fun j d he => HG.out j d (by rw [HSZ.out]; exact (List.getElem?_eq_some_iff.1 he).1) he
      clear HG
      cases hs' : s with
      | nil => exact absurd hs' hne
      | cons b r =>
        subst hs'
        have h0 : 0 < S.size := by rw [HSZ.out]; simp
        have h0' : (0 : Int) < (S.size : Int) := by omega
        have hb : S[0] = b := byte_at (b :: r) 0 b rfl S HS.out h0
        have HA := Lib.hid hall; clear hall
        by_cases hb48 : ((b.toNat : Nat) : Int) = 48
        · have hbe : b = 48 := UInt8.toNat_inj.1 (by rw [show (48 : UInt8).toNat = 48 from rfl]; omega)
          by_cases hr : r = []
          · have HN := Lib.hid (isNum_good (b := b) (.inr hr) HA.out)
            have h1 : (S.size : Int) = 1 := by have := HSZ.out; rw [hr] at this; simp at this; omega
            clear hr hbe
            go_wp2_with fail
            go_ret
            rw [HN.out]
            exact ⟨rfl, rfl⟩
          · have HN : Hid (isNum (b :: r) = false) := Lib.hid (by
              subst hbe
              show ((48 != 48 || r.isEmpty) && (48 :: r).all fun b => 48 ≤ b && b ≤ 57) = false
              cases r with
              | nil => exact absurd rfl hr
              | cons c r => rfl)
            have h1 : ¬ (S.size : Int) = 1 := by
              have := HSZ.out
              have hl := List.length_pos_iff.2 hr
              simp at this; omega
            have h1b : ((S.size : Int) == 1) = false := by simpa using h1
            clear hr hbe
            go_wp2_with fail
            go_ret
            rw [HN.out]
            exact ⟨rfl, rfl⟩
        · have hbe : b ≠ 48 := fun e => hb48 (by rw [e]; rfl)
          have HN := Lib.hid (isNum_good (b := b) (r := r) (.inl hbe) HA.out)
          clear hbe
          go_wp2_with fail
          go_ret
          rw [HN.out]
          exact ⟨rfl, rfl⟩

/-- What Value returns. -/
def valV (s : List UInt8) : Value := match valM 0 s with
  | some u => .tuple #[.int .u64 u, .bool true]
  | none => .tuple #[.int .u64 0, .bool false]
theorem valM_step {s : List UInt8} {k acc : Nat} {d : UInt8} (hd : s[k]? = some d) : valM acc (s.drop k) = if acc * 10 + (d.toNat - 48) < 18446744073709551616 then valM (acc * 10 + (d.toNat - 48)) (s.drop (k + 1)) else none := by
  obtain ⟨hlt, e⟩ := List.getElem?_eq_some_iff.1 hd
  rw [List.drop_eq_getElem_cons hlt, e, valM]

set_option maxRecDepth 100000 in
set_option maxHeartbeats 4000000 in
theorem refValue_any (s : List UInt8) (hs : s.length < 4611686018427387904) (hdig : allDig s) (w : World) :
    Calls Tryz.prog 53 #[.string ⟨s.toArray⟩] w fun e w' => e = .returned (valV s) ∧ Below w.heap.size w w' := by
  obtain ⟨S, hS⟩ : ∃ S : ByteArray, ⟨s.toArray⟩ = S := ⟨_, rfl⟩
  have hsz : S.size = s.length := by rw [← hS]; simp [ByteArray.size]
  rw [hS]
  have HS := Lib.hid hS
  have HSZ := Lib.hid hsz
  have hlen : ((S.size : Nat) : Int) < 9223372036854775807 := by omega
  clear hS hsz
  obtain ⟨M, hM⟩ : ∃ M : Int, 18446744073709551615 = M := ⟨_, rfl⟩
  have km := max_any
  rw [hM] at km
  have KM := Lib.hid km; clear km
  have HM := Lib.hid hM; clear hM
  have HDg := Lib.hid hdig; clear hdig
  go_enter Tryz.func53, Tryz.ntmps53
  go_wp2_with fail
  go_loopw [4, 5] (fun n i wr => ∃ k u : Nat, k ≤ S.size ∧ i = .int .i64 k ∧ n = .int .u64 u ∧ u < 18446744073709551616 ∧ Hid (valM 0 s = valM u (s.drop k)) ∧ Below w.heap.size w wr) (fun _ i _ => S.size - (intOf i).toNat)
  case atStart => exact ⟨0, 0, Nat.zero_le _, rfl, rfl, by omega, Lib.hid rfl, Below.refl _ _⟩
  case round =>
    obtain ⟨k, u, hk, rfl, rfl, hu, HV, hb⟩ := hrel
    have HB := Lib.hid hb; clear hb
    by_cases hlt : k < S.size
    · obtain ⟨d, hd⟩ : ∃ d, s[k]? = some d := ⟨_, List.getElem?_eq_getElem (by rw [← HSZ.out]; exact hlt)⟩
      have hbk : S[k] = d := byte_at s k d hd S HS.out hlt
      have hd9 := HDg.out d (List.mem_of_getElem? hd)
      have HD := Lib.hid hd
      have i1 : (0 : Int) ≤ (k : Int) := by omega
      have i2 : (k : Int) < (S.size : Int) := by omega
      have hst := valM_step (acc := u) hd
      clear hd
      obtain ⟨x, hx⟩ : ∃ x : Nat, d.toNat - 48 = x := ⟨_, rfl⟩
      have hx9 : x ≤ 9 := by omega
      have hw1 : IntKind.u8.wrap (((d.toNat : Nat) : Int) - 48) = (x : Int) := by rw [IntKind.wrap_u8]; omega
      have hw2 : IntKind.u64.wrap (x : Int) = (x : Int) := by rw [IntKind.wrap_u64]; omega
      obtain ⟨m, hm⟩ : ∃ m : Int, M - (x : Int) = m := ⟨_, rfl⟩
      have hm0 : 0 ≤ m ∧ m ≤ 18446744073709551615 := by rw [← hm, ← HM.out]; omega
      have hw3 : IntKind.u64.wrap (M - (x : Int)) = m := by rw [hm, IntKind.wrap_u64]; omega
      rw [hx] at hst
      have HST := Lib.hid hst; clear hst
      obtain ⟨q, hq⟩ : ∃ q : Int, m / 10 = q := ⟨_, rfl⟩
      have hq1 : IntKind.u64.wrap (m.tdiv 10) = q := by rw [IntWalk.u64_quo _ _ ⟨hm0.1, hm0.2, by omega⟩]; exact hq
      have HQ : Hid ((M - (x : Int)) / 10 = q) := Lib.hid (by rw [hm]; exact hq)
      clear hq hm hm0
      have HU := Lib.hid hu; clear hu
      have HX9 := Lib.hid hx9; clear hx9
      have HD9 := Lib.hid hd9; clear hd9
      clear hx
      obtain ⟨un, hun⟩ : ∃ un : Int, (u : Int) = un := ⟨_, rfl⟩
      rw [hun]
      have HUn := Lib.hid hun; clear hun
      by_cases hov : q < un
      · have HN : Hid (valV s = .tuple #[.int .u64 0, .bool false]) := Lib.hid (by
          unfold valV
          rw [HV.out, HST.out, if_neg (by have := HUn.out; have := HQ.out; have := HM.out; have := HX9.out; omega)])
        go_wp2_with fail
        refine (KM.out wr).mono ?_
        rintro e w1 ⟨rfl, rfl⟩
        go_wp2_with fail
        go_ret2
        rw [HN.out]
        exact ⟨rfl, HB.out⟩
      · have hlt2 : u * 10 + x < 18446744073709551616 := by have := HUn.out; have := HQ.out; have := HM.out; have := HX9.out; omega
        obtain ⟨z, hz⟩ : ∃ z : Nat, u * 10 + x = z := ⟨_, rfl⟩
        obtain ⟨m4, hm4⟩ : ∃ m4 : Int, 10 * un = m4 := ⟨_, rfl⟩
        have hw4 : IntKind.u64.wrap (10 * un) = m4 := by rw [← hm4, ← HUn.out, IntKind.wrap_u64]; omega
        have hw5 : IntKind.u64.wrap (m4 + (x : Int)) = (z : Int) := by rw [← hm4, ← hz, ← HUn.out, IntKind.wrap_u64]; omega
        have HV2 : Hid (valM 0 s = valM z (s.drop (k + 1))) := Lib.hid (by rw [HV.out, HST.out, if_pos hlt2, hz])
        rw [hz] at hlt2
        clear hz hm4
        have HL2 := Lib.hid hlt2; clear hlt2
        go_wp2_with fail
        refine (KM.out wr).mono ?_
        rintro e w1 ⟨rfl, rfl⟩
        have HLt := Lib.hid hlt
        have hwk : wrap64 ((k : Int) + 1) = ((k + 1 : Nat) : Int) := by unfold wrap64; omega
        have HWk := Lib.hid hwk
        clear hs hlen hk hlt i1 i2 hbk hwk
        go_wp2_with fail
        go_roundw
        case rel => exact ⟨k + 1, z, HLt.out, by rw [HWk.out], rfl, HL2.out, HV2, HB.out⟩
        case measure => rw [HWk.out]; have := HLt.out; simp [intOf]; omega
    · obtain rfl : k = S.size := by omega
      have HY : Hid (valV s = .tuple #[.int .u64 u, .bool true]) := Lib.hid (by unfold valV; rw [HV.out, HSZ.out, List.drop_length]; rfl)
      go_wp2_with fail
      go_ret2
      rw [HY.out]
      exact ⟨rfl, HB.out⟩
end Go.Proofs.YtgkdjbdcmmegiaaGreatDoor

/- The reference's Split: the same parts. Conditions: the text has at most 2^20 bytes. -/
namespace Go.Proofs.YtgkdjbdcmmegiaaGreatDoor
open Go.RowKit Go.Shelf

theorem index_none : ∀ (s : List UInt8) (c : UInt8), (∀ (j : Nat) d, s[j]? = some d → d ≠ c) → Lib.indexByte s c = -1 := by
  intro s c
  induction s with
  | nil => intro _; rfl
  | cons b r ih =>
    intro h
    have hb : ¬ (b == c) = true := by simpa using h 0 b rfl
    have hr := ih fun j d hd => h (j + 1) d (by simpa using hd)
    unfold Lib.indexByte
    rw [if_neg hb, hr]
    rfl
theorem index_some : ∀ (s : List UInt8) (c : UInt8) (i : Nat), s[i]? = some c → (∀ (j : Nat) d, j < i → s[j]? = some d → d ≠ c) → Lib.indexByte s c = i := by
  intro s c
  induction s with
  | nil => intro i h _; simp at h
  | cons b r ih =>
    intro i h hb
    unfold Lib.indexByte
    cases i with
    | zero =>
      have : b = c := by simpa using h
      rw [if_pos (by simpa using this)]
      rfl
    | succ i =>
      have h1 : ¬ (b == c) = true := by simpa using hb 0 b (by omega) rfl
      have h2 := ih i (by simpa using h) fun j d hj hd => hb (j + 1) d (by omega) (by simpa using hd)
      rw [if_neg h1, h2, if_neg (by simp)]
      rfl
/-- A part ends in front of a separator. -/
theorem split_at (s : List UInt8) (c : UInt8) (f i : Nat) (hf : f ≤ i) (hi : s[i]? = some c) (hn : ∀ (j : Nat) d, f ≤ j → j < i → s[j]? = some d → d ≠ c) :
    splitL c (s.drop f) = (s.take i).drop f :: splitL c (s.drop (i + 1)) := by
  have h1 : Lib.indexByte (s.drop f) c = ((i - f : Nat) : Int) := index_some _ _ _ (by rw [List.getElem?_drop, show f + (i - f) = i by omega]; exact hi)
    fun j d hj hd => hn (f + j) d (by omega) (by omega) (by rw [List.getElem?_drop] at hd; exact hd)
  rw [splitL_some _ _ _ h1, List.drop_drop, show f + (i - f + 1) = i + 1 by omega, List.drop_take]
theorem split_end (s : List UInt8) (c : UInt8) (f : Nat) (hn : ∀ (j : Nat) d, f ≤ j → s[j]? = some d → d ≠ c) : splitL c (s.drop f) = [s.drop f] :=
  splitL_none _ _ (index_none _ _ fun j d hd => hn (f + j) d (by omega) (by rw [List.getElem?_drop] at hd; exact hd))

def OwnS (W : World) (B : Nat) (v : Value) (P : List (List UInt8)) : Prop := W.ownsRow B 9 1 v P.length (P.flatMap strC)
/-- What Split has found behind i bytes. -/
structure SplitI (c : UInt8) (s : List UInt8) (B : Nat) (out : Value) (f i : Nat) (D : List (List UInt8)) (W : World) : Prop where
  own : OwnS W B out D
  le : f ≤ i
  top : i ≤ s.length + 1
  some_ : i ≤ s.length → D ++ splitL c (s.drop f) = splitL c s ∧ ∀ (j : Nat) d, f ≤ j → j < i → s[j]? = some d → d ≠ c
  all : i = s.length + 1 → D = splitL c s
def StrsEnd (P : List (List UInt8)) (w : World) (e : Ending) (w' : World) : Prop := ∃ v, e = .returned v ∧ OwnS w' w.heap.size v P ∧ Below w.heap.size w w'

theorem owns_snoc {W : World} {B : Nat} {v : Value} {D : List (List UInt8)} {p : List UInt8} {X : ByteArray} (h : W.ownsRow B 9 1 v (D.length + 1) (D.flatMap strC ++ [.string X])) (hX : X = ⟨p.toArray⟩) : OwnS W B v (D ++ [p]) := by
  subst hX
  unfold OwnS
  rw [List.length_append, List.flatMap_append]
  simpa [strC] using h

set_option maxRecDepth 100000 in
set_option maxHeartbeats 4000000 in
theorem refSplit_any (s : List UInt8) (c : UInt8) (hs : s.length ≤ 1048576) (w : World) :
    Calls Tryz.prog 51 #[.string ⟨s.toArray⟩, .int .u8 (c.toNat : Nat)] w (StrsEnd (splitL c s) w) := by
  obtain ⟨i0, hi', hz0, hz1, hz2⟩ := info_parts infoS
  obtain ⟨S, hS⟩ : ∃ S : ByteArray, ⟨s.toArray⟩ = S := ⟨_, rfl⟩
  have hsz : S.size = s.length := by rw [← hS]; simp [ByteArray.size]
  rw [hS]
  have HS := Lib.hid hS
  have HSZ := Lib.hid hsz
  have HEx : Hid (∀ f i, S.extract f i = ⟨((s.take i).drop f).toArray⟩) := Lib.hid (fun f i => by rw [← hS]; exact extract_list s f i)
  have hlen : ((S.size : Nat) : Int) ≤ 1048576 := by omega
  clear hS hsz
  go_enter Tryz.func51, Tryz.ntmps51
  go_wp2_with fail
  go_loopw [5, 6, 7] (fun out from_ i wr => ∃ (f k : Nat) (D : List (List UInt8)), from_ = .int .i64 f ∧ i = .int .i64 k ∧ D.length ≤ k ∧ Hid (SplitI c s w.heap.size out f k D wr) ∧ Below w.heap.size w wr) (fun _ _ i _ => S.size + 1 - (intOf i).toNat)
  case atStart => exact ⟨0, 0, [], rfl, rfl, Nat.zero_le _, Lib.hid ⟨World.ownsRow_nil _ _ _ _, Nat.le_refl _, Nat.zero_le _, fun _ => ⟨rfl, fun j d _ hj => absurd hj (Nat.not_lt_zero _)⟩, fun h => by omega⟩, Below.refl _ _⟩
  case round =>
    obtain ⟨f, k, D, rfl, rfl, hDk, HI, hb⟩ := hrel
    have HB := Lib.hid hb; clear hb
    obtain ⟨pp, cc, rfl, _⟩ := own_shape HI.out.own
    have hfk := HI.out.le
    have hBs := HB.out.size
    have htop : k ≤ S.size + 1 := by rw [HSZ.out]; exact HI.out.top
    by_cases hlt : k ≤ S.size
    · have i1 : (0 : Int) ≤ (k : Int) := by omega
      have i2 : (k : Int) ≤ (S.size : Int) := by omega
      have i3 : (0 : Int) ≤ (f : Int) := by omega
      have i4 : (f : Int) ≤ (k : Int) := by omega
      have hm : D.length + 1 ≤ maxLen := by unfold maxLen; omega
      have hm2 : (D.length + 1) * 16 ≤ 140737488355328 := by omega
      have HD := Lib.hid hDk; clear hDk
      by_cases hend : (k : Int) = (S.size : Int)
      · have hbs : ((k : Int) == (S.size : Int)) = true := by simpa using hend
        go_wp2_with (at_builtin; refine wpList_append_own _ rfl _ _ 68 rfl w.heap.size 9 i0 (.string ⟨#[]⟩) 1 16 Tryz.underlying68 hi' hz0 hz1 hz2 rfl (by decide) _ D.length (D.flatMap strC) rfl (own_below HI.out.own (below_new _ _)) ⟨_, 0, none⟩ 1 1 [.string (S.extract f S.size)] rfl rfl (cell_one_at _ _ _ _ rfl) (by simp [Value.oneCell']) hm hm2 (by simp; omega) ?_; intro v' w1 hown' hgrow _; obtain ⟨g', cap', rfl⟩ := ownsRow_succ hown'; have HO4 := Lib.hid hown'; clear hown'; have HW := Lib.hid (own_grown (below_alloc HB.out _) (own_below HI.out.own (below_new _ _)) hgrow (by simp; omega)); clear hgrow)
        go_roundw
        case rel =>
          have hkn : k = s.length := by have := HSZ.out; omega
          have hn := HI.out.some_ (by omega)
          have he := split_end s c f fun j d hj hd => hn.2 j d hj (by have := (List.getElem?_eq_some_iff.1 hd).1; omega) hd
          refine ⟨k + 1, k + 1, D ++ [s.drop f], by go_num, by go_num, by have := HD.out; simp; omega, Lib.hid ⟨owns_snoc HO4.out (by rw [HEx.out, HSZ.out, List.take_length]), Nat.le_refl _, by omega, fun h => by omega, fun _ => by rw [← hn.1, he]⟩, HW.out⟩
        case measure => simp [intOf]; omega
      · have hbs : ((k : Int) == (S.size : Int)) = false := by simpa using hend
        have hks : k < S.size := by omega
        obtain ⟨d, hd⟩ : ∃ d, s[k]? = some d := ⟨_, List.getElem?_eq_getElem (by rw [← HSZ.out]; exact hks)⟩
        have hbk : S[k] = d := byte_at s k d hd S HS.out hks
        have i5 : (k : Int) < (S.size : Int) := by omega
        have HDd := Lib.hid hd; clear hd
        by_cases hdc : ((d.toNat : Nat) : Int) = ((c.toNat : Nat) : Int)
        · have hdc' : d = c := UInt8.toNat_inj.1 (by omega)
          have HDC := Lib.hid hdc'
          have hdb : (((d.toNat : Nat) : Int) == ((c.toNat : Nat) : Int)) = true := by simpa using hdc
          clear hdc'
          go_wp2_with (at_builtin; refine wpList_append_own _ rfl _ _ 68 rfl w.heap.size 9 i0 (.string ⟨#[]⟩) 1 16 Tryz.underlying68 hi' hz0 hz1 hz2 rfl (by decide) _ D.length (D.flatMap strC) rfl (own_below HI.out.own (below_new _ _)) ⟨_, 0, none⟩ 1 1 [.string (S.extract f k)] rfl rfl (cell_one_at _ _ _ _ rfl) (by simp [Value.oneCell']) hm hm2 (by simp; omega) ?_; intro v' w1 hown' hgrow _; obtain ⟨g', cap', rfl⟩ := ownsRow_succ hown'; have HO4 := Lib.hid hown'; clear hown'; have HW := Lib.hid (own_grown (below_alloc HB.out _) (own_below HI.out.own (below_new _ _)) hgrow (by simp; omega)); clear hgrow)
          go_roundw
          case rel =>
            have hkn : k < s.length := by have := HSZ.out; omega
            have hn := HI.out.some_ (by omega)
            have he := split_at s c f k hfk (by rw [HDd.out, HDC.out]) hn.2
            refine ⟨k + 1, k + 1, D ++ [(s.take k).drop f], by go_num, by go_num, by have := HD.out; simp; omega, Lib.hid ⟨owns_snoc HO4.out (HEx.out f k), Nat.le_refl _, by omega, fun _ => ⟨by rw [← hn.1, he]; simp, fun j e h1 h2 => by omega⟩, fun h => by omega⟩, HW.out⟩
          case measure => simp [intOf]; omega
        · have hdb : (((d.toNat : Nat) : Int) == ((c.toNat : Nat) : Int)) = false := by simpa using hdc
          have HDC : Hid (d ≠ c) := Lib.hid fun e => hdc (by rw [e])
          go_wp2_with fail
          go_roundw
          case rel =>
            have hkn : k < s.length := by have := HSZ.out; omega
            have hn := HI.out.some_ (by omega)
            refine ⟨f, k + 1, D, rfl, by go_num, by have := HD.out; omega, Lib.hid ⟨HI.out.own, by omega, by omega, fun _ => ⟨hn.1, fun j e h1 h2 he => ?_⟩, fun h => by omega⟩, HB.out⟩
            by_cases hjk : j = k
            · subst hjk
              have := HDd.out.symm.trans he
              cases this
              exact HDC.out
            · exact hn.2 j e h1 (by omega) he
          case measure => simp [intOf]; omega
    · have hk : k = S.size + 1 := by omega
      have HE : Hid (D = splitL c s) := Lib.hid (HI.out.all (by rw [hk, HSZ.out]))
      have i2 : ¬ (k : Int) ≤ (S.size : Int) := by omega
      clear hk
      go_wp2_with fail
      go_ret
      exact ⟨_, rfl, HE.out ▸ HI.out.own, HB.out⟩
end Go.Proofs.YtgkdjbdcmmegiaaGreatDoor

/- Plain mathematics of the reference's Parse. No conditions. -/
namespace Go.Proofs.YtgkdjbdcmmegiaaGreatDoor
open Go.RowKit

theorem part_one {x a : List UInt8} (h : splitL 45 x = [a]) : partR x = if isNum a = true then (match valM 0 a with
    | some u => .ok (((u : Int), (u : Int)), false)
    | none => .error 8) else .error 15 := by
  unfold partR
  rw [h]
  by_cases ha : isNum a = true
  · rw [if_pos ⟨by simpa using ha, by simp⟩, if_pos ha]
    have e1 : ([a] : List (List UInt8)).headD [] = a := rfl
    have e2 : ([a] : List (List UInt8)).getLastD [] = a := rfl
    rw [e1, e2]
    cases valM 0 a with
    | none => rfl
    | some u => simp
  · rw [if_neg (fun h => ha (by simpa using h.1)), if_neg ha]
theorem part_two {x a b : List UInt8} (h : splitL 45 x = [a, b]) : partR x = if isNum a = true ∧ isNum b = true then (match valM 0 a, valM 0 b with
    | some u, some v => .ok (((u : Int), (v : Int)), decide (u = v))
    | _, _ => .error 8) else .error 15 := by
  unfold partR
  rw [h]
  by_cases hab : isNum a = true ∧ isNum b = true
  · rw [if_pos ⟨by simpa using hab, by simp⟩, if_pos hab]
    have e1 : ([a, b] : List (List UInt8)).headD [] = a := rfl
    have e2 : ([a, b] : List (List UInt8)).getLastD [] = b := rfl
    rw [e1, e2]
    cases valM 0 a with
    | none => rfl
    | some u =>
      cases valM 0 b with
      | none => rfl
      | some v => simp
  · rw [if_neg (fun h => hab (by simpa using h.1)), if_neg hab]
theorem part_many {x : List UInt8} (h : 2 < (splitL 45 x).length) : partR x = .error 15 := by
  unfold partR
  rw [if_neg (fun h2 => by omega)]
theorem good_ok {x : List UInt8} {z : Iv × Bool} (h : partR x = .ok z) : partGood x = true ∧ partZ x = z := by
  unfold partGood partZ; rw [h]; exact ⟨rfl, rfl⟩
theorem parse_bad {s x : List UInt8} {c : Int} {k : Nat} (hs : s ≠ [110, 111, 110, 101]) (hx : (splitL 44 s)[k]? = some x) (hb : partR x = .error c) (hg : ∀ p ∈ (splitL 44 s).take k, partGood p = true) :
    parseV s = ([], some (c, some (k : Int))) := by
  have hlt : k < (splitL 44 s).length := (List.getElem?_eq_some_iff.1 hx).1
  have hbad : partGood x = false := by unfold partGood; rw [hb]
  have hfi : (splitL 44 s).findIdx? (fun x => !partGood x) = some k := by
    rw [List.findIdx?_eq_some_iff_getElem]
    refine ⟨hlt, by rw [(List.getElem?_eq_some_iff.1 hx).2, hbad]; rfl, fun j hj => ?_⟩
    have := hg ((splitL 44 s)[j]'(Nat.lt_trans hj hlt)) (by rw [List.mem_take_iff_getElem]; exact ⟨j, by omega, rfl⟩)
    simp [this]
  unfold parseV
  rw [if_neg hs, hfi]
  have e : partE x = c := by unfold partE; rw [hb]
  show ([], some (partE ((splitL 44 s).getD k []), some (k : Int))) = _
  rw [List.getD_eq_getElem?_getD, hx]
  show ([], some (partE x, some (k : Int))) = _
  rw [e]
theorem parse_good {s : List UInt8} (hs : s ≠ [110, 111, 110, 101]) (hg : ∀ p ∈ splitL 44 s, partGood p = true) :
    parseV s = match cpV ((splitL 44 s).map partZ) with
      | some e => ([], some e)
      | none => (((splitL 44 s).map partZ).map (·.1), none) := by
  unfold parseV
  have hfi : (splitL 44 s).findIdx? (fun x => !partGood x) = none := by
    rw [List.findIdx?_eq_none_iff]; intro x hx; simp [hg x hx]
  rw [if_neg hs, hfi]
  rfl
theorem twice_snoc (l : List (Iv × Bool)) (z : Iv × Bool) : twiceL (l ++ [z]) = if twiceL l < 0 then (if z.2 = true then (l.length : Int) else -1) else twiceL l := by
  unfold twiceL
  rw [List.findIdx?_append]
  cases h : l.findIdx? (·.2) with
  | some i => simp; omega
  | none =>
    cases hz : z.2 with
    | true => simp [List.findIdx?_cons, hz]
    | false => simp [List.findIdx?_cons, hz]
/-- What has been read behind k parts. -/
def zsK (P : List (List UInt8)) (k : Nat) : List (Iv × Bool) := (P.take k).map partZ
theorem zs_succ {P : List (List UInt8)} {k : Nat} {x : List UInt8} (hx : P[k]? = some x) : zsK P (k + 1) = zsK P k ++ [partZ x] := by
  have hlt : k < P.length := (List.getElem?_eq_some_iff.1 hx).1
  unfold zsK
  rw [List.take_succ_eq_append_getElem hlt, (List.getElem?_eq_some_iff.1 hx).2, List.map_append]
  rfl
theorem good_succ {P : List (List UInt8)} {k : Nat} {x : List UInt8} (hx : P[k]? = some x) (hg : ∀ p ∈ P.take k, partGood p = true) (hgx : partGood x = true) : ∀ p ∈ P.take (k + 1), partGood p = true := by
  have hlt : k < P.length := (List.getElem?_eq_some_iff.1 hx).1
  rw [List.take_succ_eq_append_getElem hlt, (List.getElem?_eq_some_iff.1 hx).2]
  intro p hp
  rcases List.mem_append.1 hp with h | h
  · exact hg p h
  · rw [List.mem_singleton.1 h]; exact hgx
theorem zs_len {P : List (List UInt8)} {k : Nat} (hk : k ≤ P.length) : (zsK P k).length = k := by
  unfold zsK; simp; omega
theorem codeE_chk (l : List Iv) : chkV l = none ↔ codeE (chkV l) = 0 := by
  have h := rightB_iff l
  unfold rightB at h
  constructor
  · intro e; rw [e]; rfl
  · intro e
    have hc := h.1 (by simpa using e)
    unfold chkV
    rw [(canon_iff l).2 hc]
    rfl
def RefParseEnd (x : List Iv × Option (Int × Option Int)) (w : World) (e : Ending) (w' : World) : Prop := ∃ v, e = .returned (.tuple #[v, .int .i64 (codeE x.2), .int .i64 ((atE x.2).getD (-1))]) ∧ IvsAt w' v x.1 ∧ Below w.heap.size w w'
end Go.Proofs.YtgkdjbdcmmegiaaGreatDoor

/- Parse inverts Text: plain mathematics. No conditions. -/
namespace Go.Proofs.YtgkdjbdcmmegiaaGreatDoor
open Go.RowKit

theorem split_no (c : UInt8) : ∀ x : List UInt8, (∀ b ∈ x, b ≠ c) → splitL c x = [x] := by
  intro x
  induction x with
  | nil => intro _; rfl
  | cons b r ih =>
    intro h
    rw [splitL, if_neg (h b (by simp)), ih fun d hd => h d (List.mem_cons_of_mem _ hd)]
theorem split_app (c : UInt8) (t : List UInt8) : ∀ x : List UInt8, (∀ b ∈ x, b ≠ c) → splitL c (x ++ c :: t) = x :: splitL c t := by
  intro x
  induction x with
  | nil => intro _; rw [List.nil_append, splitL, if_pos rfl]
  | cons b r ih =>
    intro h
    rw [List.cons_append, splitL, if_neg (h b (by simp)), ih fun d hd => h d (List.mem_cons_of_mem _ hd)]
theorem split_tail (c : UInt8) : ∀ (r : List (List UInt8)) (x : List UInt8), (∀ p ∈ x :: r, ∀ b ∈ p, b ≠ c) → splitL c (x ++ Lib.joinTail [c] r) = x :: r := by
  intro r
  induction r with
  | nil =>
    intro x h
    simp only [Lib.joinTail, List.map_nil, List.flatten_nil, List.append_nil]
    exact split_no c x (h x (by simp))
  | cons y r ih =>
    intro x h
    have e : Lib.joinTail [c] (y :: r) = c :: (y ++ Lib.joinTail [c] r) := by simp [Lib.joinTail]
    rw [e, split_app c _ x (h x (by simp)), ih y fun p hp => h p (List.mem_cons_of_mem _ hp)]
theorem split_join (c : UInt8) (P : List (List UInt8)) (hne : P ≠ []) (h : ∀ p ∈ P, ∀ b ∈ p, b ≠ c) : splitL c (Lib.join P [c]) = P := by
  cases P with
  | nil => exact absurd rfl hne
  | cons x r => rw [Lib.join_cons]; exact split_tail c r x h

/-- The digits of a number. -/
theorem dig_all : ∀ n : Nat, allDig (Lib.decDigits n) := by
  intro n
  induction n using Nat.strongRecOn with
  | _ n ih =>
    rw [Lib.decDigits]
    by_cases h : n < 10
    · rw [dif_pos h]
      intro b hb
      rw [List.mem_singleton.1 hb]
      simp
      omega
    · rw [dif_neg h]
      intro b hb
      rcases List.mem_append.1 hb with hb | hb
      · exact ih (n / 10) (by omega) b hb
      · rw [List.mem_singleton.1 hb]
        simp
        omega
theorem dig_head : ∀ n : Nat, 0 < n → ∃ b r, Lib.decDigits n = b :: r ∧ b ≠ 48 := by
  intro n
  induction n using Nat.strongRecOn with
  | _ n ih =>
    intro hn
    rw [Lib.decDigits]
    by_cases h : n < 10
    · rw [dif_pos h]
      refine ⟨_, [], rfl, fun e => ?_⟩
      have := congrArg UInt8.toNat e
      simp at this
      omega
    · rw [dif_neg h]
      obtain ⟨b, r, e, hb⟩ := ih (n / 10) (by omega) (by omega)
      rw [e]
      exact ⟨b, r ++ _, rfl, hb⟩
theorem num_of (n : Nat) : isNum (decText n) = true := by
  rw [← dec_text]
  have hall := dig_all n
  by_cases h : n = 0
  · subst h; rw [Lib.decDigits]; rfl
  · obtain ⟨b, r, e, hb⟩ := dig_head n (by omega)
    rw [e] at hall ⊢
    exact isNum_good (.inl hb) fun k d hd => by have := hall d (List.mem_of_getElem? hd); omega
theorem valM_snoc : ∀ (s : List UInt8) (acc : Nat) (d : UInt8), valM acc (s ++ [d]) = (valM acc s).bind fun n => if n * 10 + (d.toNat - 48) < 18446744073709551616 then some (n * 10 + (d.toNat - 48)) else none := by
  intro s
  induction s with
  | nil => intro acc d; simp [valM]
  | cons c r ih =>
    intro acc d
    rw [List.cons_append, valM, valM]
    split
    · exact ih _ d
    · rfl
theorem val_of : ∀ n : Nat, n < 18446744073709551616 → valM 0 (Lib.decDigits n) = some n := by
  intro n
  induction n using Nat.strongRecOn with
  | _ n ih =>
    intro hn
    rw [Lib.decDigits]
    by_cases h : n < 10
    · rw [dif_pos h, valM]
      have e : (UInt8.ofNat (48 + n)).toNat - 48 = n := by simp; omega
      rw [e, if_pos (by omega), valM]
      simp
    · rw [dif_neg h, valM_snoc, ih (n / 10) (by omega) (by omega)]
      have e : (UInt8.ofNat (48 + n % 10)).toNat - 48 = n % 10 := by simp; omega
      simp only [Option.bind_some, e]
      rw [if_pos (by omega)]
      congr 1
      omega
theorem no_byte {n : Nat} {c : UInt8} (hc : c.toNat < 48) : ∀ b ∈ decText n, b ≠ c := by
  rw [← dec_text]
  intro b hb e
  have := dig_all n b hb
  subst e
  omega
theorem part_text (x : Iv) (hx : In64 x) : partR (ivText x) = .ok (x, false) := by
  obtain ⟨a, b⟩ := x
  obtain ⟨⟨h1, h2⟩, h3, h4⟩ := hx
  obtain ⟨u, rfl⟩ : ∃ u : Nat, a = u := ⟨a.toNat, by simp at h1; omega⟩
  obtain ⟨v, rfl⟩ : ∃ v : Nat, b = v := ⟨b.toNat, by simp at h3; omega⟩
  have hu : u < 18446744073709551616 := by simp at h2; omega
  have hv : v < 18446744073709551616 := by simp at h4; omega
  have vu : valM 0 (decText u) = some u := by rw [← dec_text]; exact val_of u hu
  have vv : valM 0 (decText v) = some v := by rw [← dec_text]; exact val_of v hv
  by_cases he : v = u
  · subst he
    have e : ivText ((v : Int), (v : Int)) = decText v := by simp [ivText]
    rw [e, part_one (split_no 45 _ (no_byte (by decide))), if_pos (num_of v), vv]
  · have e : ivText ((u : Int), (v : Int)) = decText u ++ 45 :: decText v := by
      unfold ivText
      rw [if_neg (by simp; omega)]
      simp
    have hs : splitL 45 (decText u ++ 45 :: decText v) = [decText u, decText v] := by
      rw [split_app 45 _ _ (no_byte (by decide)), split_no 45 _ (no_byte (by decide))]
    rw [e, part_two hs, if_pos ⟨num_of u, num_of v⟩, vu, vv]
    show Except.ok (((u : Int), (v : Int)), decide (u = v)) = _
    rw [decide_eq_false (fun h => he h.symm)]
theorem iv_no (x : Iv) : ∀ b ∈ ivText x, b ≠ 44 := by
  intro b hb
  unfold ivText at hb
  split at hb
  · exact no_byte (by decide) b hb
  · rcases List.mem_append.1 hb with h | h
    · exact no_byte (by decide) b h
    · rcases List.mem_cons.1 h with h | h
      · rw [h]; decide
      · exact no_byte (by decide) b h
theorem iv_head (x : Iv) : ∃ b r, ivText x = b :: r ∧ b.toNat ≤ 57 := by
  have h0 : ∃ b r, decText x.1.toNat = b :: r ∧ b.toNat ≤ 57 := by
    have hall := dig_all x.1.toNat
    have hn := (isNum_dig (num_of x.1.toNat)).1
    rw [dec_text] at hall
    cases h : decText x.1.toNat with
    | nil => exact absurd h hn
    | cons b r => exact ⟨b, r, rfl, (hall b (by rw [h]; simp)).2⟩
  obtain ⟨b, r, e, hb⟩ := h0
  unfold ivText
  rw [e]
  split
  · exact ⟨b, r, rfl, hb⟩
  · exact ⟨b, _, rfl, hb⟩
theorem cp_plain (a : List Iv) : cpV (a.map fun x => (x, false)) = chkV a := by
  have e1 : (a.map fun x => (x, false)).map (·.1) = a := by rw [List.map_map]; exact List.map_id _
  have e2 : (a.map fun x => (x, false)).findIdx? (·.2) = none := by
    rw [List.findIdx?_eq_none_iff]
    intro z hz
    obtain ⟨x, _, rfl⟩ := List.mem_map.1 hz
    rfl
  unfold cpV
  rw [e1, e2]
  cases chkV a <;> rfl
/-- Parse inverts Text. -/
theorem parse_text (a : List Iv) (h64 : All64 a) : parseV (listText a) = match chkV a with
    | some e => ([], some e)
    | none => (a, none) := by
  cases a with
  | nil => rfl
  | cons x r =>
    have hlt : listText (x :: r) = Lib.join ((x :: r).map ivText) [44] := by unfold listText; rw [if_neg (by simp)]
    have hsp : splitL 44 (listText (x :: r)) = (x :: r).map ivText := by
      rw [hlt]
      refine split_join 44 _ (by simp) fun p hp => ?_
      obtain ⟨y, _, rfl⟩ := List.mem_map.1 hp
      exact iv_no y
    have hne : listText (x :: r) ≠ [110, 111, 110, 101] := by
      intro e
      obtain ⟨b, t, hb, hb2⟩ := iv_head x
      rw [hlt, List.map_cons, Lib.join_cons, hb] at e
      have := List.head_eq_of_cons_eq (e : b :: (t ++ _) = 110 :: [111, 110, 101])
      rw [this] at hb2
      exact absurd hb2 (by decide)
    have hg : ∀ p ∈ splitL 44 (listText (x :: r)), partGood p = true := by
      rw [hsp]
      intro p hp
      obtain ⟨y, hy, rfl⟩ := List.mem_map.1 hp
      exact (good_ok (part_text y (h64 y hy))).1
    have hz : (splitL 44 (listText (x :: r))).map partZ = (x :: r).map fun y => (y, false) := by
      rw [hsp, List.map_map]
      apply List.map_congr_left
      intro y hy
      exact (good_ok (part_text y (h64 y hy))).2
    rw [parse_good hne hg, hz, cp_plain]
    cases chkV (x :: r) with
    | some e => rfl
    | none =>
      show (((x :: r).map fun y => (y, false)).map (·.1), none) = (x :: r, none)
      rw [List.map_map]
      congr 1
      exact List.map_id _
end Go.Proofs.YtgkdjbdcmmegiaaGreatDoor
