/- The reference's Parse says the same of every text. Conditions: the text has at most 65536 bytes. -/
import Derived.Test.YtgkdjbdcmmegiaaGreatDoorRRefDig
namespace Go.Proofs.YtgkdjbdcmmegiaaGreatDoor
open Go.RowKit Go.Shelf

theorem split_44 (s : List UInt8) (hs : s.length ≤ 1048576) (w : World) : Calls Tryz.prog 51 #[.string ⟨s.toArray⟩, .int .u8 44] w (StrsEnd (splitL 44 s) w) := refSplit_any s 44 hs w
theorem split_45 (s : List UInt8) (hs : s.length ≤ 1048576) (w : World) : Calls Tryz.prog 51 #[.string ⟨s.toArray⟩, .int .u8 45] w (StrsEnd (splitL 45 s) w) := refSplit_any s 45 hs w
theorem twice_ge (l : List (Iv × Bool)) : -1 ≤ twiceL l := by
  unfold twiceL
  split <;> omega
theorem own_step {W : World} {B : Nat} {v : Value} {P : List (List UInt8)} {k : Nat} {x : List UInt8} {z : Iv × Bool} (hx : P[k]? = some x) (hk : k ≤ P.length) (hz : partR x = .ok z)
    (h : W.ownsRow B 38 2 v (k + 1) (ivC ((zsK P k).map (·.1)) ++ [.int .u64 z.1.1, .int .u64 z.1.2])) : OwnL W B v ((zsK P (k + 1)).map (·.1)) := by
  unfold OwnL
  rw [zs_succ hx, (good_ok hz).2, List.map_append, List.length_append, List.length_map, zs_len hk]
  simpa [ivC] using h
theorem twice_skip {l : List (Iv × Bool)} {z : Iv × Bool} {m : Int} (hz : z.2 = false) (h : twiceL l = m) : twiceL (l ++ [z]) = m := by
  have h2 := twice_ge l
  rw [twice_snoc, h] at *
  by_cases hm : m < 0
  · rw [if_pos hm, if_neg (by rw [hz]; simp)]; omega
  · rw [if_neg hm]
theorem twice_first {l : List (Iv × Bool)} {z : Iv × Bool} {m : Int} (hz : z.2 = true) (h : twiceL l = m) (hm : m < 0) : twiceL (l ++ [z]) = l.length := by
  rw [twice_snoc, h, if_pos hm, if_pos hz]
theorem twice_keep {l : List (Iv × Bool)} {z : Iv × Bool} {m : Int} (h : twiceL l = m) (hm : ¬ m < 0) : twiceL (l ++ [z]) = m := by
  rw [twice_snoc, h, if_neg hm]
theorem none_ivs (W : World) : IvsAt W (.slice none 0 0) [] := ⟨none, 0, rfl, by simp, fun h => absurd rfl h⟩

set_option maxRecDepth 100000 in
set_option maxHeartbeats 40000000 in
theorem refParse_any (s : List UInt8) (hs : s.length ≤ 65536) (w : World) :
    Calls Tryz.prog 27 #[.string ⟨s.toArray⟩] w (RefParseEnd (parseV s) w) := by
  by_cases hnone : s = [110, 111, 110, 101]
  · subst hnone
    have hv : parseV [110, 111, 110, 101] = ([], none) := by unfold parseV; rw [if_pos rfl]
    go_enter Tryz.func27, Tryz.ntmps27
    go_wp2_with fail
    go_ret3
    rw [hv]
    exact ⟨_, rfl, none_ivs _, Below.refl _ _⟩
  obtain ⟨i0, hi', hz0, hz1, hz2⟩ := info_parts infoIv
  have hcnt := splitL_count 44 s
  have hpart := splitL_part 44 s
  have KS := Lib.hid (split_44 s (by omega) w)
  have KS5 := Lib.hid split_45
  have KD := Lib.hid refDigits_any
  have KV := Lib.hid refValue_any
  have KC := Lib.hid refCheck_any
  obtain ⟨S, hS⟩ : ∃ S : ByteArray, ⟨s.toArray⟩ = S := ⟨_, rfl⟩
  have hT : S.toList = s := by rw [ByteArray.toList_eq, ← hS]
  have hZ : (S.toList == [110, 111, 110, 101]) = false := by rw [hT]; simpa using hnone
  have HB := Lib.hid (fun x c k hx hb hg => parse_bad (x := x) (c := c) (k := k) hnone hx hb hg)
  have HG := Lib.hid (fun hg => parse_good hnone hg)
  rw [hS] at KS ⊢
  clear hnone hT hS
  generalize parseV s = pv at HB HG ⊢
  obtain ⟨P, hP⟩ : ∃ P, splitL 44 s = P := ⟨_, rfl⟩
  have hPne : P ≠ [] := hP ▸ splitL_ne 44 s
  rw [hP] at KS HB HG hcnt hpart
  clear hP
  have HPart : Hid (∀ x ∈ P, x.length ≤ 65536) := Lib.hid fun x hx => Nat.le_trans (hpart x hx) hs
  have hPl : P.length ≤ 65537 := by omega
  clear hpart hcnt
  go_enter Tryz.func27, Tryz.ntmps27
  go_wp2_with fail
  refine KS.out.mono ?_
  rintro e w0 ⟨v, rfl, hv, h1⟩
  obtain ⟨g, cp, rfl, hcs⟩ := strs_at hv hPne
  have H0 := Lib.hid h1; clear h1
  have HCs := Lib.hid hcs; clear hcs hv hPne
  go_wp2_with fail
  go_loopw [5, 6, 8] (fun out dbl i wr => ∃ (k : Nat) (m : Int), k ≤ P.length ∧ i = .int .i64 k ∧ dbl = .int .i64 m ∧ Hid (twiceL (zsK P k) = m) ∧ Hid (∀ p ∈ P.take k, partGood p = true) ∧ Hid (OwnL wr w0.heap.size out ((zsK P k).map (·.1))) ∧ Hid (Below w0.heap.size w0 wr)) (fun _ _ i _ => P.length - (intOf i).toNat)
  case atStart => exact ⟨0, -1, Nat.zero_le _, rfl, rfl, Lib.hid rfl, Lib.hid (by simp), Lib.hid (World.ownsRow_nil _ _ _ _), Lib.hid (Below.refl _ _)⟩
  case round =>
    obtain ⟨k, m, hk, rfl, rfl, HM, HGd, HO, HW0⟩ := hrel
    have HW := Lib.hid (below_call H0.out HW0.out)
    obtain ⟨pp, cc, rfl, _⟩ := own_shape HO.out
    have hzl : ((zsK P k).map (·.1)).length = k := by rw [List.length_map, zs_len hk]
    have HZL := Lib.hid hzl; clear hzl
    by_cases hlt : k < P.length
    · obtain ⟨x, hx⟩ : ∃ x, P[k]? = some x := ⟨P[k], by simp [hlt]⟩
      have hxl := HPart.out x (List.mem_of_getElem? hx)
      have c0 : wr.cell? ⟨g, k, none⟩ = some (.string ⟨x.toArray⟩) := keep_cell (HCs.out k x hx) HW0.out
      have i1 : (0 : Int) ≤ (k : Int) := by omega
      have i2 : (k : Int) < (P.length : Int) := by omega
      have HX := Lib.hid hx; clear hx
      have hpl := splitL_part 45 x
      have hPE := splitL_ne 45 x
      have KX := Lib.hid (KS5.out x (by omega) wr)
      rw [HZL.out]
      go_wp2_with fail
      refine KX.out.mono ?_
      rintro e w1 ⟨ve, rfl, hve, h1⟩
      obtain ⟨ge, ce, rfl, hec⟩ := strs_at hve hPE
      have HW1 := Lib.hid (below_call HW.out h1)
      have HW01 := Lib.hid (below_call HW0.out h1)
      have HO1 := Lib.hid (HO.out.below h1)
      clear h1 hve c0 HO HW HW0 KX
      have H1 := fun a => part_one (x := x) (a := a)
      have H2 := fun a b => part_two (x := x) (a := a) (b := b)
      have H3 := part_many (x := x)
      obtain ⟨E, hE⟩ : ∃ E, splitL 45 x = E := ⟨_, rfl⟩
      rw [hE] at hpl hPE hec H1 H2 H3 ⊢
      clear hE
      match E, hPE with
      | [a], _ =>
        have s0 := hec 0 a rfl
        have HP := Lib.hid (H1 a rfl)
        clear H1 H2 H3 hec
        by_cases hna : isNum a = true
        · have HNa := Lib.hid hna
          cases hva : valM 0 a with
          | some u =>
            have HR : Hid (partR x = .ok (((u : Int), (u : Int)), false)) := Lib.hid (by rw [HP.out, if_pos hna, hva])
            have HVa : Hid (valV a = .tuple #[.int .u64 u, .bool true]) := Lib.hid (by unfold valV; rw [hva])
            clear hva hna
            go_wp2_with fail
            refine (KD.out a (by have := hpl a (by simp); omega) _).mono ?_
            rintro e wd ⟨rfl, hwd⟩
            obtain rfl := hwd.symm
            rw [HNa.out]
            go_wp2_with fail
            refine (KD.out a (by have := hpl a (by simp); omega) _).mono ?_
            rintro e wd ⟨rfl, hwd⟩
            obtain rfl := hwd.symm
            rw [HNa.out]
            go_wp2_with fail
            refine (KV.out a (by have := hpl a (by simp); omega) (isNum_dig HNa.out).2 _).mono ?_
            rintro e w2 ⟨rfl, h2⟩
            rw [show valV a = _ from HVa.out]
            replace s0 := keep_cell s0 h2
            have HW2 := Lib.hid (below_call HW1.out h2)
            have HW02 := Lib.hid (below_call HW01.out h2)
            have HO2 := Lib.hid (HO1.out.below h2)
            clear h2
            go_wp2_with fail
            refine (KV.out a (by have := hpl a (by simp); omega) (isNum_dig HNa.out).2 _).mono ?_
            rintro e w3 ⟨rfl, h3⟩
            rw [show valV a = _ from HVa.out]
            replace s0 := keep_cell s0 h3
            have HW3 := Lib.hid (below_call HW2.out h3)
            have HW03 := Lib.hid (below_call HW02.out h3)
            have HO3 := Lib.hid (HO2.out.below h3)
            clear h3
            have HTw : Hid (twiceL (zsK P (k + 1)) = m) := Lib.hid (by rw [zs_succ HX.out, (good_ok HR.out).2]; exact twice_skip rfl HM.out)
            have hm : k + 1 ≤ maxLen := by unfold maxLen; omega
            have hm2 : (k + 1) * 16 ≤ 140737488355328 := by omega
            have hb3 := HW03.out.size
            have HOk : Hid ((w3.alloc (.cells #[.int .u64 (u : Int), .int .u64 (u : Int)] 38)).ownsRow w0.heap.size 38 2 (.slice pp k cc) k (ivC ((zsK P k).map (·.1)))) := Lib.hid (by have h := (HO3.out.below (below_new w3 (.cells #[.int .u64 (u : Int), .int .u64 (u : Int)] 38))); unfold OwnL at h; rw [HZL.out] at h; exact h)
            go_wp2_with (at_builtin; refine wpList_append_own _ rfl _ _ 23 rfl w0.heap.size 38 i0 (.agg #[.int .u64 0, .int .u64 0]) 2 16 Tryz.underlying23 hi' hz0 hz1 hz2 rfl (by decide) _ k (ivC ((zsK P k).map (fun z : Iv × Bool => z.1))) rfl (HOk.out) ⟨_, 0, none⟩ 1 1 [.int .u64 (u : Int), .int .u64 (u : Int)] rfl rfl (cell_two_at _ _ _ _ _ rfl) (by simp [Value.oneCell']) hm hm2 (by simp; omega) ?_; intro v' w4 hown' hgrow _; obtain ⟨g', cap', rfl⟩ := ownsRow_succ hown'; have HO4 := Lib.hid hown'; clear hown'; have HW04 := Lib.hid (own_grown (below_alloc HW03.out _) HOk.out hgrow (by simp; omega)); clear hgrow)
            go_roundw
            case rel => exact ⟨k + 1, m, by omega, by go_num, rfl, HTw, Lib.hid (good_succ HX.out HGd.out (good_ok HR.out).1), Lib.hid (own_step HX.out hk HR.out HO4.out), HW04⟩
            case measure => simp [intOf]; omega
          | none =>
            have HR : Hid (partR x = .error 8) := Lib.hid (by rw [HP.out, if_pos hna, hva])
            have HVa : Hid (valV a = .tuple #[.int .u64 0, .bool false]) := Lib.hid (by unfold valV; rw [hva])
            clear hva hna
            have HPV := Lib.hid (HB.out x 8 k HX.out (HR.out) HGd.out)
            go_wp2_with fail
            refine (KD.out a (by have := hpl a (by simp); omega) _).mono ?_
            rintro e wd ⟨rfl, hwd⟩
            obtain rfl := hwd.symm
            rw [HNa.out]
            go_wp2_with fail
            refine (KD.out a (by have := hpl a (by simp); omega) _).mono ?_
            rintro e wd ⟨rfl, hwd⟩
            obtain rfl := hwd.symm
            rw [HNa.out]
            go_wp2_with fail
            refine (KV.out a (by have := hpl a (by simp); omega) (isNum_dig HNa.out).2 _).mono ?_
            rintro e w2 ⟨rfl, h2⟩
            rw [show valV a = _ from HVa.out]
            replace s0 := keep_cell s0 h2
            have HW2 := Lib.hid (below_call HW1.out h2)
            have HW02 := Lib.hid (below_call HW01.out h2)
            have HO2 := Lib.hid (HO1.out.below h2)
            clear h2
            go_wp2_with fail
            refine (KV.out a (by have := hpl a (by simp); omega) (isNum_dig HNa.out).2 _).mono ?_
            rintro e w3 ⟨rfl, h3⟩
            rw [show valV a = _ from HVa.out]
            replace s0 := keep_cell s0 h3
            have HW3 := Lib.hid (below_call HW2.out h3)
            have HW03 := Lib.hid (below_call HW02.out h3)
            have HO3 := Lib.hid (HO2.out.below h3)
            clear h3
            have HWe := HW3
            go_wp2_with fail
            go_ret3
            rw [HPV.out]
            exact ⟨_, rfl, none_ivs _, HWe.out⟩
        · have HNa : Hid (isNum a = false) := Lib.hid (by simpa using hna)
          have HR : Hid (partR x = .error 15) := Lib.hid (by rw [HP.out, if_neg hna])
          clear hna
          have HPV := Lib.hid (HB.out x 15 k HX.out (HR.out) HGd.out)
          go_wp2_with fail
          refine (KD.out a (by have := hpl a (by simp); omega) _).mono ?_
          rintro e wd ⟨rfl, hwd⟩
          obtain rfl := hwd.symm
          rw [HNa.out]
          have HWe := HW1
          go_wp2_with fail
          go_ret3
          rw [HPV.out]
          exact ⟨_, rfl, none_ivs _, HWe.out⟩
      | [a, b], _ =>
        have s0 := hec 0 a rfl
        have s1 := hec 1 b rfl
        have HP := Lib.hid (H2 a b rfl)
        clear H1 H2 H3 hec
        by_cases hna : isNum a = true
        · have HNa := Lib.hid hna
          by_cases hnb : isNum b = true
          · have HNb := Lib.hid hnb
            cases hva : valM 0 a with
            | some u =>
              have HVa : Hid (valV a = .tuple #[.int .u64 u, .bool true]) := Lib.hid (by unfold valV; rw [hva])
              cases hvb : valM 0 b with
              | some q =>
                have HVb : Hid (valV b = .tuple #[.int .u64 q, .bool true]) := Lib.hid (by unfold valV; rw [hvb])
                have HR : Hid (partR x = .ok (((u : Int), (q : Int)), decide (u = q))) := Lib.hid (by rw [HP.out, if_pos ⟨hna, hnb⟩, hva, hvb])
                clear hva hvb hna hnb
                by_cases huq : (u : Int) = (q : Int)
                · obtain rfl : q = u := by omega
                  have HQ : Hid (q = q) := Lib.hid rfl
                  clear huq
                  by_cases hmn : m < 0
                  · have HMN := Lib.hid hmn
                    have HTw : Hid (twiceL (zsK P (k + 1)) = (k : Int)) := Lib.hid (by rw [zs_succ HX.out, (good_ok HR.out).2]; rw [twice_first (decide_eq_true HQ.out) HM.out HMN.out, zs_len hk])
                    go_wp2_with fail
                    refine (KD.out a (by have := hpl a (by simp); omega) _).mono ?_
                    rintro e wd ⟨rfl, hwd⟩
                    obtain rfl := hwd.symm
                    rw [HNa.out]
                    go_wp2_with fail
                    refine (KD.out b (by have := hpl b (by simp); omega) _).mono ?_
                    rintro e wd ⟨rfl, hwd⟩
                    obtain rfl := hwd.symm
                    rw [HNb.out]
                    go_wp2_with fail
                    refine (KV.out a (by have := hpl a (by simp); omega) (isNum_dig HNa.out).2 _).mono ?_
                    rintro e w2 ⟨rfl, h2⟩
                    rw [show valV a = _ from HVa.out]
                    replace s0 := keep_cell s0 h2
                    replace s1 := keep_cell s1 h2
                    have HW2 := Lib.hid (below_call HW1.out h2)
                    have HW02 := Lib.hid (below_call HW01.out h2)
                    have HO2 := Lib.hid (HO1.out.below h2)
                    clear h2
                    go_wp2_with fail
                    refine (KV.out b (by have := hpl b (by simp); omega) (isNum_dig HNb.out).2 _).mono ?_
                    rintro e w3 ⟨rfl, h3⟩
                    rw [show valV b = _ from HVb.out]
                    replace s0 := keep_cell s0 h3
                    replace s1 := keep_cell s1 h3
                    have HW3 := Lib.hid (below_call HW2.out h3)
                    have HW03 := Lib.hid (below_call HW02.out h3)
                    have HO3 := Lib.hid (HO2.out.below h3)
                    clear h3
                    have hm : k + 1 ≤ maxLen := by unfold maxLen; omega
                    have hm2 : (k + 1) * 16 ≤ 140737488355328 := by omega
                    have hb3 := HW03.out.size
                    have HOk : Hid ((w3.alloc (.cells #[.int .u64 (q : Int), .int .u64 (q : Int)] 38)).ownsRow w0.heap.size 38 2 (.slice pp k cc) k (ivC ((zsK P k).map (·.1)))) := Lib.hid (by have h := (HO3.out.below (below_new w3 (.cells #[.int .u64 (q : Int), .int .u64 (q : Int)] 38))); unfold OwnL at h; rw [HZL.out] at h; exact h)
                    go_wp2_with (at_builtin; refine wpList_append_own _ rfl _ _ 23 rfl w0.heap.size 38 i0 (.agg #[.int .u64 0, .int .u64 0]) 2 16 Tryz.underlying23 hi' hz0 hz1 hz2 rfl (by decide) _ k (ivC ((zsK P k).map (fun z : Iv × Bool => z.1))) rfl (HOk.out) ⟨_, 0, none⟩ 1 1 [.int .u64 (q : Int), .int .u64 (q : Int)] rfl rfl (cell_two_at _ _ _ _ _ rfl) (by simp [Value.oneCell']) hm hm2 (by simp; omega) ?_; intro v' w4 hown' hgrow _; obtain ⟨g', cap', rfl⟩ := ownsRow_succ hown'; have HO4 := Lib.hid hown'; clear hown'; have HW04 := Lib.hid (own_grown (below_alloc HW03.out _) HOk.out hgrow (by simp; omega)); clear hgrow)
                    go_roundw
                    case rel => exact ⟨k + 1, (k : Int), by omega, by go_num, rfl, HTw, Lib.hid (good_succ HX.out HGd.out (good_ok HR.out).1), Lib.hid (own_step HX.out hk HR.out HO4.out), HW04⟩
                    case measure => simp [intOf]; omega
                  · have HMN := Lib.hid hmn
                    have HTw : Hid (twiceL (zsK P (k + 1)) = m) := Lib.hid (by rw [zs_succ HX.out, (good_ok HR.out).2]; exact twice_keep HM.out HMN.out)
                    go_wp2_with fail
                    refine (KD.out a (by have := hpl a (by simp); omega) _).mono ?_
                    rintro e wd ⟨rfl, hwd⟩
                    obtain rfl := hwd.symm
                    rw [HNa.out]
                    go_wp2_with fail
                    refine (KD.out b (by have := hpl b (by simp); omega) _).mono ?_
                    rintro e wd ⟨rfl, hwd⟩
                    obtain rfl := hwd.symm
                    rw [HNb.out]
                    go_wp2_with fail
                    refine (KV.out a (by have := hpl a (by simp); omega) (isNum_dig HNa.out).2 _).mono ?_
                    rintro e w2 ⟨rfl, h2⟩
                    rw [show valV a = _ from HVa.out]
                    replace s0 := keep_cell s0 h2
                    replace s1 := keep_cell s1 h2
                    have HW2 := Lib.hid (below_call HW1.out h2)
                    have HW02 := Lib.hid (below_call HW01.out h2)
                    have HO2 := Lib.hid (HO1.out.below h2)
                    clear h2
                    go_wp2_with fail
                    refine (KV.out b (by have := hpl b (by simp); omega) (isNum_dig HNb.out).2 _).mono ?_
                    rintro e w3 ⟨rfl, h3⟩
                    rw [show valV b = _ from HVb.out]
                    replace s0 := keep_cell s0 h3
                    replace s1 := keep_cell s1 h3
                    have HW3 := Lib.hid (below_call HW2.out h3)
                    have HW03 := Lib.hid (below_call HW02.out h3)
                    have HO3 := Lib.hid (HO2.out.below h3)
                    clear h3
                    have hm : k + 1 ≤ maxLen := by unfold maxLen; omega
                    have hm2 : (k + 1) * 16 ≤ 140737488355328 := by omega
                    have hb3 := HW03.out.size
                    have HOk : Hid ((w3.alloc (.cells #[.int .u64 (q : Int), .int .u64 (q : Int)] 38)).ownsRow w0.heap.size 38 2 (.slice pp k cc) k (ivC ((zsK P k).map (·.1)))) := Lib.hid (by have h := (HO3.out.below (below_new w3 (.cells #[.int .u64 (q : Int), .int .u64 (q : Int)] 38))); unfold OwnL at h; rw [HZL.out] at h; exact h)
                    go_wp2_with (at_builtin; refine wpList_append_own _ rfl _ _ 23 rfl w0.heap.size 38 i0 (.agg #[.int .u64 0, .int .u64 0]) 2 16 Tryz.underlying23 hi' hz0 hz1 hz2 rfl (by decide) _ k (ivC ((zsK P k).map (fun z : Iv × Bool => z.1))) rfl (HOk.out) ⟨_, 0, none⟩ 1 1 [.int .u64 (q : Int), .int .u64 (q : Int)] rfl rfl (cell_two_at _ _ _ _ _ rfl) (by simp [Value.oneCell']) hm hm2 (by simp; omega) ?_; intro v' w4 hown' hgrow _; obtain ⟨g', cap', rfl⟩ := ownsRow_succ hown'; have HO4 := Lib.hid hown'; clear hown'; have HW04 := Lib.hid (own_grown (below_alloc HW03.out _) HOk.out hgrow (by simp; omega)); clear hgrow)
                    go_roundw
                    case rel => exact ⟨k + 1, m, by omega, by go_num, rfl, HTw, Lib.hid (good_succ HX.out HGd.out (good_ok HR.out).1), Lib.hid (own_step HX.out hk HR.out HO4.out), HW04⟩
                    case measure => simp [intOf]; omega
                · have hub : ((u : Int) == (q : Int)) = false := by simpa using huq
                  have HQ : Hid (¬ u = q) := Lib.hid (fun h => huq (by rw [h]))
                  have HTw : Hid (twiceL (zsK P (k + 1)) = m) := Lib.hid (by rw [zs_succ HX.out, (good_ok HR.out).2]; exact twice_skip (decide_eq_false HQ.out) HM.out)
                  go_wp2_with fail
                  refine (KD.out a (by have := hpl a (by simp); omega) _).mono ?_
                  rintro e wd ⟨rfl, hwd⟩
                  obtain rfl := hwd.symm
                  rw [HNa.out]
                  go_wp2_with fail
                  refine (KD.out b (by have := hpl b (by simp); omega) _).mono ?_
                  rintro e wd ⟨rfl, hwd⟩
                  obtain rfl := hwd.symm
                  rw [HNb.out]
                  go_wp2_with fail
                  refine (KV.out a (by have := hpl a (by simp); omega) (isNum_dig HNa.out).2 _).mono ?_
                  rintro e w2 ⟨rfl, h2⟩
                  rw [show valV a = _ from HVa.out]
                  replace s0 := keep_cell s0 h2
                  replace s1 := keep_cell s1 h2
                  have HW2 := Lib.hid (below_call HW1.out h2)
                  have HW02 := Lib.hid (below_call HW01.out h2)
                  have HO2 := Lib.hid (HO1.out.below h2)
                  clear h2
                  go_wp2_with fail
                  refine (KV.out b (by have := hpl b (by simp); omega) (isNum_dig HNb.out).2 _).mono ?_
                  rintro e w3 ⟨rfl, h3⟩
                  rw [show valV b = _ from HVb.out]
                  replace s0 := keep_cell s0 h3
                  replace s1 := keep_cell s1 h3
                  have HW3 := Lib.hid (below_call HW2.out h3)
                  have HW03 := Lib.hid (below_call HW02.out h3)
                  have HO3 := Lib.hid (HO2.out.below h3)
                  clear h3
                  have hm : k + 1 ≤ maxLen := by unfold maxLen; omega
                  have hm2 : (k + 1) * 16 ≤ 140737488355328 := by omega
                  have hb3 := HW03.out.size
                  have HOk : Hid ((w3.alloc (.cells #[.int .u64 (u : Int), .int .u64 (q : Int)] 38)).ownsRow w0.heap.size 38 2 (.slice pp k cc) k (ivC ((zsK P k).map (·.1)))) := Lib.hid (by have h := (HO3.out.below (below_new w3 (.cells #[.int .u64 (u : Int), .int .u64 (q : Int)] 38))); unfold OwnL at h; rw [HZL.out] at h; exact h)
                  go_wp2_with (at_builtin; refine wpList_append_own _ rfl _ _ 23 rfl w0.heap.size 38 i0 (.agg #[.int .u64 0, .int .u64 0]) 2 16 Tryz.underlying23 hi' hz0 hz1 hz2 rfl (by decide) _ k (ivC ((zsK P k).map (fun z : Iv × Bool => z.1))) rfl (HOk.out) ⟨_, 0, none⟩ 1 1 [.int .u64 (u : Int), .int .u64 (q : Int)] rfl rfl (cell_two_at _ _ _ _ _ rfl) (by simp [Value.oneCell']) hm hm2 (by simp; omega) ?_; intro v' w4 hown' hgrow _; obtain ⟨g', cap', rfl⟩ := ownsRow_succ hown'; have HO4 := Lib.hid hown'; clear hown'; have HW04 := Lib.hid (own_grown (below_alloc HW03.out _) HOk.out hgrow (by simp; omega)); clear hgrow)
                  go_roundw
                  case rel => exact ⟨k + 1, m, by omega, by go_num, rfl, HTw, Lib.hid (good_succ HX.out HGd.out (good_ok HR.out).1), Lib.hid (own_step HX.out hk HR.out HO4.out), HW04⟩
                  case measure => simp [intOf]; omega
              | none =>
                have HVb : Hid (valV b = .tuple #[.int .u64 0, .bool false]) := Lib.hid (by unfold valV; rw [hvb])
                have HR : Hid (partR x = .error 8) := Lib.hid (by rw [HP.out, if_pos ⟨hna, hnb⟩, hva, hvb])
                clear hva hvb hna hnb
                have HPV := Lib.hid (HB.out x 8 k HX.out (HR.out) HGd.out)
                go_wp2_with fail
                refine (KD.out a (by have := hpl a (by simp); omega) _).mono ?_
                rintro e wd ⟨rfl, hwd⟩
                obtain rfl := hwd.symm
                rw [HNa.out]
                go_wp2_with fail
                refine (KD.out b (by have := hpl b (by simp); omega) _).mono ?_
                rintro e wd ⟨rfl, hwd⟩
                obtain rfl := hwd.symm
                rw [HNb.out]
                go_wp2_with fail
                refine (KV.out a (by have := hpl a (by simp); omega) (isNum_dig HNa.out).2 _).mono ?_
                rintro e w2 ⟨rfl, h2⟩
                rw [show valV a = _ from HVa.out]
                replace s0 := keep_cell s0 h2
                replace s1 := keep_cell s1 h2
                have HW2 := Lib.hid (below_call HW1.out h2)
                have HW02 := Lib.hid (below_call HW01.out h2)
                have HO2 := Lib.hid (HO1.out.below h2)
                clear h2
                go_wp2_with fail
                refine (KV.out b (by have := hpl b (by simp); omega) (isNum_dig HNb.out).2 _).mono ?_
                rintro e w3 ⟨rfl, h3⟩
                rw [show valV b = _ from HVb.out]
                replace s0 := keep_cell s0 h3
                replace s1 := keep_cell s1 h3
                have HW3 := Lib.hid (below_call HW2.out h3)
                have HW03 := Lib.hid (below_call HW02.out h3)
                have HO3 := Lib.hid (HO2.out.below h3)
                clear h3
                have HWe := HW3
                go_wp2_with fail
                go_ret3
                rw [HPV.out]
                exact ⟨_, rfl, none_ivs _, HWe.out⟩
            | none =>
              have HVa : Hid (valV a = .tuple #[.int .u64 0, .bool false]) := Lib.hid (by unfold valV; rw [hva])
              have HR : Hid (partR x = .error 8) := Lib.hid (by rw [HP.out, if_pos ⟨hna, hnb⟩, hva])
              obtain ⟨qb, tb, hvb⟩ : ∃ (q : Nat) (t : Bool), valV b = .tuple #[.int .u64 q, .bool t] := by unfold valV; cases valM 0 b with
                | none => exact ⟨0, false, rfl⟩
                | some q => exact ⟨q, true, rfl⟩
              have HVb := Lib.hid hvb
              clear hva hvb hna hnb
              have HPV := Lib.hid (HB.out x 8 k HX.out (HR.out) HGd.out)
              go_wp2_with fail
              refine (KD.out a (by have := hpl a (by simp); omega) _).mono ?_
              rintro e wd ⟨rfl, hwd⟩
              obtain rfl := hwd.symm
              rw [HNa.out]
              go_wp2_with fail
              refine (KD.out b (by have := hpl b (by simp); omega) _).mono ?_
              rintro e wd ⟨rfl, hwd⟩
              obtain rfl := hwd.symm
              rw [HNb.out]
              go_wp2_with fail
              refine (KV.out a (by have := hpl a (by simp); omega) (isNum_dig HNa.out).2 _).mono ?_
              rintro e w2 ⟨rfl, h2⟩
              rw [show valV a = _ from HVa.out]
              replace s0 := keep_cell s0 h2
              replace s1 := keep_cell s1 h2
              have HW2 := Lib.hid (below_call HW1.out h2)
              have HW02 := Lib.hid (below_call HW01.out h2)
              have HO2 := Lib.hid (HO1.out.below h2)
              clear h2
              go_wp2_with fail
              refine (KV.out b (by have := hpl b (by simp); omega) (isNum_dig HNb.out).2 _).mono ?_
              rintro e w3 ⟨rfl, h3⟩
              rw [show valV b = _ from HVb.out]
              replace s0 := keep_cell s0 h3
              replace s1 := keep_cell s1 h3
              have HW3 := Lib.hid (below_call HW2.out h3)
              have HW03 := Lib.hid (below_call HW02.out h3)
              have HO3 := Lib.hid (HO2.out.below h3)
              clear h3
              have HWe := HW3
              go_wp2_with fail
              go_ret3
              rw [HPV.out]
              exact ⟨_, rfl, none_ivs _, HWe.out⟩
          · have HNb : Hid (isNum b = false) := Lib.hid (by simpa using hnb)
            have HR : Hid (partR x = .error 15) := Lib.hid (by rw [HP.out, if_neg (fun h => hnb h.2)])
            clear hna hnb
            have HPV := Lib.hid (HB.out x 15 k HX.out (HR.out) HGd.out)
            go_wp2_with fail
            refine (KD.out a (by have := hpl a (by simp); omega) _).mono ?_
            rintro e wd ⟨rfl, hwd⟩
            obtain rfl := hwd.symm
            rw [HNa.out]
            go_wp2_with fail
            refine (KD.out b (by have := hpl b (by simp); omega) _).mono ?_
            rintro e wd ⟨rfl, hwd⟩
            obtain rfl := hwd.symm
            rw [HNb.out]
            have HWe := HW1
            go_wp2_with fail
            go_ret3
            rw [HPV.out]
            exact ⟨_, rfl, none_ivs _, HWe.out⟩
        · have HNa : Hid (isNum a = false) := Lib.hid (by simpa using hna)
          have HR : Hid (partR x = .error 15) := Lib.hid (by rw [HP.out, if_neg (fun h => hna h.1)])
          clear hna
          have HPV := Lib.hid (HB.out x 15 k HX.out (HR.out) HGd.out)
          go_wp2_with fail
          refine (KD.out a (by have := hpl a (by simp); omega) _).mono ?_
          rintro e wd ⟨rfl, hwd⟩
          obtain rfl := hwd.symm
          rw [HNa.out]
          have HWe := HW1
          go_wp2_with fail
          go_ret3
          rw [HPV.out]
          exact ⟨_, rfl, none_ivs _, HWe.out⟩
      | a :: b :: c :: r, _ =>
        have HR := Lib.hid (H3 (by simp))
        have HPV := Lib.hid (HB.out x 15 k HX.out (HR.out) HGd.out)
        have hl : (2 : Int) < ((a :: b :: c :: r).length : Int) := by simp; omega
        clear H1 H2 H3 hec hpl
        generalize (a :: b :: c :: r).length = n at hl ⊢
        have HWe := HW1
        go_wp2_with fail
        go_ret3
        rw [HPV.out]
        exact ⟨_, rfl, none_ivs _, HWe.out⟩
    · obtain rfl : k = P.length := by omega
      have hgd : ∀ p ∈ P, partGood p = true := fun p hp => HGd.out p (by rw [List.take_length]; exact hp)
      have hzs : zsK P P.length = P.map partZ := by unfold zsK; rw [List.take_length]
      rw [HZL.out]
      have HPV := Lib.hid (HG.out hgd)
      rw [hzs] at HM HO HZL
      have h64 : All64 ((P.map partZ).map (·.1)) := by
        intro y hy
        rw [List.map_map] at hy
        obtain ⟨q, _, rfl⟩ := List.mem_map.1 hy
        exact partZ_in q
      clear hgd hzs
      generalize P.map partZ = Z at HM HO HPV HZL h64 ⊢
      obtain ⟨L, hL⟩ : ∃ L, Z.map (·.1) = L := ⟨_, rfl⟩
      have hcv : cpV Z = match chkV L with
        | some e => some e
        | none => match Z.findIdx? (·.2) with
          | some i => some (15, some (i : Int))
          | none => none := by rw [← hL]; rfl
      have htv : twiceL Z = match Z.findIdx? (·.2) with
        | some i => i
        | none => -1 := rfl
      rw [hL] at HO HPV HZL h64
      have HI := Lib.hid (HO.out.ivs (by rw [HZL.out]; omega))
      have KX := Lib.hid (KC.out L _ wr HI.out h64)
      rw [HZL.out] at KX HI
      have hiff := codeE_chk L
      clear h64 hL
      cases hch : chkV L with
      | some e =>
        obtain ⟨c, o⟩ := e
        rw [hch] at hiff KX hcv
        have HPV2 : Hid (pv = ([], some (c, o))) := Lib.hid (by have h := HPV.out; rw [hcv] at h; exact h)
        have hc0 : ¬ c = 0 := fun h => by have := hiff.2 h; cases this
        have hcb : (c != 0) = true := by simpa using hc0
        have hat : codeE (some (c, o)) = c := rfl
        rw [hat] at KX
        clear hiff hcv htv hch hat
        go_wp2_with fail
        refine KX.out.mono ?_
        rintro e w1 ⟨rfl, h1⟩
        have H1 := Lib.hid (below_call HW.out h1); clear h1
        go_wp2_with fail
        go_ret3
        rw [HPV2.out]
        exact ⟨_, rfl, none_ivs _, H1.out⟩
      | none =>
        rw [hch] at KX hcv
        have hat : codeE (none : Option (Int × Option Int)) = 0 ∧ ((atE (none : Option (Int × Option Int))).getD (-1)) = -1 := ⟨rfl, rfl⟩
        rw [hat.1, hat.2] at KX
        cases hfi : Z.findIdx? (·.2) with
        | some i =>
          rw [hfi] at hcv htv
          have HPV2 : Hid (pv = ([], some (15, some (i : Int)))) := Lib.hid (by have h := HPV.out; rw [hcv] at h; exact h)
          have hmi : m = (i : Int) := by rw [← HM.out]; exact htv
          subst hmi
          have i1 : (0 : Int) ≤ (i : Int) := by omega
          clear hiff hcv htv hch hat hfi
          go_wp2_with fail
          refine KX.out.mono ?_
          rintro e w1 ⟨rfl, h1⟩
          have H1 := Lib.hid (below_call HW.out h1); clear h1
          go_wp2_with fail
          go_ret3
          rw [HPV2.out]
          exact ⟨_, rfl, none_ivs _, H1.out⟩
        | none =>
          rw [hfi] at hcv htv
          have HPV2 : Hid (pv = (L, none)) := Lib.hid (by have h := HPV.out; rw [hcv] at h; exact h)
          have hmi : m = -1 := by rw [← HM.out]; exact htv
          subst hmi
          clear hiff hcv htv hch hat hfi
          go_wp2_with fail
          refine KX.out.mono ?_
          rintro e w1 ⟨rfl, h1⟩
          have H1 := Lib.hid (below_call HW.out h1)
          have HI1 := Lib.hid (HI.out.call h1); clear h1
          go_wp2_with fail
          go_ret3
          rw [HPV2.out]
          exact ⟨_, rfl, HI1.out, H1.out⟩
end Go.Proofs.YtgkdjbdcmmegiaaGreatDoor
