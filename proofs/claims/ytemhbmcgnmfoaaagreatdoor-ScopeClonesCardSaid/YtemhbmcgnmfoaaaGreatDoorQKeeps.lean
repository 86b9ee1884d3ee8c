/- The law ScopeClones in every state, out of what package scope says. Conditions: the contracts of package scope, and the fixed value of errors.errorType. -/
import Derived.Test.YtemhbmcgnmfoaaaGreatDoorQAlive
import Derived.Test.YtemhbmcgnmfoaaaGreatDoorQSoft
namespace Go.Proofs.YtemhbmcgnmfoaaaGreatDoor
open Go.RowKit
theorem shK_len (F : List (List Iv × List (Int × Int × List Iv))) : (shK F).length = F.length := by unfold shK; rw [List.length_map]
theorem apart_one {q : Nat → Prop} {A W : World} {g j : Nat} (h : Apart q A W) (hg : q g) (y : Value) : Apart q A (W.setCell ⟨g, j, none⟩ y) := h.trans (Apart.set _ _ hg)
theorem numE_len {w : World} {B T : Nat} {v : Value} {n : Nat} (h : NumE w B T v n) : n ≤ 9223372036854775807 := by
  obtain ⟨_, _, _, h2, _⟩ := h
  unfold maxLen at h2
  omega
theorem numW_len {w : World} {B T : Nat} {v : Value} {ns : List Nat} (h : NumW w B T v ns) : ns.length ≤ 9223372036854775807 := by
  obtain ⟨_, _, _, h2, _⟩ := h
  unfold maxLen at h2
  omega
/-- What the loops over a clone keep. -/
structure LpK (B T : Nat) (w3 : World) (v : Value) (sh : List (Nat × List Nat)) (W : World) : Prop where
  num : NumK W B T v sh
  ap : Apart (fun k => B ≤ k ∧ k < T) w3 W
theorem LpK.put {B T g j : Nat} {w3 W : World} {v : Value} {sh : List (Nat × List Nat)} (h : LpK B T w3 v sh W) {z : Int} (hz : W.cell? ⟨g, j, none⟩ = some (.int .u64 z)) (hB : B ≤ g) (hT : g < T) (y : Int) : LpK B T w3 v sh (W.setCell ⟨g, j, none⟩ (.int .u64 y)) :=
  ⟨h.num.setI hz y, apart_one h.ap ⟨hB, hT⟩ _⟩
/-- The triple loop. -/
theorem same11_self (F : List (List Iv × List (Int × Int × List Iv))) (v v' : Value) (w : World) (h : KnoM w v F) (h' : KnoM w v' F) : Calls Tryz.prog 31 #[v, v'] w (IsEnd true w) := by
  have k := refSame11_any F F v v' w h h'
  rwa [show decide (F = F) = true from by simp] at k
set_option maxRecDepth 100000 in
set_option maxHeartbeats 8000000 in
theorem lawClones11_any (C : ScopeC) (CC : CloneC11) (va : Value) (t : Int) (w : World) (hg : GlobK w) (ha : knoArg w va) (nt : 0 ≤ t ∧ t ≤ 18446744073709551615) :
    Calls Tryz.prog 8 #[va, .int .u64 t] w (IsEnd true w) := by
  have KL := Lib.hid (fun W h => alive11_any C W h)
  have HG := Lib.hid hg; clear hg
  have HC := Lib.hid C; clear C
  obtain ⟨⟨pa, na, ca, rfl⟩, ba, hfa, hva⟩ := ha.few
  have KFa := Lib.hid hfa; have HVa := Lib.hid hva; clear hfa hva ha
  go_enter Tryz.func8, Tryz.ntmps8
  go_wp2_with fail
  refine (KFa.out _ (Below.refl _ _)).mono ?_
  rintro e w1 ⟨rfl, h⟩
  have HB1 := Lib.hid h; clear h
  cases ba with
  | false =>
    go_wp2_with fail
    refine (KL.out _ (HG.out.here HB1.out)).mono ?_
    rintro e w2 ⟨rfl, h⟩
    have HB2 := Lib.hid (below_call HB1.out h); clear h
    go_wp2_with fail
    go_ret
    exact ⟨rfl, HB2.out⟩
  | true =>
    obtain ⟨F, hk, hs⟩ := HVa.out (by trivial)
    have h64 := hk.m.all1
    have HK := Lib.hid hk; clear hk
    have K1 := Lib.hid (fun W h => CC F (.slice pa na ca) W h hs); clear CC
    have K2 := Lib.hid (same11_self F)
    obtain ⟨rb, hrb⟩ : ∃ b, rightK F = b := ⟨_, rfl⟩
    have KR := Lib.hid (fun W h => (hrb ▸ refRight11_any F (.slice pa na ca) W h : Calls Tryz.prog 15 #[.slice pa na ca] W (IsEnd rb W)))
    have K3 := Lib.hid (fun (e : rb = true) v W hgl h => HC.out.at' F v t W hgl h (good_of_rightK h64.1 h64.2 (hrb.trans e)) hs nt.1 nt.2)
    have K4 := Lib.hid (fun (e : rb = true) v W h => HC.out.items F v W h (good_of_rightK h64.1 h64.2 (hrb.trans e)) hs)
    have hF12 : F.length ≤ 12 := hs.1
    clear hrb h64 hs nt
    go_wp2_with fail
    refine (K1.out _ (HK.out.call HB1.out)).mono ?_
    rintro e w2 ⟨u, rfl, hu, hnu, h⟩
    obtain ⟨pu, cu, rfl⟩ := hu.m.shape
    have HB2 := Lib.hid (below_call HB1.out h)
    have HS12 := Lib.hid h.size; clear h
    have HU := Lib.hid (And.intro hu hnu); clear hu hnu
    go_wp2_with fail
    refine (K1.out _ (HK.out.call HB2.out)).mono ?_
    rintro e w3 ⟨u2, rfl, hu2, hnu2, h⟩
    obtain ⟨pb, cb, rfl⟩ := hu2.m.shape
    have HB3 := Lib.hid (below_call HB2.out h)
    have HU3 := Lib.hid (And.intro (HU.out.1.call h) (HU.out.2.call (Nat.le_refl _) h))
    have HS23 := Lib.hid h.size; clear h HU
    have HV3 := Lib.hid (And.intro hu2 hnu2); clear hu2 hnu2
    go_wp2_with fail
    refine (K2.out _ _ _ HU3.out.1.m (HK.out.call HB3.out).m).mono ?_
    rintro e w4 ⟨rfl, h⟩
    have HB4 := Lib.hid (below_call HB3.out h)
    have HU4 := Lib.hid (HU3.out.2.call HS23.out h)
    have HV4 := Lib.hid (And.intro (HV3.out.1.call h) (HV3.out.2.call (Nat.le_refl _) h)); clear HU3 HV3
    have HS34 := Lib.hid h.size; clear h
    obtain ⟨n9, hn9⟩ : ∃ n9, F.length = n9 := ⟨_, rfl⟩
    have hsl := shK_len F
    rw [hn9] at hsl hF12 ⊢
    have HN := Lib.hid (And.intro hn9 hsl); clear hn9 hsl
    obtain ⟨sh, hsh⟩ : ∃ sh, shK F = sh := ⟨_, rfl⟩
    rw [hsh] at HN HU4
    have HSH := Lib.hid hsh; clear hsh
    have HLP : Hid (LpK w1.heap.size w2.heap.size w4 (.slice pu n9 cu) sh w4) := Lib.hid ⟨by rw [← HN.out.1]; exact HU4.out, Apart.refl _ _⟩
    clear HU4
    go_wp2_with fail
    go_loopw [30] (fun x wr => ∃ k : Nat, x = .int .i64 k ∧ k ≤ n9 ∧ LpK w1.heap.size w2.heap.size w4 (.slice pu n9 cu) sh wr) (fun x _ => n9 - (intOf x).toNat)
    case atStart => exact ⟨0, rfl, Nat.zero_le _, HLP.out⟩
    case round =>
      obtain ⟨k, rfl, hk, hl⟩ := hrel
      have HL1 := Lib.hid hl; clear hl
      by_cases hlt : k < n9
      · obtain ⟨⟨n, ns⟩, hn⟩ : ∃ x, sh[k]? = some x := ⟨sh[k]'(by rw [HN.out.2]; exact hlt), by simp⟩
        obtain ⟨b, o, cp, p1, c1, p2, c2, e, hBb, hTb, d0, d1, e0, e1⟩ := HL1.out.num.at hn
        rw [HN.out.2] at e
        cases e
        have HNN := Lib.hid hn; clear hn
        have i1 : (0 : Int) ≤ (k : Int) := by omega
        have i2 : (k : Int) < (n9 : Int) := by omega
        have hnm := numE_len e0
        have hnw := numW_len e1
        clear e0 e1
        go_wp2_with fail
        go_loopw [39] (fun x wz => ∃ j : Nat, x = .int .i64 j ∧ j ≤ n ∧ LpK w1.heap.size w2.heap.size w4 (.slice (some ⟨b, o, none⟩) n9 cu) sh wz) (fun x _ => n - (intOf x).toNat)
        case atStart => exact ⟨0, rfl, Nat.zero_le _, HL1.out⟩
        case round =>
          clear d0 d1
          obtain ⟨j, rfl, hj, hl⟩ := hrel
          have HL2 := Lib.hid hl; clear hl
          obtain ⟨b9, o9, cp9, p9, c9, q9, d9, e, _, _, d0, d1, e0, e1⟩ := HL2.out.num.at HNN.out
          rw [HN.out.2] at e
          cases e
          by_cases hjl : j < n
          · obtain ⟨g, oh, z0, z1, rfl, hBg, hTg, a0, af0, a1, af1⟩ := e0.at hjl
            have j1 : (0 : Int) ≤ (j : Int) := by omega
            have j2 : (j : Int) < (n : Int) := by omega
            clear e0 e1
            go_wp2_with fail
            go_roundw
            case rel => exact ⟨j + 1, by go_num, by omega, HL2.out.put a0 hBg hTg _⟩
            case measure => simp [intOf]; omega
          · obtain rfl : j = n := by omega
            clear e0 e1
            go_wp2_with fail
            go_loopw [61] (fun x wz => ∃ j : Nat, x = .int .i64 j ∧ j ≤ ns.length ∧ LpK w1.heap.size w2.heap.size w4 (.slice (some ⟨b, o, none⟩) n9 cu) sh wz) (fun x _ => ns.length - (intOf x).toNat)
            case atStart => exact ⟨0, rfl, Nat.zero_le _, HL2.out⟩
            case round =>
              clear d0 d1
              obtain ⟨j, rfl, hj, hl⟩ := hrel
              have HL3 := Lib.hid hl; clear hl
              obtain ⟨b8, o8, cp8, p8, c8, q8, d8, e, _, _, d0, d1, e0, e1⟩ := HL3.out.num.at HNN.out
              rw [HN.out.2] at e
              cases e
              by_cases hjl : j < ns.length
              · obtain ⟨m, hm⟩ : ∃ m, ns[j]? = some m := ⟨ns[j], by simp [hjl]⟩
                obtain ⟨bv, ov, cv, z0, z1, ph, ch, e, hBv, hTv, v0, v1, f0, f1, v2, hse⟩ := e1.at hm
                cases e
                have HM := Lib.hid hm; clear hm
                have hmm := numE_len hse
                have j1 : (0 : Int) ≤ (j : Int) := by omega
                have j2 : (j : Int) < (ns.length : Int) := by omega
                have s1 : ∀ y : Int, (wr.setCell ⟨bv, ov + j * 3 + 1, none⟩ (.int .u64 y)).cell? ⟨b, o + k * 2 + 1, none⟩ = some (.slice (some ⟨bv, ov, none⟩) ns.length d8) := fun y => kept_slice v1 d1 _
                have s2 : ∀ y : Int, (wr.setCell ⟨bv, ov + j * 3 + 1, none⟩ (.int .u64 y)).cell? ⟨bv, ov + j * 3 + 2, none⟩ = some (.slice ph m ch) := fun y => kept_slice v1 v2 _
                clear e0 e1 hse v0 f0
                go_wp2_with fail
                go_loopw [86] (fun x wz => ∃ i : Nat, x = .int .i64 i ∧ i ≤ m ∧ LpK w1.heap.size w2.heap.size w4 (.slice (some ⟨b, o, none⟩) n9 cu) sh wz) (fun x _ => m - (intOf x).toNat)
                case atStart => exact ⟨0, rfl, Nat.zero_le _, HL3.out.put v1 hBv hTv _⟩
                case round =>
                  clear d0 d1 v1 f1 v2 s1 s2
                  obtain ⟨i, rfl, hi, hl⟩ := hrel
                  have HL4 := Lib.hid hl; clear hl
                  by_cases hil : i < m
                  · obtain ⟨b7, o7, cp7, p7, c7, q7, d7, e, _, _, d0, d1, e0, e1⟩ := HL4.out.num.at HNN.out
                    rw [HN.out.2] at e
                    cases e
                    obtain ⟨bv7, ov7, cv7, y0, y1, ph7, ch7, e, _, _, v0, v1, f0, f1, v2, hse⟩ := e1.at HM.out
                    cases e
                    obtain ⟨g, oh, x0, x1, rfl, hBg, hTg, a0, af0, a1, af1⟩ := hse.at hil
                    have k1 : (0 : Int) ≤ (i : Int) := by omega
                    have k2 : (i : Int) < (m : Int) := by omega
                    clear e0 e1 hse
                    go_wp2_with fail
                    go_roundw
                    case rel => exact ⟨i + 1, by go_num, by omega, HL4.out.put a1 hBg hTg _⟩
                    case measure => simp [intOf]; omega
                  · obtain rfl : i = m := by omega
                    go_wp2_with fail
                    go_roundw
                    case rel => exact ⟨j + 1, by go_num, by omega, HL4.out⟩
                    case measure => simp [intOf]; omega
              · obtain rfl : j = ns.length := by omega
                clear e0 e1 d0 d1
                go_wp2_with fail
                go_roundw
                case rel => exact ⟨k + 1, by go_num, by omega, HL3.out⟩
                case measure => simp [intOf]; omega
      · obtain rfl : k = n9 := by omega
        obtain ⟨w5, rfl⟩ : ∃ x : World, x = wr := ⟨_, rfl⟩
        have hap := HL1.out.ap
        have HB5 : Hid (Below w.heap.size w w5) := Lib.hid (HB4.out.trans (hap.below HB4.out.size fun i hi hn => by have := HB1.out.size; omega))
        have HV5 : Hid (KnoS w5 (.slice pb F.length cb) F) := Lib.hid (kno_elsewhere HV4.out.1 HV4.out.2 hap fun i h1 h2 h3 => by omega)
        clear hap HLP HL1 HV4 hk hlt
        rw [HN.out.1] at HV5
        go_wp2_with fail
        refine (KR.out _ (HK.out.call HB5.out).m).mono ?_
        rintro e w6 ⟨rfl, h⟩
        have HB6 := Lib.hid (below_call HB5.out h)
        have HV6 := Lib.hid (HV5.out.call h); clear h HV5
        cases rb with
        | false =>
          go_wp2_with fail
          refine (KL.out _ (HG.out.here HB6.out)).mono ?_
          rintro e w7 ⟨rfl, h⟩
          have HB7 := Lib.hid (below_call HB6.out h)
          have HV7 := Lib.hid (HV6.out.call h); clear h HV6
          go_wp2_with fail
          refine (K2.out _ _ _ HV7.out.m (HK.out.call HB7.out).m).mono ?_
          rintro e w8 ⟨rfl, h⟩
          have HB8 := Lib.hid (below_call HB7.out h); clear h
          go_wp2_with fail
          go_ret
          exact ⟨rfl, HB8.out⟩
        | true =>
          have K3' := Lib.hid (fun v W hgl h => K3.out rfl v W hgl h); clear K3
          have K4' := Lib.hid (fun v W h => K4.out rfl v W h); clear K4
          generalize atK F t = D at *
          generalize itemsK F = IL at *
          go_wp2_with fail
          refine (K3'.out _ _ (HG.out.here HB6.out) HV6.out).mono ?_
          rintro e w7 ⟨uv, rfl, huv, hsv, h⟩
          obtain ⟨pv, cv, rfl⟩ := huv.m.shape
          have hdl := huv.m.len
          have HBT := Lib.hid h
          have HSV := Lib.hid hsv; clear h hsv huv
          have HDN := Lib.hid (nsV_len D)
          go_wp2_with fail
          go_loopw [115] (fun x wz => ∃ j : Nat, x = .int .i64 j ∧ j ≤ D.length ∧ SoftW wz w6.heap.size (.slice pv D.length cv) (nsV D) ∧ Below w6.heap.size w6 wz) (fun x _ => D.length - (intOf x).toNat)
          case atStart => exact ⟨0, rfl, Nat.zero_le _, by rw [← HDN.out]; exact (show SoftW w7 w6.heap.size (.slice pv (nsV D).length cv) (nsV D) by rw [HDN.out]; exact HSV.out), HBT.out⟩
          case round =>
            obtain ⟨j, rfl, hj, hs, hb⟩ := hrel
            have HS1 := Lib.hid hs; have HBA := Lib.hid hb; clear hs hb
            by_cases hjl : j < D.length
            · obtain ⟨n, hn⟩ : ∃ n, (nsV D)[j]? = some n := ⟨(nsV D)[j]'(by rw [HDN.out]; exact hjl), by simp⟩
              obtain ⟨b, o, m9, cap9, z0, z1, ph, ch, e, hBb, _, _, _, _, v2, hso⟩ := HS1.out.at hn
              cases e
              have HNN := Lib.hid hn; clear hn
              have i1 : (0 : Int) ≤ (j : Int) := by omega
              have i2 : (j : Int) < (D.length : Int) := by omega
              have hnm : n ≤ 9223372036854775807 := by
                obtain ⟨_, _, _, h9, _⟩ := hso
                unfold maxLen at h9
                omega
              clear hso
              go_wp2_with fail
              go_loopw [124] (fun x wz => ∃ i : Nat, x = .int .i64 i ∧ i ≤ n ∧ SoftW wz w6.heap.size (.slice (some ⟨b, o, none⟩) D.length cv) (nsV D) ∧ Below w6.heap.size w6 wz) (fun x _ => n - (intOf x).toNat)
              case atStart => exact ⟨0, rfl, Nat.zero_le _, HS1.out, HBA.out⟩
              case round =>
                clear v2
                obtain ⟨i, rfl, hi, hs, hb⟩ := hrel
                have HS2 := Lib.hid hs; have HBC := Lib.hid hb; clear hs hb
                by_cases hil : i < n
                · obtain ⟨b9, o9, m8, cap8, y0, y1, ph9, ch9, e, _, _, _, _, _, v2, hse⟩ := HS2.out.at HNN.out
                  cases e
                  obtain ⟨g, oh, q0, q1, rfl, hBg, a0, af0, a1, af1⟩ := hse.at hil
                  have k1 : (0 : Int) ≤ (i : Int) := by omega
                  have k2 : (i : Int) < (n : Int) := by omega
                  clear hse
                  go_wp2_with fail
                  go_roundw
                  case rel => exact ⟨i + 1, by go_num, by omega, HS2.out.setI a0 _, HBC.out.setCell (p := ⟨g, oh + i * 2, none⟩) hBg _⟩
                  case measure => simp [intOf]; omega
                · obtain rfl : i = n := by omega
                  go_wp2_with fail
                  go_roundw
                  case rel => exact ⟨j + 1, by go_num, by omega, HS2.out, HBC.out⟩
                  case measure => simp [intOf]; omega
            · obtain rfl : j = D.length := by omega
              obtain ⟨w8, rfl⟩ : ∃ x : World, x = wr := ⟨_, rfl⟩
              have HB8 := Lib.hid (below_call HB6.out HBA.out)
              have HV8 := Lib.hid (HV6.out.call HBA.out)
              clear HS1 HSV HBT HV6
              go_wp2_with fail
              refine (K4'.out _ _ HV8.out).mono ?_
              rintro e w9 ⟨ul, rfl, hul, _, hsl, h⟩
              obtain ⟨pl, cl, rfl, hll⟩ := hul.shape
              have HBU := Lib.hid h
              have HSL := Lib.hid hsl; clear h hsl hul
              go_wp2_with fail
              go_loopw [145] (fun x wz => ∃ i : Nat, x = .int .i64 i ∧ i ≤ IL.length ∧ SoftE wz w8.heap.size (.slice pl IL.length cl) IL.length ∧ Below w8.heap.size w8 wz) (fun x _ => IL.length - (intOf x).toNat)
              case atStart => exact ⟨0, rfl, Nat.zero_le _, HSL.out, HBU.out⟩
              case round =>
                obtain ⟨i, rfl, hi, hs, hb⟩ := hrel
                have HS2 := Lib.hid hs; have HBC := Lib.hid hb; clear hs hb
                by_cases hil : i < IL.length
                · obtain ⟨g, oh, q0, q1, rfl, hBg, a0, af0, a1, af1⟩ := HS2.out.at hil
                  have k1 : (0 : Int) ≤ (i : Int) := by omega
                  have k2 : (i : Int) < (IL.length : Int) := by omega
                  go_wp2_with fail
                  go_roundw
                  case rel => exact ⟨i + 1, by go_num, by omega, HS2.out.setI ⟨g, oh + i * 2 + 1, none⟩ _, HBC.out.setCell (p := ⟨g, oh + i * 2 + 1, none⟩) hBg _⟩
                  case measure => simp [intOf]; omega
                · obtain rfl : i = IL.length := by omega
                  obtain ⟨wA, rfl⟩ : ∃ x : World, x = wr := ⟨_, rfl⟩
                  have HBD := Lib.hid (below_call HB8.out HBC.out)
                  have HVD := Lib.hid (HV8.out.call HBC.out)
                  clear HS2 HSL HBU HV8
                  go_wp2_with fail
                  refine (KL.out _ (HG.out.here HBD.out)).mono ?_
                  rintro e wB ⟨rfl, h⟩
                  have HBE := Lib.hid (below_call HBD.out h)
                  have HVE := Lib.hid (HVD.out.call h); clear h HVD
                  go_wp2_with fail
                  refine (K2.out _ _ _ HVE.out.m (HK.out.call HBE.out).m).mono ?_
                  rintro e wF ⟨rfl, h⟩
                  have HBX := Lib.hid (below_call HBE.out h); clear h
                  go_wp2_with fail
                  go_ret
                  exact ⟨rfl, HBX.out⟩
end Go.Proofs.YtemhbmcgnmfoaaaGreatDoor
