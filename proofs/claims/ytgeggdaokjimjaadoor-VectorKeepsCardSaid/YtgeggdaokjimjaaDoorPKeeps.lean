/- The law VectorKeeps in every state, out of what package vector says. Conditions: the contracts of package vector, and the fixed value of errors.errorType. -/
import Derived.Test.YtgeggdaokjimjaaDoorPLaws
import Derived.Test.YtgeggdaokjimjaaDoorNKeeps
import Derived.Test.YtgeggdaokjimjaaDoorPCodeK
namespace Go.Proofs.YtgeggdaokjimjaaDoor
open Go.RowKit
theorem nsV_len (V : List (Int × Int × List Iv)) : (nsV V).length = V.length := by unfold nsV; simp
theorem SoftW.call {w w' : World} {B : Nat} {v : Value} {ns : List Nat} (h : SoftW w B v ns) (hb : Below w.heap.size w w') : SoftW w' B v ns := by
  obtain ⟨p, cap, h1, h2, h3⟩ := h
  refine ⟨p, cap, h1, h2, fun hne => ?_⟩
  obtain ⟨b, o, h5, hB, h6⟩ := h3 hne
  refine ⟨b, o, h5, hB, fun i n hi => ?_⟩
  obtain ⟨⟨z, hz⟩, ⟨y, hy⟩, f0, f1, s, hs, hso⟩ := h6 i n hi
  exact ⟨⟨z, keep_cell hz hb⟩, ⟨y, keep_cell hy hb⟩, keep_free f0 (World.block_lt_of_cell? w _ hz) hb, keep_free f1 (World.block_lt_of_cell? w _ hy) hb, s, keep_cell hs hb, hso.call hb⟩
theorem kept_slice {w : World} {a c : Addr} {k : IntKind} {z : Int} {p : Option Addr} {n m : Nat} (ha : w.cell? a = some (.int k z)) (hc : w.cell? c = some (.slice p n m)) (y : Value) : (w.setCell a y).cell? c = some (.slice p n m) := by
  rw [World.cell?_setCell_other _ _ _ _ (fun e => by rw [e, hc] at ha; cases ha)]; exact hc
theorem int_set {w : World} {a c : Addr} {y : Int} (h : ∃ z : Int, w.cell? c = some (.int .u64 z)) : ∃ z : Int, (w.setCell a (.int .u64 y)).cell? c = some (.int .u64 z) := by
  obtain ⟨z, hz⟩ := h
  by_cases he : a = c
  · subst he; exact ⟨y, World.cell?_setCell_same' _ _ _ (by rw [hz]; rfl)⟩
  · exact ⟨z, by rw [World.cell?_setCell_other _ _ _ _ he]; exact hz⟩
theorem SoftE.setI {w : World} {B : Nat} {v : Value} {n : Nat} (h : SoftE w B v n) (a : Addr) (y : Int) : SoftE (w.setCell a (.int .u64 y)) B v n := by
  obtain ⟨p, cap, h1, h2, h3⟩ := h
  refine ⟨p, cap, h1, h2, fun hn => ?_⟩
  obtain ⟨g, o, h4, h5, h6⟩ := h3 hn
  refine ⟨g, o, h4, h5, fun i hi => ?_⟩
  obtain ⟨⟨hz, hf⟩, hy, hg⟩ := h6 i hi
  exact ⟨⟨int_set hz, by rw [World.frozen?_setCell]; exact hf⟩, int_set hy, by rw [World.frozen?_setCell]; exact hg⟩
theorem SoftW.setI {w : World} {B : Nat} {v : Value} {ns : List Nat} (h : SoftW w B v ns) {a : Addr} {z : Int} (hz : w.cell? a = some (.int .u64 z)) (y : Int) : SoftW (w.setCell a (.int .u64 y)) B v ns := by
  obtain ⟨p, cap, h1, h2, h3⟩ := h
  refine ⟨p, cap, h1, h2, fun hne => ?_⟩
  obtain ⟨b, o, h5, hB, h6⟩ := h3 hne
  refine ⟨b, o, h5, hB, fun i n hi => ?_⟩
  obtain ⟨k0, k1, f0, f1, s, hs, hso⟩ := h6 i n hi
  refine ⟨int_set k0, int_set k1, by rw [World.frozen?_setCell]; exact f0, by rw [World.frozen?_setCell]; exact f1, s, ?_, hso.setI _ _⟩
  obtain ⟨q, c, e, _⟩ := hso
  rw [e] at hs ⊢
  exact kept_slice hz hs _
theorem SoftW.at {w : World} {B : Nat} {v : Value} {ns : List Nat} (h : SoftW w B v ns) {i n : Nat} (hi : ns[i]? = some n) : ∃ b o m cap z z' p c, v = .slice (some ⟨b, o, none⟩) m cap ∧ B ≤ b ∧ w.cell? ⟨b, o + i * 3, none⟩ = some (.int .u64 z) ∧ w.cell? ⟨b, o + i * 3 + 1, none⟩ = some (.int .u64 z') ∧
    w.frozen? ⟨b, o + i * 3, none⟩ = false ∧ w.frozen? ⟨b, o + i * 3 + 1, none⟩ = false ∧ w.cell? ⟨b, o + i * 3 + 2, none⟩ = some (.slice p n c) ∧ SoftE w B (.slice p n c) n := by
  obtain ⟨p, cap, h1, _, h3⟩ := h
  obtain ⟨b, o, rfl, hB, h6⟩ := h3 (by intro e; rw [e] at hi; simp at hi)
  obtain ⟨⟨z, hz⟩, ⟨y, hy⟩, f0, f1, s, hs, hso⟩ := h6 i n hi
  have hso' := hso
  obtain ⟨q, c, e, _⟩ := hso
  subst e
  exact ⟨b, o, _, cap, z, y, q, c, h1, hB, hz, hy, f0, f1, hs, hso'⟩
theorem SoftE.at {w : World} {B : Nat} {p : Option Addr} {n c : Nat} (h : SoftE w B (.slice p n c) n) {j : Nat} (hj : j < n) : ∃ g o z z', p = some ⟨g, o, none⟩ ∧ B ≤ g ∧ w.cell? ⟨g, o + j * 2, none⟩ = some (.int .u64 z) ∧ w.frozen? ⟨g, o + j * 2, none⟩ = false ∧ w.cell? ⟨g, o + j * 2 + 1, none⟩ = some (.int .u64 z') ∧ w.frozen? ⟨g, o + j * 2 + 1, none⟩ = false := by
  obtain ⟨p', cap, h1, _, h3⟩ := h
  cases h1
  obtain ⟨g, o, rfl, hB, h6⟩ := h3 (by omega)
  obtain ⟨⟨⟨z, hz⟩, hf⟩, ⟨y, hy⟩, hg⟩ := h6 j hj
  exact ⟨g, o, z, y, rfl, hB, hz, hf, hy, hg⟩
set_option maxRecDepth 100000 in
set_option maxHeartbeats 8000000 in
theorem lawKeeps9_any (C : VecC) (va : Value) (w : World) (hg : ErrT w) (ha : vecArg w va) :
    Calls Tryd.prog 7 #[va] w (IsEnd true w) := by
  have KL := Lib.hid (fun W h => alive9_any C W h)
  have HG_0 := Lib.hid hg; clear hg
  have HC := Lib.hid C; clear C
  obtain ⟨⟨pa, na, ca, rfl⟩, ba, hfa, hva⟩ := ha.few
  have KFa := Lib.hid hfa; have HVa := Lib.hid hva; clear hfa hva ha
  go_enter Tryd.func7, Tryd.ntmps7
  go_wp2_with fail
  refine (KFa.out _ (Below.refl _ _)).mono ?_
  rintro e w1 ⟨rfl, h⟩
  have HG_1 := Lib.hid (HG_0.out.here h)
  clear HG_0
  have HB_1 := Lib.hid h
  clear h
  cases ba with
  | false =>
    go_wp2_with fail
    refine (KL.out _ HG_1.out).mono ?_
    rintro e w2 ⟨rfl, h⟩
    have HG_2 := Lib.hid (HG_1.out.here h)
    clear HG_1
    have HB_2 := Lib.hid (below_call HB_1.out h)
    clear h
    go_wp2_with fail
    go_ret
    exact ⟨rfl, HB_2.out⟩
  | true =>
    obtain ⟨A, ha, hla, hha⟩ := HVa.out (by trivial)
    have h64a := ha.m.all64
    have HVa_1 := Lib.hid (ha.call HB_1.out)
    clear ha
    have K1 := Lib.hid (fun W h => vClone_any A (.slice pa na ca) W h)
    have K2 := Lib.hid (fun v v' W h h2 => same9_self A v v' W h h2)
    obtain ⟨rb, hrb⟩ : ∃ b, rightV A = b := ⟨_, rfl⟩
    have KR := Lib.hid (fun W h => (hrb ▸ refRight9_any A (.slice pa na ca) W h : Calls Tryd.prog 16 #[.slice pa na ca] W (IsEnd rb W)))
    have K3 := Lib.hid (fun (e : rb = true) v W h => HC.out.canon A v W h (good_of_right h64a (hrb.trans e)))
    have HLC : Hid ((canonV A).length ≤ A.length) := Lib.hid (canonV_len A)
    clear hrb h64a
    have hA20 : A.length ≤ 20 := hla
    clear hla hha
    go_wp2_with fail
    have HGB := HG_1; have HVB := HVa_1; have HBB := HB_1
    refine (K1.out _ HVa_1.out).mono ?_
    rintro e w2 ⟨u, rfl, hu, hsu, h⟩
    obtain ⟨pu, cu, rfl⟩ := hu.m.shape
    have HBT := Lib.hid h
    have HG_2 := Lib.hid (HG_1.out.here h)
    clear HG_1
    have HVa_2 := Lib.hid (HVa_1.out.call h)
    clear HVa_1
    have HB_2 := Lib.hid (below_call HB_1.out h)
    clear h
    have HU_2 := Lib.hid (hu.m.i)
    have HS_2 := Lib.hid (hsu)
    clear hu hsu
    go_wp2_with fail
    refine (K2.out _ _ _ HU_2.out HVa_2.out.m.i).mono ?_
    rintro e w3 ⟨rfl, h⟩
    replace HBT := Lib.hid (below_call HBT.out h)
    have HG_3 := Lib.hid (HG_2.out.here h)
    clear HG_2
    have HVa_3 := Lib.hid (HVa_2.out.call h)
    clear HVa_2
    have HU_3 := Lib.hid (HU_2.out.call h)
    clear HU_2
    have HS_3 := Lib.hid (HS_2.out.call h)
    clear HS_2
    have HB_3 := Lib.hid (below_call HB_2.out h)
    clear h
    have HS := HS_3; clear HS_3 HU_3
    go_wp2_with fail
    go_loopw [22] (fun x wr => ∃ k : Nat, x = .int .i64 k ∧ k ≤ A.length ∧ SoftW wr w1.heap.size (.slice pu A.length cu) (nsV A) ∧ Below w1.heap.size w1 wr) (fun x _ => A.length - (intOf x).toNat)
    case atStart => exact ⟨0, rfl, Nat.zero_le _, HS.out, HBT.out⟩
    case round =>
      obtain ⟨k, rfl, hk, hs, hb⟩ := hrel
      have HS1 := Lib.hid hs; have HB1 := Lib.hid hb; clear hs hb
      by_cases hlt : k < A.length
      · obtain ⟨n, hn⟩ : ∃ n, (nsV A)[k]? = some n := ⟨(nsV A)[k]'(by rw [nsV_len]; exact hlt), List.getElem?_eq_getElem _⟩
        obtain ⟨b, o, m9, cap9, z0, z1, ph, ch, e, hBb, c0, c1, f0, f1, c2, hso⟩ := HS1.out.at hn
        cases e
        have i1 : (0 : Int) ≤ (k : Int) := by omega
        have i2 : (k : Int) < (A.length : Int) := by omega
        have c3 : ∀ y : Int, (wr.setCell ⟨b, o + k * 3, none⟩ (.int .u64 y)).cell? ⟨b, o + k * 3 + 2, none⟩ = some (.slice ph n ch) := fun y => kept_slice c0 c2 _
        have hnm : n ≤ 9223372036854775807 := by
          obtain ⟨_, _, _, h9, _⟩ := hso
          unfold maxLen at h9
          omega
        clear hso
        go_wp2_with fail
        go_loopw [39] (fun x wz => ∃ j : Nat, x = .int .i64 j ∧ j ≤ n ∧ SoftW wz w1.heap.size (.slice (some ⟨b, o, none⟩) A.length cu) (nsV A) ∧ Below w1.heap.size w1 wz ∧ wz.cell? ⟨b, o + k * 3 + 2, none⟩ = some (.slice ph n ch)) (fun x _ => n - (intOf x).toNat)
        case atStart => exact ⟨0, rfl, Nat.zero_le _, HS1.out.setI c0 _, HB1.out.setCell (p := ⟨b, o + k * 3, none⟩) hBb _, c3 _⟩
        case round =>
          clear c0 c1 f0 f1 c2 c3
          obtain ⟨j, rfl, hj, hs, hb, hc⟩ := hrel
          have HS2 := Lib.hid hs; have HB2 := Lib.hid hb; clear hs hb
          by_cases hjl : j < n
          · obtain ⟨b9, o9, m8, cap8, y0, y1, ph9, ch9, e, _, _, _, _, _, d2, hse⟩ := HS2.out.at hn
            cases e
            rw [hc] at d2
            cases d2
            obtain ⟨g, oh, q0, q1, rfl, hBg, a0, af0, a1, af1⟩ := hse.at hjl
            have j1 : (0 : Int) ≤ (j : Int) := by omega
            have j2 : (j : Int) < (n : Int) := by omega
            clear hse
            go_wp2_with fail
            go_roundw
            case rel => exact ⟨j + 1, by go_num, by omega, HS2.out.setI a0 _, HB2.out.setCell (p := ⟨g, oh + j * 2, none⟩) hBg _, kept_slice a0 hc _⟩
            case measure => simp [intOf]; omega
          · obtain rfl : j = n := by omega
            clear hc
            go_wp2_with fail
            go_roundw
            case rel => exact ⟨k + 1, by go_num, by omega, HS2.out, HB2.out⟩
            case measure => simp [intOf]; omega
      · obtain rfl : k = A.length := by omega
        obtain ⟨w4, rfl⟩ : ∃ x : World, x = wr := ⟨_, rfl⟩
        have HVa_4 := Lib.hid (HVB.out.call HB1.out)
        have HG_4 := Lib.hid (HGB.out.here HB1.out)
        have HB_4 := Lib.hid (below_call HBB.out HB1.out)
        clear HS HBT HS1 HB1
        go_wp2_with fail
        refine (K1.out _ HVa_4.out).mono ?_
        rintro e w5 ⟨c, rfl, hc, _, h⟩
        obtain ⟨pc, cc, rfl⟩ := hc.m.shape
        have HG_5 := Lib.hid (HG_4.out.here h)
        clear HG_4
        have HVa_5 := Lib.hid (HVa_4.out.call h)
        clear HVa_4
        have HB_5 := Lib.hid (below_call HB_4.out h)
        clear h
        have HC_5 := Lib.hid (hc)
        clear hc
        go_wp2_with fail
        refine (KR.out _ HVa_5.out.m).mono ?_
        rintro e w6 ⟨rfl, h⟩
        have HG_6 := Lib.hid (HG_5.out.here h)
        clear HG_5
        have HVa_6 := Lib.hid (HVa_5.out.call h)
        clear HVa_5
        have HC_6 := Lib.hid (HC_5.out.call h)
        clear HC_5
        have HB_6 := Lib.hid (below_call HB_5.out h)
        clear h
        cases rb with
        | false =>
          go_wp2_with fail
          refine (KL.out _ HG_6.out).mono ?_
          rintro e w7 ⟨rfl, h⟩
          have HG_7 := Lib.hid (HG_6.out.here h)
          clear HG_6
          have HVa_7 := Lib.hid (HVa_6.out.call h)
          clear HVa_6
          have HC_7 := Lib.hid (HC_6.out.call h)
          clear HC_6
          have HB_7 := Lib.hid (below_call HB_6.out h)
          clear h
          go_wp2_with fail
          refine (K2.out _ _ _ HC_7.out.m.i HVa_7.out.m.i).mono ?_
          rintro e w8 ⟨rfl, h⟩
          have HG_8 := Lib.hid (HG_7.out.here h)
          clear HG_7
          have HVa_8 := Lib.hid (HVa_7.out.call h)
          clear HVa_7
          have HC_8 := Lib.hid (HC_7.out.call h)
          clear HC_7
          have HB_8 := Lib.hid (below_call HB_7.out h)
          clear h
          go_wp2_with fail
          go_ret
          exact ⟨rfl, HB_8.out⟩
        | true =>
          go_wp2_with fail
          have HGD := HG_6; have HVD := HVa_6; have HBD := HB_6; have HCD := HC_6
          refine (K3.out (by trivial) _ _ HC_6.out).mono ?_
          rintro e w7 ⟨u, rfl, hu, hsu, h⟩
          obtain ⟨pd, cd, rfl⟩ := hu.m.shape
          have HBT := Lib.hid h
          have HG_7 := Lib.hid (HG_6.out.here h)
          clear HG_6
          have HVa_7 := Lib.hid (HVa_6.out.call h)
          clear HVa_6
          have HC_7 := Lib.hid (HC_6.out.call h)
          clear HC_6
          have HB_7 := Lib.hid (below_call HB_6.out h)
          clear h
          have HS := Lib.hid hsu; clear hu hsu
          have hlD := HLC.out
          generalize canonV A = D at *
          go_wp2_with fail
          go_loopw [64] (fun x wr => ∃ k : Nat, x = .int .i64 k ∧ k ≤ D.length ∧ SoftW wr w6.heap.size (.slice pd D.length cd) (nsV D) ∧ Below w6.heap.size w6 wr) (fun x _ => D.length - (intOf x).toNat)
          case atStart => exact ⟨0, rfl, Nat.zero_le _, HS.out, HBT.out⟩
          case round =>
            obtain ⟨k, rfl, hk, hs, hb⟩ := hrel
            have HS1 := Lib.hid hs; have HB1 := Lib.hid hb; clear hs hb
            by_cases hlt : k < D.length
            · obtain ⟨n, hn⟩ : ∃ n, (nsV D)[k]? = some n := ⟨(nsV D)[k]'(by rw [nsV_len]; exact hlt), List.getElem?_eq_getElem _⟩
              obtain ⟨b, o, m9, cap9, z0, z1, ph, ch, e, hBb, c0, c1, f0, f1, c2, hso⟩ := HS1.out.at hn
              cases e
              have i1 : (0 : Int) ≤ (k : Int) := by omega
              have i2 : (k : Int) < (D.length : Int) := by omega
              have c3 : ∀ y : Int, (wr.setCell ⟨b, o + k * 3 + 1, none⟩ (.int .u64 y)).cell? ⟨b, o + k * 3 + 2, none⟩ = some (.slice ph n ch) := fun y => kept_slice c1 c2 _
              have hnm : n ≤ 9223372036854775807 := by
                obtain ⟨_, _, _, h9, _⟩ := hso
                unfold maxLen at h9
                omega
              clear hso
              go_wp2_with fail
              go_loopw [81] (fun x wz => ∃ j : Nat, x = .int .i64 j ∧ j ≤ n ∧ SoftW wz w6.heap.size (.slice (some ⟨b, o, none⟩) D.length cd) (nsV D) ∧ Below w6.heap.size w6 wz ∧ wz.cell? ⟨b, o + k * 3 + 2, none⟩ = some (.slice ph n ch)) (fun x _ => n - (intOf x).toNat)
              case atStart => exact ⟨0, rfl, Nat.zero_le _, HS1.out.setI c1 _, HB1.out.setCell (p := ⟨b, o + k * 3 + 1, none⟩) hBb _, c3 _⟩
              case round =>
                clear c0 c1 f0 f1 c2 c3
                obtain ⟨j, rfl, hj, hs, hb, hc⟩ := hrel
                have HS2 := Lib.hid hs; have HB2 := Lib.hid hb; clear hs hb
                by_cases hjl : j < n
                · obtain ⟨b9, o9, m8, cap8, y0, y1, ph9, ch9, e, _, _, _, _, _, d2, hse⟩ := HS2.out.at hn
                  cases e
                  rw [hc] at d2
                  cases d2
                  obtain ⟨g, oh, q0, q1, rfl, hBg, a0, af0, a1, af1⟩ := hse.at hjl
                  have j1 : (0 : Int) ≤ (j : Int) := by omega
                  have j2 : (j : Int) < (n : Int) := by omega
                  clear hse
                  go_wp2_with fail
                  go_roundw
                  case rel => exact ⟨j + 1, by go_num, by omega, HS2.out.setI a1 _, HB2.out.setCell (p := ⟨g, oh + j * 2 + 1, none⟩) hBg _, kept_slice a1 hc _⟩
                  case measure => simp [intOf]; omega
                · obtain rfl : j = n := by omega
                  clear hc
                  go_wp2_with fail
                  go_roundw
                  case rel => exact ⟨k + 1, by go_num, by omega, HS2.out, HB2.out⟩
                  case measure => simp [intOf]; omega
            · obtain rfl : k = D.length := by omega
              obtain ⟨w8, rfl⟩ : ∃ x : World, x = wr := ⟨_, rfl⟩
              have HVa_8 := Lib.hid (HVD.out.call HB1.out)
              have HG_8 := Lib.hid (HGD.out.here HB1.out)
              have HB_8 := Lib.hid (below_call HBD.out HB1.out)
              have HC_8 := Lib.hid (HCD.out.call HB1.out)
              clear HS HBT HS1 HB1
              go_wp2_with fail
              refine (KL.out _ HG_8.out).mono ?_
              rintro e w9 ⟨rfl, h⟩
              have HG_9 := Lib.hid (HG_8.out.here h)
              clear HG_8
              have HVa_9 := Lib.hid (HVa_8.out.call h)
              clear HVa_8
              have HC_9 := Lib.hid (HC_8.out.call h)
              clear HC_8
              have HB_9 := Lib.hid (below_call HB_8.out h)
              clear h
              go_wp2_with fail
              refine (K2.out _ _ _ HC_9.out.m.i HVa_9.out.m.i).mono ?_
              rintro e w10 ⟨rfl, h⟩
              have HG_10 := Lib.hid (HG_9.out.here h)
              clear HG_9
              have HVa_10 := Lib.hid (HVa_9.out.call h)
              clear HVa_9
              have HC_10 := Lib.hid (HC_9.out.call h)
              clear HC_9
              have HB_10 := Lib.hid (below_call HB_9.out h)
              clear h
              go_wp2_with fail
              go_ret
              exact ⟨rfl, HB_10.out⟩
end Go.Proofs.YtgeggdaokjimjaaDoor
