/- The reference's numbers of a vector. Conditions: as each theorem says. -/
import Derived.Test.YtgeggdaokjimjaaDoorPRef
import Derived.Test.YtgeggdaokjimjaaDoorRStarts
import Derived.Test.YtgeggdaokjimjaaDoorRPut
import Derived.Deep.RegionHeld3
namespace Go.Proofs.YtgeggdaokjimjaaDoor
open Go.RowKit
/-- The numbers of an entry, of a vector. -/
def ivN (H : List Iv) : List Int := H.flatMap fun y => [y.1, y.2]
def entN (x : Int × Int × List Iv) : List Int := [x.1, x.2.1, (x.2.2.length : Int)] ++ ivN x.2.2
def numsV (V : List (Int × Int × List Iv)) : List Int := (V.length : Int) :: V.flatMap entN
theorem take_snoc9 {α : Type} {l : List α} {k : Nat} {x : α} (h : l[k]? = some x) : l.take (k + 1) = l.take k ++ [x] := by rw [List.take_add_one, h]; rfl
theorem ivN_len (H : List Iv) : (ivN H).length = 2 * H.length := by
  unfold ivN
  induction H with
  | nil => rfl
  | cons y H ih => rw [List.flatMap_cons, List.length_append, ih]; simp; omega
theorem entN_len (x : Int × Int × List Iv) : (entN x).length = 3 + 2 * x.2.2.length := by unfold entN; rw [List.length_append, ivN_len]; rfl
theorem flat_len : ∀ (l : List (Int × Int × List Iv)), (∀ x ∈ l, x.2.2.length ≤ 5000) → (l.flatMap entN).length ≤ l.length * 10003
  | [], _ => by simp
  | x :: l, h => by
    have h1 := flat_len l fun y hy => h y (by simp [hy])
    have h2 := h x (by simp)
    rw [List.flatMap_cons, List.length_append, entN_len, List.length_cons]
    omega
theorem nmC_app (a b : List Int) : nmC (a ++ b) = nmC a ++ nmC b := by simp [nmC]
theorem cell_three_new (w : World) (x y z : Value) (t : TypeId) : ∀ j u, [x, y, z][j]? = some u → (w.alloc (.cells #[x, y, z] t)).drew.cell? ((⟨w.heap.size, 0, none⟩ : Addr).add j) = some u := by
  intro j u h
  refine keep_cell (w := w.alloc (.cells #[x, y, z] t)) ?_ (Below.refl _ _).drew
  match j, h with
  | 0, h => simp at h; subst h; simp [Addr.add]
  | 1, h => simp at h; subst h; simp [Addr.add]
  | 2, h => simp at h; subst h; simp [Addr.add]
  | j + 3, h => simp at h
theorem cell_two_new9 (w : World) (x y : Value) (t : TypeId) : ∀ j u, [x, y][j]? = some u → (w.alloc (.cells #[x, y] t)).drew.cell? ((⟨w.heap.size, 0, none⟩ : Addr).add j) = some u := by
  intro j u h
  refine keep_cell (w := w.alloc (.cells #[x, y] t)) ?_ (Below.refl _ _).drew
  match j, h with
  | 0, h => simp at h; subst h; simp [Addr.add]
  | 1, h => simp at h; subst h; simp [Addr.add]
  | j + 2, h => simp at h
theorem keepA3 {W w1 : World} {p q t : Addr} {a b c : Value} (h : ∀ w', Below W.heap.size W w' → w'.cell? p = some a ∧ w'.cell? q = some b ∧ w'.cell? t = some c) (hb : Below W.heap.size W w1) :
    Below W.heap.size W w1 ∧ w1.cell? p = some a ∧ w1.cell? q = some b ∧ w1.cell? t = some c := ⟨hb, h _ hb⟩
set_option maxRecDepth 100000 in
set_option maxHeartbeats 4000000 in
theorem refNumbers9_any (V : List (Int × Int × List Iv)) (v : Value) (w : World) (hv : VecM w v V) : Calls Tryd.prog 24 #[v] w (IsNums (numsV V) w) := by
  obtain ⟨i0, hi', hz0, hz1, hz2⟩ := info_parts infoU
  obtain ⟨p, cap, rfl⟩ := hv.shape
  have hlen := hv.len
  have HV := Lib.hid hv; clear hv
  have HL5 : Hid (∀ x ∈ V, x.2.2.length ≤ 5000) := Lib.hid (fun x hx => by
    obtain ⟨i, hi⟩ := List.mem_iff_getElem?.1 hx
    obtain ⟨_, _, _, _, _, _, _, _, _, _, ha⟩ := HV.out.elem (r := x.1) (m := x.2.1) (H := x.2.2) hi
    exact ha.len)
  have hwl : IntKind.u64.wrap (V.length : Int) = (V.length : Int) := IntWalk.u64_in _ (by omega)
  go_enter Tryd.func24, Tryd.ntmps24
  go_wp2_with fail
  obtain ⟨W0, hW0⟩ : ∃ W0, w.alloc (.cells #[.int .u64 (V.length : Int)] 34) = W0 := ⟨_, rfl⟩
  have ho0 : OwnN W0 w.heap.size (.slice (some ⟨w.heap.size, 0, none⟩) 1 1) [(V.length : Int)] := by
    rw [← hW0]
    exact World.ownsRow_lit w #[.int .u64 (V.length : Int)] 1 (Nat.le_refl _) (by decide) rfl
  have HO0 := Lib.hid ho0; clear ho0
  have HB0 : Hid (Below w.heap.size w W0) := Lib.hid (by rw [← hW0]; exact below_new _ _)
  rw [hW0]
  clear hW0
  go_loopw [3, 4] (fun vo i wr => ∃ k : Nat, i = .int .i64 k ∧ k ≤ V.length ∧ OwnN wr w.heap.size vo ((V.length : Int) :: (V.take k).flatMap entN) ∧ Below w.heap.size w wr) (fun _ i _ => V.length - (intOf i).toNat)
  case atStart => exact ⟨0, rfl, Nat.zero_le _, HO0.out, HB0.out⟩
  case round =>
    obtain ⟨k, rfl, hk, hown, hb⟩ := hrel
    have HB := Lib.hid hb; clear hb
    have hszw := HB.out.size
    have hfl := flat_len (V.take k) fun x hx => HL5.out x (List.mem_of_mem_take hx)
    rw [List.length_take] at hfl
    obtain ⟨L, hL⟩ : ∃ L, (V.length : Int) :: (V.take k).flatMap entN = L := ⟨_, rfl⟩
    have hLn : L.length ≤ 1 + 100000 * 10003 := by rw [← hL, List.length_cons]; have : min k V.length ≤ 100000 := by omega
                                                   omega
    have hLp : 0 < L.length := by rw [← hL]; simp
    rw [hL] at hown
    have HLE := Lib.hid hL; clear hL hfl
    obtain ⟨q9, hq9⟩ : ∃ q9, L.length = q9 + 1 := ⟨L.length - 1, by omega⟩
    have hrow : wr.ownsRow w.heap.size 34 1 _ L.length (nmC L) := hown
    rw [hq9] at hrow
    obtain ⟨g, cpo, rfl⟩ := ownsRow_succ hrow
    have HO := Lib.hid hrow; clear hrow hown
    have HQ := Lib.hid hq9
    rw [hq9] at hLn
    clear hq9 hLp
    by_cases hlt : k < V.length
    · obtain ⟨⟨x, m, H⟩, hx⟩ : ∃ x, V[k]? = some x := ⟨V[k], by simp [hlt]⟩
      obtain ⟨b, o, cp, q, n, c, e, c0, c1, c2, ha⟩ := HV.out.elem hx
      cases e
      obtain ⟨_, _, es, _⟩ := ha.at'.shape
      cases es
      have hHl := ha.len
      have KA := Lib.hid (fun w' (h : Below w.heap.size w w') => (⟨keep_cell c0 h, keep_cell c1 h, keep_cell c2 h⟩ : w'.cell? ⟨b, o + k * 3, none⟩ = some (.int .u64 x) ∧ w'.cell? ⟨b, o + k * 3 + 1, none⟩ = some (.int .u64 m) ∧ w'.cell? ⟨b, o + k * 3 + 2, none⟩ = some (.slice q H.length c)))
      have HH := Lib.hid ha.at'
      have HX := Lib.hid hx
      clear c0 c1 c2 ha hx
      have i1 : (0 : Int) ≤ (k : Int) := by omega
      have i2 : (k : Int) < (V.length : Int) := by omega
      have hwn : IntKind.u64.wrap (H.length : Int) = (H.length : Int) := IntWalk.u64_in _ (by omega)
      obtain ⟨nh, hnh⟩ : ∃ nh, H.length = nh := ⟨_, rfl⟩
      rw [hnh] at KA HH hwn hHl
      have HNH := Lib.hid hnh; clear hnh
      go_wp2_with fail
      go_region_held3 (fun w' => Below w.heap.size w w' ∧ w'.cell? ⟨b, o + k * 3, none⟩ = some (.int .u64 x) ∧ w'.cell? ⟨b, o + k * 3 + 1, none⟩ = some (.int .u64 m) ∧ w'.cell? ⟨b, o + k * 3 + 2, none⟩ = some (.slice q nh c))
        (first
          | exact keepA3 KA.out HB.out.drew
          | exact keepA3 KA.out (HB.out.trans ((below_new _ _).drew.mono hszw))
          | exact keepA3 KA.out HG2.out
          | assumption)
        (first
          | ((refine step_own (by rfl) (.tmp 16) (.tmp 34) _ (by rfl) w.heap.size 34 i0 (.int .u64 0) 1 8 Tryd.underlying39 hi' hz0 hz1 hz2 rfl (by decide) (.slice (some ⟨g, 0, none⟩) (q9 + 1) cpo) (q9 + 1) (nmC L) (by rfl) (own_below HO.out ((below_new _ _).drew)) ⟨wr.heap.size, 0, none⟩ 3 3 [.int .u64 x, .int .u64 m, .int .u64 (nh : Int)] (by rfl) rfl (cell_three_new _ _ _ _ _) (by simp [Value.oneCell']) (by unfold maxLen; omega) (by omega) (Nat.le_trans hszw (below_new _ _).drew.size) ?_; intro v2 w2 hown2 hgrow2; have HG2 := Lib.hid (own_grown (HB.out.trans ((below_new _ _).drew.mono hszw)) (own_below HO.out ((below_new _ _).drew)) hgrow2 (Nat.le_trans hszw (below_new _ _).drew.size)); obtain ⟨g2, cp2, rfl⟩ := ownsRow_succ hown2; have HO2 := Lib.hid hown2; clear hown2 hgrow2)))
      rename_i hE
      clear hE
      have hst : OwnN w2 w.heap.size (.slice (some ⟨g2, 0, none⟩) (q9 + 3 + 1) cp2) (L ++ [x, m, (nh : Int)] ++ ivN (H.take 0)) := by
        have e1 : (L ++ [x, m, (nh : Int)] ++ ivN (H.take 0)).length = q9 + 1 + 3 := by
          rw [List.take_zero, show ivN [] = [] from rfl, List.append_nil, List.length_append, HQ.out]; rfl
        have e2 : nmC (L ++ [x, m, (nh : Int)] ++ ivN (H.take 0)) = nmC L ++ [.int .u64 x, .int .u64 m, .int .u64 (nh : Int)] := by
          rw [List.take_zero, show ivN [] = [] from rfl, List.append_nil, nmC_app]; rfl
        unfold OwnN
        rw [e1, e2]
        exact HO2.out
      have HST := Lib.hid hst; clear hst HO HB hszw
      go_wp2_with fail
      go_loopw [3, 5] (fun vi j wz => ∃ jn : Nat, j = .int .i64 jn ∧ jn ≤ nh ∧ OwnN wz w.heap.size vi (L ++ [x, m, (nh : Int)] ++ ivN (H.take jn)) ∧ Below w.heap.size w wz) (fun _ j _ => nh - (intOf j).toNat)
      case atStart => exact ⟨0, rfl, Nat.zero_le _, HST.out, HG2.out⟩
      case round =>
        obtain ⟨jn, rfl, hjn, hownz, hbz⟩ := hrel
        have HBZ := Lib.hid hbz; clear hbz
        have hszz := HBZ.out.size
        obtain ⟨M, hM⟩ : ∃ M, L ++ [x, m, (nh : Int)] ++ ivN (H.take jn) = M := ⟨_, rfl⟩
        have hMl : M.length = (q9 + 3 + 2 * jn) + 1 := by
          rw [← hM, List.length_append, List.length_append, HQ.out, ivN_len, List.length_take, HNH.out, Nat.min_eq_left hjn]
          simp; omega
        rw [hM] at hownz
        have hrow : World.ownsRow _ w.heap.size 34 1 _ M.length (nmC M) := hownz
        rw [hMl] at hrow
        obtain ⟨p9, hp9⟩ : ∃ p9, q9 + 3 + 2 * jn = p9 := ⟨_, rfl⟩
        rw [hp9] at hrow
        obtain ⟨g3, cp3, rfl⟩ := ownsRow_succ hrow
        have HO3 := Lib.hid hrow
        have HM := Lib.hid (And.intro hM (hMl.trans (by rw [hp9])))
        have hp9b : p9 ≤ 1000400000 := by omega
        clear hrow hownz hM hMl hp9
        have c2z := (KA.out _ HBZ.out).2.2
        by_cases hjlt : jn < nh
        · obtain ⟨⟨y1, y2⟩, hy⟩ : ∃ y, H[jn]? = some y := ⟨H[jn]'(by rw [HNH.out]; exact hjlt), by simp⟩
          obtain ⟨bh, oh, ch, e, z0, z1⟩ := HH.out.elem hy
          rw [HNH.out] at e
          cases e
          dsimp only at z0 z1
          have KB := Lib.hid (fun w' (h : Below w.heap.size w w') => (⟨(KA.out w' h).2.2, keep_cell z0 h, keep_cell z1 h⟩ : w'.cell? ⟨b, o + k * 3 + 2, none⟩ = some (.slice (some ⟨bh, oh, none⟩) nh c) ∧ w'.cell? ⟨bh, oh + jn * 2, none⟩ = some (.int .u64 y1) ∧ w'.cell? ⟨bh, oh + jn * 2 + 1, none⟩ = some (.int .u64 y2)))
          have HY := Lib.hid hy
          clear z0 z1 hy
          have j1 : (0 : Int) ≤ (jn : Int) := by omega
          have j2 : (jn : Int) < (nh : Int) := by omega
          obtain ⟨wz, hwz⟩ : ∃ wz : World, wz = wr := ⟨_, rfl⟩
          go_wp2_with fail
          clear c2z
          go_region_held3 (fun w' => Below w.heap.size w w' ∧ w'.cell? ⟨b, o + k * 3 + 2, none⟩ = some (.slice (some ⟨bh, oh, none⟩) nh c) ∧ w'.cell? ⟨bh, oh + jn * 2, none⟩ = some (.int .u64 y1) ∧ w'.cell? ⟨bh, oh + jn * 2 + 1, none⟩ = some (.int .u64 y2))
            (first
              | exact keepA3 KB.out HBZ.out.drew
              | exact keepA3 KB.out (HBZ.out.trans ((below_new _ _).drew.mono hszz))
              | exact keepA3 KB.out HG4.out
              | assumption)
            (first
              | ((refine step_own (by rfl) (.tmp 46) (.tmp 65) _ (by rfl) w.heap.size 34 i0 (.int .u64 0) 1 8 Tryd.underlying39 hi' hz0 hz1 hz2 rfl (by decide) (.slice (some ⟨g3, 0, none⟩) (p9 + 1) cp3) (p9 + 1) (nmC M) (by rfl) (own_below HO3.out ((below_new _ _).drew)) ⟨wr.heap.size, 0, none⟩ 2 2 [.int .u64 y1, .int .u64 y2] (by rfl) rfl (cell_two_new9 _ _ _ _) (by simp [Value.oneCell']) (by unfold maxLen; omega) (by omega) (Nat.le_trans hszz (below_new _ _).drew.size) ?_; intro v4 w4 hown4 hgrow4; have HG4 := Lib.hid (own_grown (HBZ.out.trans ((below_new _ _).drew.mono hszz)) (own_below HO3.out ((below_new _ _).drew)) hgrow4 (Nat.le_trans hszz (below_new _ _).drew.size)); obtain ⟨g4, cp4, rfl⟩ := ownsRow_succ hown4; have HO4 := Lib.hid hown4; clear hown4 hgrow4)))
          rename_i hE
          clear hE hwz wz
          have hst4 : OwnN w4 w.heap.size (.slice (some ⟨g4, 0, none⟩) (p9 + 2 + 1) cp4) (L ++ [x, m, (nh : Int)] ++ ivN (H.take (jn + 1))) := by
            have e0 : L ++ [x, m, (nh : Int)] ++ ivN (H.take (jn + 1)) = M ++ [y1, y2] := by
              rw [take_snoc9 HY.out, ← HM.out.1]
              unfold ivN
              rw [List.flatMap_append, ← List.append_assoc]
              rfl
            unfold OwnN
            rw [e0, List.length_append, HM.out.2, nmC_app]
            exact HO4.out
          have HST4 := Lib.hid hst4; clear hst4
          go_wp2_with fail
          go_roundw
          case rel => exact ⟨jn + 1, by go_num, by omega, HST4.out, HG4.out⟩
          case measure => simp [intOf]; omega
        · obtain rfl : jn = nh := by omega
          have hfin : L ++ entN (x, m, H) = M := by
            rw [← HM.out.1, List.take_of_length_le (by rw [HNH.out]; exact Nat.le_refl _), List.append_assoc]
            unfold entN
            rw [HNH.out]
          have HFIN := Lib.hid hfin; clear hfin
          go_wp2_with fail
          go_roundw
          case rel =>
            refine ⟨k + 1, by go_num, by omega, ?_, HBZ.out⟩
            have e0 : (V.length : Int) :: (V.take (k + 1)).flatMap entN = M := by
              rw [take_snoc9 HX.out, List.flatMap_append, ← List.cons_append, HLE.out, ← HFIN.out]
              simp
            unfold OwnN
            rw [e0, HM.out.2]
            exact HO3.out
          case measure => simp [intOf]; omega
    · obtain rfl : k = V.length := by omega
      go_wp2_with fail
      go_ret
      refine ⟨_, rfl, ?_, HB.out⟩
      have h1 := HLE.out
      rw [List.take_of_length_le (Nat.le_refl _)] at h1
      show wr.ownsRow w.heap.size 34 1 _ (numsV V).length (nmC (numsV V))
      unfold numsV
      rw [h1, HQ.out]
      exact HO.out
end Go.Proofs.YtgeggdaokjimjaaDoor
