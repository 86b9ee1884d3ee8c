/- The contracts of package entry over the developers' code. Conditions: as the structure EntC says. -/
import Derived.Test.YtefiobfljhmkkaaGreatDoorNCheck
import Derived.Test.YtefiobfljhmkkaaGreatDoorNKeeps
import Derived.Test.YtefiobfljhmkkaaGreatDoorOSetC
import Derived.WalkMore
namespace Go.Proofs.YtefiobfljhmkkaaGreatDoor
open Go.RowKit
theorem has7 (H : List Iv) (s : Value) (x : Int) (r : Bool) (w : World) (hl : IvsAt w s H) (hc : canon H) (h : hasL H x = r) : Calls Tryz.prog 45 #[s, .int .u64 x] w (IsEnd r w) := h ▸ rhas_any H s x w hl hc
set_option maxRecDepth 100000 in
theorem eHas_any (r m : Int) (H : List Iv) (s : Value) (c : Int) (w : World) (he : EntAt w s m H) (_h0 : 0 ≤ c) (_h1 : c ≤ 18446744073709551615) :
    Calls Tryz.prog 29 #[.agg #[.int .u64 r, .int .u64 m, s], .int .u64 c] w (IsEnd (hasE m H c) w) := by
  have hl := he.any.at'
  obtain ⟨p, cap, rfl, _⟩ := hl.shape
  have hb := below_new w (.cells #[.int .u64 r, .int .u64 m, .slice p H.length cap] 36)
  have HL := Lib.hid (hl.call hb); clear hl
  have HC := Lib.hid he.good.good.can; clear he
  have HB := Lib.hid hb; clear hb
  by_cases hc : c ≤ m
  · have hle : decide (c ≤ m) = true := by simpa using hc
    have K := Lib.hid (rhas_any H _ c _ HL.out HC.out)
    have HE : Hid (hasE m H c = !hasL H c) := Lib.hid (by unfold hasE; rw [hle]; rfl)
    rw [HE.out]
    clear hc HE
    generalize hasL H c = b at *
    go_enter Tryz.func29, Tryz.ntmps29
    go_wp2_with fail
    refine K.out.mono ?_
    rintro e w1 ⟨rfl, h⟩
    have H1 := Lib.hid (below_call HB.out h); clear h
    cases b <;>
    · go_wp2_with fail
      go_ret
      exact ⟨rfl, H1.out⟩
  · have hle : decide (c ≤ m) = false := by simpa using hc
    rw [show hasE m H c = false from by unfold hasE; rw [hle]; rfl]
    clear hc
    go_enter Tryz.func29, Tryz.ntmps29
    go_wp2_with fail
    go_ret
    exact ⟨rfl, HB.out⟩
theorem kn_own {B : Nat} {L : List Iv} {w' : World} {v : Value} (hv : OwnL w' B v L) (hl : L.length ≤ 1048576) : IvsAt w' v L ∧ SaneE v ∧ SoftE w' B v L.length := ⟨hv.ivs hl, sane_row hv, softE_own hv⟩
set_option maxRecDepth 100000 in
theorem eKnown_any (r m : Int) (H : List Iv) (s : Value) (w : World) (he : EntAt w s m H) :
    Calls Tryz.prog 37 #[.agg #[.int .u64 r, .int .u64 m, s]] w (IsKn (knownL m H) w) := by
  obtain ⟨p, cap, rfl, _⟩ := he.any.at'.shape
  have hb := below_new w (.cells #[.int .u64 r, .int .u64 m, .slice p H.length cap] 36)
  have K := Lib.hid (setNot_any H _ 0 m _ (he.op.call hb) he.good.one)
  have HLN : Hid ((knownL m H).length ≤ 1048576) := Lib.hid (by have := known_len (m := m) (H := H); have := he.any.len; omega)
  rw [show subL [(0, m)] H = knownL m H from rfl] at K
  have HB := Lib.hid hb; clear hb he
  go_enter Tryz.func37, Tryz.ntmps37
  go_wp2_with fail
  refine K.out.mono ?_
  rintro e w1 ⟨v, rfl, hv, h⟩
  have HV := Lib.hid hv
  have H1 := Lib.hid h; clear hv h
  go_wp2_with fail
  go_ret
  obtain ⟨k1, k2, k3⟩ := kn_own HV.out HLN.out
  exact ⟨v, rfl, k1, k2, k3.base HB.out.size, below_call HB.out H1.out⟩
set_option maxRecDepth 100000 in
set_option maxHeartbeats 2000000 in
theorem eOf_any (r : Int) (L : List Iv) (s : Value) (w : World) (hL' : LstAt w s L) : Calls Tryz.prog 38 #[.int .u64 r, s] w (IsEO r L w) := by
  have ho := hL'.op
  obtain ⟨p, cap, rfl, _⟩ := ho.at'.shape
  by_cases hL : L = []
  · have hlen : L.length = 0 := by rw [hL]; rfl
    unfold IsEO
    rw [show repE r L = 0 from by simp [repE, hL], show topL L = 0 from by rw [hL]; rfl, show someE L = false from by rw [hL]; rfl, show holesL L = [] from by rw [hL]; rfl]
    rw [hlen]
    clear ho hL' hL hlen
    go_enter Tryz.func38, Tryz.ntmps38
    go_wp2_with fail
    refine bodyPost_ret (v := .tuple #[.agg #[.int .u64 0, .int .u64 0, .slice none 0 0], .bool false]) (by simp [results, Tryz.results38, go_sem]) rfl ?_
    refine ⟨_, rfl, ivs_nil _, sane_nil, soft_nil _ _, ?_⟩
    exact below_new _ _
  · obtain ⟨k, hk⟩ : ∃ k, L.length = k + 1 := ⟨L.length - 1, by have := List.length_pos_iff.2 hL; omega⟩
    obtain ⟨z, hz, ht⟩ := top_at hk
    have htr := top_range ho.good hL
    obtain ⟨b, o, cp, e, _, c1⟩ := ho.at'.elem hz
    cases e
    rw [← ht] at c1
    have hlen := ho.len
    have hlen3 := hL'.len
    have hb := below_new w (.cells #[.int .u64 0, .int .u64 0, .slice none 0 0] 36)
    have c1' := keep_cell c1 hb
    have hgo : GoodL [(0, topL L)] := good_one htr.1 (Int.le_refl _) htr.2
    have hh : subL [(0, topL L)] L = holesL L := by unfold holesL; rw [if_neg hL]
    have km := setNot_any L _ 0 (topL L) _ (ho.call hb) hgo
    rw [hh] at km
    unfold IsEO
    rw [show repE r L = r from by simp [repE, hL], show someE L = true from by unfold someE; cases L with | nil => exact absurd rfl hL | cons _ _ => rfl]
    have K := Lib.hid km; clear km
    have HB := Lib.hid hb; clear hb
    have HHL := Lib.hid (holes_len (L := L))
    rw [hk] at hlen hlen3 HHL K ⊢
    have i0 : ¬ (k : Int) + 1 = 0 := by omega
    have i1 : (0 : Int) ≤ (k : Int) := by omega
    clear ho hL' hL hk hz ht htr c1 hgo hh
    generalize topL L = t at *
    generalize holesL L = G at *
    go_enter Tryz.func38, Tryz.ntmps38
    go_wp2_with fail
    refine K.out.mono ?_
    rintro e w1 ⟨v, rfl, hv, h⟩
    obtain ⟨pv, cv, rfl, _⟩ := own_shape hv
    have HV := Lib.hid hv
    have e0 := keep_cell (p := ⟨w.heap.size, 0, none⟩) (v := .int .u64 0) (by simp) h
    have e1 := keep_cell (p := ⟨w.heap.size, 1, none⟩) (v := .int .u64 0) (by simp) h
    have e2 := keep_cell (p := ⟨w.heap.size, 2, none⟩) (v := .slice none 0 0) (by simp) h
    have f0 := keep_free (p := ⟨w.heap.size, 0, none⟩) (by simp) (by simp) h
    have f1 := keep_free (p := ⟨w.heap.size, 1, none⟩) (by simp) (by simp) h
    have f2 := keep_free (p := ⟨w.heap.size, 2, none⟩) (by simp) (by simp) h
    have H1 := Lib.hid h; clear hv h
    go_wp2_with fail
    have hs3 := three_stored e0 e1 e2 (.int .u64 r) (.int .u64 t) (.slice pv G.length cv)
    refine bodyPost_ret (v := .tuple #[.agg #[.int .u64 r, .int .u64 t, .slice pv G.length cv], .bool true]) (by simp [results, Tryz.results38, go_sem, hs3.1, hs3.2.1, hs3.2.2]) rfl ?_
    have hlt : w.heap.size < (w.alloc (.cells #[.int .u64 0, .int .u64 0, .slice none 0 0] 36)).heap.size := by simp
    have ho := own_set (o := 2) (own_set (o := 1) (own_set (o := 0) HV.out hlt (.int .u64 r)) hlt (.int .u64 t)) hlt (.slice pv G.length cv)
    have hw := own_base (B' := w.heap.size) ho (Nat.le_of_lt hlt)
    obtain ⟨k1, k2, k3⟩ := kn_own hw (by have := HHL.out; omega)
    exact ⟨_, rfl, k1, k2, k3, (((below_call HB.out H1.out).setCell (p := ⟨w.heap.size, 0, none⟩) (Nat.le_refl _) _).setCell (p := ⟨w.heap.size, 1, none⟩) (Nat.le_refl _) _).setCell (p := ⟨w.heap.size, 2, none⟩) (Nat.le_refl _) _⟩
set_option maxRecDepth 100000 in
theorem eCanonical_any (r m : Int) (H : List Iv) (s : Value) (w : World) (hg : ErrT w) (ha : AnyAt w s m H) :
    Calls Tryz.prog 23 #[.agg #[.int .u64 r, .int .u64 m, s]] w (IsEnd (okN m H && canonB m H) w) := by
  have hl := ha.at'
  obtain ⟨p, cap, rfl, _⟩ := hl.shape
  have hb := below_new w (.cells #[.int .u64 r, .int .u64 m, .slice p H.length cap] 36)
  have k := eCheck_any r m H _ _ (hg.here hb) (ha.call hb)
  have HL := Lib.hid (hl.call hb)
  have HI := Lib.hid (okN_iff ha.all ⟨ha.low, ha.top⟩)
  have K := Lib.hid k; clear k hl ha hg
  have HB := Lib.hid hb; clear hb
  unfold canonB
  cases hc : chkN m H with
  | some x =>
    obtain ⟨t, v, hv⟩ := errV_some (x := some x) (by simp)
    rw [hc] at K
    rw [show okN m H = false from by unfold okN; rw [hc]; rfl]
    rw [show IsErr (some x) (w.alloc (.cells #[.int .u64 r, .int .u64 m, .slice p H.length cap] 36)) = fun e w' => e = .returned (.iface t v) ∧ Below (w.alloc (.cells #[.int .u64 r, .int .u64 m, .slice p H.length cap] 36)).heap.size (w.alloc (.cells #[.int .u64 r, .int .u64 m, .slice p H.length cap] 36)) w' from by unfold IsErr; rw [hv]] at K
    clear hc hv HI
    go_enter Tryz.func23, Tryz.ntmps23
    go_wp2_with fail
    refine K.out.mono ?_
    rintro e w1 ⟨rfl, h⟩
    have H1 := Lib.hid (below_call HB.out h); clear h
    go_wp2_with fail
    go_ret
    exact ⟨rfl, H1.out⟩
  | none =>
    have hok : okN m H = true := by unfold okN; rw [hc]; rfl
    have HC := Lib.hid ((HI.out.1 hok).good.can)
    have KH := Lib.hid (fun W h => has7 H (.slice p H.length cap) m (hasL H m) W h HC.out rfl)
    rw [hok]
    generalize hasL H m = b at *
    rw [hc] at K
    clear hc hok HI
    go_enter Tryz.func23, Tryz.ntmps23
    go_wp2_with fail
    refine K.out.mono ?_
    rintro e w1 ⟨rfl, h⟩
    have b0 := keep_cell (p := ⟨w.heap.size, 1, none⟩) (v := .int .u64 m) (by simp) h
    have b1 := keep_cell (p := ⟨w.heap.size, 2, none⟩) (v := .slice p H.length cap) (by simp) h
    have HL1 := Lib.hid (HL.out.call h)
    have H1 := Lib.hid (below_call HB.out h); clear h
    rw [show errV none = .nilIface from rfl]
    go_wp2_with fail
    refine (KH.out _ HL1.out).mono ?_
    rintro e w2 ⟨rfl, h⟩
    have H2 := Lib.hid (below_call H1.out h); clear h
    cases b <;>
    · go_wp2_with fail
      go_ret
      exact ⟨rfl, H2.out⟩
end Go.Proofs.YtefiobfljhmkkaaGreatDoor
