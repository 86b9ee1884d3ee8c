/- The laws of layer 7 in every state, out of what package entry says. Conditions: the contracts of package entry, and the fixed value of errors.errorType. -/
import Derived.Test.YtjnpcpcgigdngaaDoorNAlive
import Derived.Test.YtjnpcpcgigdngaaDoorORight
import Derived.Deep.RegionHeld3
namespace Go.Proofs.YtjnpcpcgigdngaaDoor
open Go.RowKit
/-- An entry that came in. -/
def entArg (w : World) (v : Value) : Prop := ∃ (r m : Int) (s : Value), v = .agg #[.int .u64 r, .int .u64 m, s] ∧ (0 ≤ m ∧ m ≤ 18446744073709551615) ∧ SaneE s ∧ ((∃ q n cap, s = .slice q n cap ∧ 60 < n) ∨ ∃ H, H.length ≤ 60 ∧ All64 H ∧ IvsAt w s H)
/-- The three cells of an entry in memory. -/
def E3 (w : World) (b : Nat) (r m : Int) (s : Value) : Prop := w.cell? ⟨b, 0, none⟩ = some (.int .u64 r) ∧ w.cell? ⟨b, 1, none⟩ = some (.int .u64 m) ∧ w.cell? ⟨b, 2, none⟩ = some s
theorem E3.call {w w' : World} {b : Nat} {r m : Int} {s : Value} (h : E3 w b r m s) (hb : Below w.heap.size w w') : E3 w' b r m s := ⟨keep_cell h.1 hb, keep_cell h.2.1 hb, keep_cell h.2.2 hb⟩
theorem E3.new (w : World) (r m : Int) (s : Value) (t : TypeId) (k : Nat) (hk : k = w.heap.size) : E3 (w.alloc (.cells #[.int .u64 r, .int .u64 m, s] t)) k r m s := by
  subst hk
  refine ⟨?_, ?_, ?_⟩ <;> simp
theorem r1_below {W w1 : World} {p q t : Addr} {a b c : Value} (h : Below W.heap.size W w1 ∧ w1.cell? p = some a ∧ w1.cell? q = some b ∧ w1.cell? t = some c) : Below W.heap.size W w1 := h.1
theorem r6_call {W w1 w2 : World} {p0 p1 p2 p3 p4 p5 : Addr} {a0 a1 a2 a3 a4 a5 : Value} (h : Below W.heap.size W w1 ∧ w1.cell? p0 = some a0 ∧ w1.cell? p1 = some a1 ∧ w1.cell? p2 = some a2 ∧ w1.cell? p3 = some a3 ∧ w1.cell? p4 = some a4 ∧ w1.cell? p5 = some a5) (hb : Hid (Below w1.heap.size w1 w2)) : Below W.heap.size W w2 ∧ w2.cell? p0 = some a0 ∧ w2.cell? p1 = some a1 ∧ w2.cell? p2 = some a2 ∧ w2.cell? p3 = some a3 ∧ w2.cell? p4 = some a4 ∧ w2.cell? p5 = some a5 :=
  ⟨below_call h.1 hb.out, keep_cell h.2.1 hb.out, keep_cell h.2.2.1 hb.out, keep_cell h.2.2.2.1 hb.out, keep_cell h.2.2.2.2.1 hb.out, keep_cell h.2.2.2.2.2.1 hb.out, keep_cell h.2.2.2.2.2.2 hb.out⟩
theorem r6_drew {W w1 : World} {p0 p1 p2 p3 p4 p5 : Addr} {a0 a1 a2 a3 a4 a5 : Value} (h : Below W.heap.size W w1 ∧ w1.cell? p0 = some a0 ∧ w1.cell? p1 = some a1 ∧ w1.cell? p2 = some a2 ∧ w1.cell? p3 = some a3 ∧ w1.cell? p4 = some a4 ∧ w1.cell? p5 = some a5) : Below W.heap.size W w1.drew ∧ w1.drew.cell? p0 = some a0 ∧ w1.drew.cell? p1 = some a1 ∧ w1.drew.cell? p2 = some a2 ∧ w1.drew.cell? p3 = some a3 ∧ w1.drew.cell? p4 = some a4 ∧ w1.drew.cell? p5 = some a5 := r6_call h (Lib.hid (Below.refl _ _).drew)
theorem r6_below {W w1 : World} {p0 p1 p2 p3 p4 p5 : Addr} {a0 a1 a2 a3 a4 a5 : Value} (h : Below W.heap.size W w1 ∧ w1.cell? p0 = some a0 ∧ w1.cell? p1 = some a1 ∧ w1.cell? p2 = some a2 ∧ w1.cell? p3 = some a3 ∧ w1.cell? p4 = some a4 ∧ w1.cell? p5 = some a5) : Below W.heap.size W w1 := h.1
theorem r9_call {W w1 w2 : World} {p0 p1 p2 p3 p4 p5 p6 p7 p8 : Addr} {a0 a1 a2 a3 a4 a5 a6 a7 a8 : Value} (h : Below W.heap.size W w1 ∧ w1.cell? p0 = some a0 ∧ w1.cell? p1 = some a1 ∧ w1.cell? p2 = some a2 ∧ w1.cell? p3 = some a3 ∧ w1.cell? p4 = some a4 ∧ w1.cell? p5 = some a5 ∧ w1.cell? p6 = some a6 ∧ w1.cell? p7 = some a7 ∧ w1.cell? p8 = some a8) (hb : Hid (Below w1.heap.size w1 w2)) : Below W.heap.size W w2 ∧ w2.cell? p0 = some a0 ∧ w2.cell? p1 = some a1 ∧ w2.cell? p2 = some a2 ∧ w2.cell? p3 = some a3 ∧ w2.cell? p4 = some a4 ∧ w2.cell? p5 = some a5 ∧ w2.cell? p6 = some a6 ∧ w2.cell? p7 = some a7 ∧ w2.cell? p8 = some a8 :=
  ⟨below_call h.1 hb.out, keep_cell h.2.1 hb.out, keep_cell h.2.2.1 hb.out, keep_cell h.2.2.2.1 hb.out, keep_cell h.2.2.2.2.1 hb.out, keep_cell h.2.2.2.2.2.1 hb.out, keep_cell h.2.2.2.2.2.2.1 hb.out, keep_cell h.2.2.2.2.2.2.2.1 hb.out, keep_cell h.2.2.2.2.2.2.2.2.1 hb.out, keep_cell h.2.2.2.2.2.2.2.2.2 hb.out⟩
theorem r9_drew {W w1 : World} {p0 p1 p2 p3 p4 p5 p6 p7 p8 : Addr} {a0 a1 a2 a3 a4 a5 a6 a7 a8 : Value} (h : Below W.heap.size W w1 ∧ w1.cell? p0 = some a0 ∧ w1.cell? p1 = some a1 ∧ w1.cell? p2 = some a2 ∧ w1.cell? p3 = some a3 ∧ w1.cell? p4 = some a4 ∧ w1.cell? p5 = some a5 ∧ w1.cell? p6 = some a6 ∧ w1.cell? p7 = some a7 ∧ w1.cell? p8 = some a8) : Below W.heap.size W w1.drew ∧ w1.drew.cell? p0 = some a0 ∧ w1.drew.cell? p1 = some a1 ∧ w1.drew.cell? p2 = some a2 ∧ w1.drew.cell? p3 = some a3 ∧ w1.drew.cell? p4 = some a4 ∧ w1.drew.cell? p5 = some a5 ∧ w1.drew.cell? p6 = some a6 ∧ w1.drew.cell? p7 = some a7 ∧ w1.drew.cell? p8 = some a8 := r9_call h (Lib.hid (Below.refl _ _).drew)
theorem r9_below {W w1 : World} {p0 p1 p2 p3 p4 p5 p6 p7 p8 : Addr} {a0 a1 a2 a3 a4 a5 a6 a7 a8 : Value} (h : Below W.heap.size W w1 ∧ w1.cell? p0 = some a0 ∧ w1.cell? p1 = some a1 ∧ w1.cell? p2 = some a2 ∧ w1.cell? p3 = some a3 ∧ w1.cell? p4 = some a4 ∧ w1.cell? p5 = some a5 ∧ w1.cell? p6 = some a6 ∧ w1.cell? p7 = some a7 ∧ w1.cell? p8 = some a8) : Below W.heap.size W w1 := h.1
set_option maxRecDepth 100000 in
set_option maxHeartbeats 4000000 in
theorem lawChecks7_any (C : EntC) (v : Value) (w : World) (hg : ErrT w) (ha : entArg w v) : Calls Tryd.prog 3 #[v] w (IsEnd true w) := by
  obtain ⟨r, m, s, rfl, hm, hsane, hs⟩ := ha
  have KA := Lib.hid (fun W h => alive7_any C W h)
  have HG := Lib.hid hg; clear hg
  rcases hs with ⟨q, n, cap, rfl, hn⟩ | ⟨H, hl, h64, hi⟩
  · have i3 : (60 : Int) < (n : Int) := by omega
    have hb := below_new w (.cells #[.int .u64 r, .int .u64 m, .slice q n cap] 26)
    have HG1 := Lib.hid (HG.out.here hb)
    have HB1 := Lib.hid hb; clear hb C hsane hn
    go_enter Tryd.func3, Tryd.ntmps3
    go_wp2_with fail
    refine (KA.out _ HG1.out).mono ?_
    rintro e w2 ⟨rfl, h⟩
    have HB2 := Lib.hid (below_call HB1.out h); clear h
    go_wp2_with fail
    go_ret
    exact ⟨rfl, HB2.out⟩
  · obtain ⟨p, cap, rfl, _⟩ := hi.shape
    have i3 : ¬ (60 : Int) < (H.length : Int) := by omega
    have hb := below_new w (.cells #[.int .u64 r, .int .u64 m, .slice p H.length cap] 26)
    have HE0 := Lib.hid (E3.new w r m (.slice p H.length cap) 26 _ rfl)
    have HA0 : Hid (AnyAt (w.alloc (.cells #[.int .u64 r, .int .u64 m, .slice p H.length cap] 26)) (.slice p H.length cap) m H) := Lib.hid ⟨hi.call hb, h64, hsane, hm.1, hm.2, by omega⟩
    have HAw : Hid (AnyAt w (.slice p H.length cap) m H) := Lib.hid ⟨hi, h64, hsane, hm.1, hm.2, by omega⟩
    have HG0 := Lib.hid (HG.out.here hb)
    have HB0 := Lib.hid hb; clear hb hi
    have HC := Lib.hid C; clear C
    have K1 := Lib.hid (fun W hg h => HC.out.chk r m H (.slice p H.length cap) W hg h)
    have K2 := Lib.hid (fun W (h : AnyAt W (.slice p H.length cap) m H) => refCheckE_any r m H (.slice p H.length cap) W h.at' h.all)
    have K3 := Lib.hid (fun W h => Code_any (chkN m H) W h)
    have K4 := Lib.hid (fun W h => At_any (chkN m H) W h)
    have K5 := Lib.hid (fun W hg h => HC.out.canonical r m H (.slice p H.length cap) W hg h)
    have K6 := Lib.hid (fun W (h : AnyAt W (.slice p H.length cap) m H) => refCanonical_any r m H (.slice p H.length cap) W h.at' h.all)
    generalize (okN m H && canonB m H) = b at *
    generalize chkN m H = c at *
    go_enter Tryd.func3, Tryd.ntmps3
    go_wp2_with fail
    obtain ⟨e0, e1, e2⟩ := HE0.out
    refine (K1.out _ HG0.out HA0.out).mono ?_
    rintro e w1 ⟨rfl, h⟩
    clear e0 e1 e2
    have HE1 := Lib.hid (HE0.out.call h); have HA1 := Lib.hid (HA0.out.call h); have HG1 := Lib.hid (HG0.out.here h); have HB1 := Lib.hid (below_call HB0.out h)
    clear h
    obtain ⟨e0, e1, e2⟩ := HE1.out
    go_wp2_with fail
    refine (K2.out _ HA1.out).mono ?_
    rintro e w2 ⟨rfl, h⟩
    clear e0 e1 e2
    have HE2 := Lib.hid (HE1.out.call h); have HA2 := Lib.hid (HA1.out.call h); have HG2 := Lib.hid (HG1.out.here h); have HB2 := Lib.hid (below_call HB1.out h)
    clear h
    obtain ⟨e0, e1, e2⟩ := HE2.out
    go_wp2_with fail
    have HS := Lib.hid (r1_drew ⟨Below.refl w2.heap.size w2, e0, e1, e2⟩)
    go_region_held3 (fun w' => Below w2.heap.size w2 w' ∧ w'.cell? ⟨w.heap.size, 0, none⟩ = some (.int .u64 r) ∧ w'.cell? ⟨w.heap.size, 1, none⟩ = some (.int .u64 m) ∧ w'.cell? ⟨w.heap.size, 2, none⟩ = some (.slice p H.length cap))
      (first
        | exact r1_call (by assumption) (by assumption)
        | exact HS.out
        | exact r1_drew (by assumption)
        | assumption)
      (first
        | (go_at_call 9; refine (KA.out _ (HG2.out.here (r1_below (by assumption)))).mono ?_; rintro en w' ⟨rfl, h'⟩; have h' := Lib.hid h')
        | (go_at_call 12; refine (K3.out _ (HG2.out.here (r1_below (by assumption)))).mono ?_; rintro en w' ⟨rfl, h'⟩; have h' := Lib.hid h')
        | (go_at_call 13; refine (K4.out _ (HG2.out.here (r1_below (by assumption)))).mono ?_; rintro en w' ⟨rfl, h'⟩; have h' := Lib.hid h')
        | (go_at_call 14; refine (K5.out _ (HG2.out.here (r1_below (by assumption))) (HA2.out.call (r1_below (by assumption)))).mono ?_; rintro en w' ⟨rfl, h'⟩; have h' := Lib.hid h')
        | (go_at_call 15; refine (K6.out _ (HA2.out.call (r1_below (by assumption)))).mono ?_; rintro en w' ⟨rfl, h'⟩; have h' := Lib.hid h'))
    all_goals
      rename_i hE
      go_wp2_with fail
      go_ret
      exact ⟨by first | rfl | simp, below_call HB2.out hE.1⟩
set_option maxRecDepth 100000 in
set_option maxHeartbeats 4000000 in
theorem lawKnows7_any (C : EntC) (v : Value) (c : Int) (hc : 0 ≤ c ∧ c ≤ 18446744073709551615) (w : World) (hg : ErrT w) (ha : entArg w v) : Calls Tryd.prog 4 #[v, .int .u64 c] w (IsEnd true w) := by
  obtain ⟨r, m, s, rfl, hm, hsane, hs⟩ := ha
  have KA := Lib.hid (fun W h => alive7_any C W h)
  have HG := Lib.hid hg; clear hg
  rcases hs with ⟨q, n, cap, rfl, hn⟩ | ⟨H, hl, h64, hi⟩
  · have i3 : (60 : Int) < (n : Int) := by omega
    have hb := below_new w (.cells #[.int .u64 r, .int .u64 m, .slice q n cap] 26)
    have HG1 := Lib.hid (HG.out.here hb)
    have HB1 := Lib.hid hb; clear hb C hsane hn
    go_enter Tryd.func4, Tryd.ntmps4
    go_wp2_with fail
    refine (KA.out _ HG1.out).mono ?_
    rintro e w2 ⟨rfl, h⟩
    have HB2 := Lib.hid (below_call HB1.out h); clear h
    go_wp2_with fail
    go_ret
    exact ⟨rfl, HB2.out⟩
  · obtain ⟨p, cap, rfl, _⟩ := hi.shape
    have i3 : ¬ (60 : Int) < (H.length : Int) := by omega
    have hb := below_new w (.cells #[.int .u64 r, .int .u64 m, .slice p H.length cap] 26)
    have HE0 := Lib.hid (E3.new w r m (.slice p H.length cap) 26 _ rfl)
    have HA0 : Hid (AnyAt (w.alloc (.cells #[.int .u64 r, .int .u64 m, .slice p H.length cap] 26)) (.slice p H.length cap) m H) := Lib.hid ⟨hi.call hb, h64, hsane, hm.1, hm.2, by omega⟩
    have HAw : Hid (AnyAt w (.slice p H.length cap) m H) := Lib.hid ⟨hi, h64, hsane, hm.1, hm.2, by omega⟩
    have HG0 := Lib.hid (HG.out.here hb)
    have HB0 := Lib.hid hb; clear hb hi
    have HC := Lib.hid C; clear C
    have K0 := Lib.hid (fun W (h : AnyAt W (.slice p H.length cap) m H) => refRightE_any r m H (.slice p H.length cap) W h.at' h.all)
    cases ho : okN m H with
    | false =>
      rw [ho] at K0
      clear ho HC
      go_enter Tryd.func4, Tryd.ntmps4
      go_wp2_with fail
      obtain ⟨e0, e1, e2⟩ := HE0.out
      refine (K0.out _ HA0.out).mono ?_
      rintro e w1 ⟨rfl, h⟩
      clear e0 e1 e2
      have HE1 := Lib.hid (HE0.out.call h); have HA1 := Lib.hid (HA0.out.call h); have HG1 := Lib.hid (HG0.out.here h); have HB1 := Lib.hid (below_call HB0.out h)
      clear h
      obtain ⟨e0, e1, e2⟩ := HE1.out
      go_wp2_with fail
      refine (KA.out _ HG1.out).mono ?_
      rintro e w2 ⟨rfl, h⟩
      clear e0 e1 e2
      have HE2 := Lib.hid (HE1.out.call h); have HA2 := Lib.hid (HA1.out.call h); have HG2 := Lib.hid (HG1.out.here h); have HB2 := Lib.hid (below_call HB1.out h)
      clear h
      obtain ⟨e0, e1, e2⟩ := HE2.out
      go_wp2_with fail
      go_ret
      exact ⟨rfl, HB2.out⟩
    | true =>
      have HGD := Lib.hid ((okN_iff h64 hm).1 ho)
      rw [ho] at K0
      clear ho
      have K1 := Lib.hid (fun W hg (h : AnyAt W (.slice p H.length cap) m H) => HC.out.known r m H (.slice p H.length cap) W hg ⟨h, HGD.out⟩)
      have K2 := Lib.hid (fun W hg (h : AnyAt W (.slice p H.length cap) m H) => HC.out.has r m H (.slice p H.length cap) c W hg ⟨h, HGD.out⟩ hc.1 hc.2)
      have K3 := Lib.hid (fun W (h : AnyAt W (.slice p H.length cap) m H) => refHasE_any r m H (.slice p H.length cap) c W h.at')
      have K4 := Lib.hid (fun W (h : AnyAt W (.slice p H.length cap) m H) => refKnown_any r m H (.slice p H.length cap) W (EntAt.op ⟨h, HGD.out⟩) HGD.out)
      have K5 := Lib.hid (fun (a b : Value) W (h1 : IvsAt W a (knownL m H)) (h2 : IvsAt W b (knownL m H)) => (decide_eq_true (rfl : knownL m H = knownL m H)) ▸ refSame_any _ _ a b W h1 h2)
      have K6 := Lib.hid (fun (a : Value) W (h1 : IvsAt W a (knownL m H)) => hasLR7 _ a c _ W h1 (known_has HGD.out hc.1))
      have hkl := known_len (m := m) (H := H)
      have hkl2 : (knownL m H).length ≤ 1048576 := by omega
      clear hkl
      generalize hasE m H c = b at *
      generalize knownL m H = KL at *
      go_enter Tryd.func4, Tryd.ntmps4
      go_wp2_with fail
      obtain ⟨e0, e1, e2⟩ := HE0.out
      refine (K0.out _ HA0.out).mono ?_
      rintro e w1 ⟨rfl, h⟩
      clear e0 e1 e2
      have HE1 := Lib.hid (HE0.out.call h); have HA1 := Lib.hid (HA0.out.call h); have HG1 := Lib.hid (HG0.out.here h); have HB1 := Lib.hid (below_call HB0.out h)
      clear h
      obtain ⟨e0, e1, e2⟩ := HE1.out
      go_wp2_with fail
      refine (K1.out _ HG1.out HA1.out).mono ?_
      rintro e w2 ⟨v1, rfl, hv, hsv, _, h⟩
      clear e0 e1 e2
      have HE2 := Lib.hid (HE1.out.call h); have HA2 := Lib.hid (HA1.out.call h); have HG2 := Lib.hid (HG1.out.here h); have HB2 := Lib.hid (below_call HB1.out h)
      clear h
      obtain ⟨e0, e1, e2⟩ := HE2.out
      obtain ⟨pv, cv, rfl, _⟩ := hv.shape
      have HV := Lib.hid hv; clear hv hsv
      go_wp2_with fail
      have HS := Lib.hid (r1_drew ⟨Below.refl w2.heap.size w2, e0, e1, e2⟩)
      go_region_held3 (fun w' => Below w2.heap.size w2 w' ∧ w'.cell? ⟨w.heap.size, 0, none⟩ = some (.int .u64 r) ∧ w'.cell? ⟨w.heap.size, 1, none⟩ = some (.int .u64 m) ∧ w'.cell? ⟨w.heap.size, 2, none⟩ = some (.slice p H.length cap))
        (first
          | exact r1_call (by assumption) (by assumption)
          | exact HS.out
          | exact r1_drew (by assumption)
          | assumption)
        (first
          | (go_at_call 9; refine (KA.out _ (HG2.out.here (r1_below (by assumption)))).mono ?_; rintro en w' ⟨rfl, h'⟩; have h' := Lib.hid h')
          | (go_at_call 18; refine (K2.out _ (HG2.out.here (r1_below (by assumption))) (HA2.out.call (r1_below (by assumption)))).mono ?_; rintro en w' ⟨rfl, h'⟩; have h' := Lib.hid h')
          | (go_at_call 19; refine (K3.out _ (HA2.out.call (r1_below (by assumption)))).mono ?_; rintro en w' ⟨rfl, h'⟩; have h' := Lib.hid h')
          | (go_at_call 21; refine (K4.out _ (HA2.out.call (r1_below (by assumption)))).mono ?_; rintro en w' ⟨vk, rfl, hvk, h'⟩; have HVK := Lib.hid (OwnL.ivs hvk hkl2); clear hvk; have h' := Lib.hid h')
          | (go_at_call 20; refine (K5.out _ _ _ (HV.out.call (r1_below (by assumption))) HVK.out).mono ?_; rintro en w' ⟨rfl, h'⟩; have h' := Lib.hid h')
          | (go_at_call 22; refine (K6.out _ _ (HV.out.call (r1_below (by assumption)))).mono ?_; rintro en w' ⟨rfl, h'⟩; have h' := Lib.hid h'))
      all_goals
        rename_i hE
        go_wp2_with fail
        go_ret
        exact ⟨by first | rfl | simp, below_call HB2.out hE.1⟩
set_option maxRecDepth 100000 in
set_option maxHeartbeats 4000000 in
theorem lawCanon7_any (C : EntC) (v : Value) (w : World) (hg : ErrT w) (ha : entArg w v) : Calls Tryd.prog 6 #[v] w (IsEnd true w) := by
  obtain ⟨r, m, s, rfl, hm, hsane, hs⟩ := ha
  have KA := Lib.hid (fun W h => alive7_any C W h)
  have HG := Lib.hid hg; clear hg
  rcases hs with ⟨q, n, cap, rfl, hn⟩ | ⟨H, hl, h64, hi⟩
  · have i3 : (60 : Int) < (n : Int) := by omega
    have hb := below_new w (.cells #[.int .u64 r, .int .u64 m, .slice q n cap] 26)
    have HG1 := Lib.hid (HG.out.here hb)
    have HB1 := Lib.hid hb; clear hb C hsane hn
    go_enter Tryd.func6, Tryd.ntmps6
    go_wp2_with fail
    refine (KA.out _ HG1.out).mono ?_
    rintro e w2 ⟨rfl, h⟩
    have HB2 := Lib.hid (below_call HB1.out h); clear h
    go_wp2_with fail
    go_ret
    exact ⟨rfl, HB2.out⟩
  · obtain ⟨p, cap, rfl, _⟩ := hi.shape
    have i3 : ¬ (60 : Int) < (H.length : Int) := by omega
    have hb := below_new w (.cells #[.int .u64 r, .int .u64 m, .slice p H.length cap] 26)
    have HE0 := Lib.hid (E3.new w r m (.slice p H.length cap) 26 _ rfl)
    have HA0 : Hid (AnyAt (w.alloc (.cells #[.int .u64 r, .int .u64 m, .slice p H.length cap] 26)) (.slice p H.length cap) m H) := Lib.hid ⟨hi.call hb, h64, hsane, hm.1, hm.2, by omega⟩
    have HAw : Hid (AnyAt w (.slice p H.length cap) m H) := Lib.hid ⟨hi, h64, hsane, hm.1, hm.2, by omega⟩
    have HG0 := Lib.hid (HG.out.here hb)
    have HB0 := Lib.hid hb; clear hb hi
    have HC := Lib.hid C; clear C
    have K0 := Lib.hid (fun W (h : AnyAt W (.slice p H.length cap) m H) => refRightE_any r m H (.slice p H.length cap) W h.at' h.all)
    cases ho : okN m H with
    | false =>
      rw [ho] at K0
      clear ho HC
      go_enter Tryd.func6, Tryd.ntmps6
      go_wp2_with fail
      obtain ⟨e0, e1, e2⟩ := HE0.out
      refine (K0.out _ HA0.out).mono ?_
      rintro e w1 ⟨rfl, h⟩
      clear e0 e1 e2
      have HE1 := Lib.hid (HE0.out.call h); have HA1 := Lib.hid (HA0.out.call h); have HG1 := Lib.hid (HG0.out.here h); have HB1 := Lib.hid (below_call HB0.out h)
      clear h
      obtain ⟨e0, e1, e2⟩ := HE1.out
      go_wp2_with fail
      refine (KA.out _ HG1.out).mono ?_
      rintro e w2 ⟨rfl, h⟩
      clear e0 e1 e2
      have HE2 := Lib.hid (HE1.out.call h); have HA2 := Lib.hid (HA1.out.call h); have HG2 := Lib.hid (HG1.out.here h); have HB2 := Lib.hid (below_call HB1.out h)
      clear h
      obtain ⟨e0, e1, e2⟩ := HE2.out
      go_wp2_with fail
      go_ret
      exact ⟨rfl, HB2.out⟩
    | true =>
      have HGD := Lib.hid ((okN_iff h64 hm).1 ho)
      rw [ho] at K0
      clear ho
      by_cases hKL : knownL m H = []
      · skip
        have K1 := Lib.hid (fun W hg (h : AnyAt W (.slice p H.length cap) m H) => HC.out.canon r m H (.slice p H.length cap) W hg ⟨h, HGD.out⟩)
        have K2 := Lib.hid (fun W (h : AnyAt W (.slice p H.length cap) m H) => refCanon_any r m H (.slice p H.length cap) W (EntAt.op ⟨h, HGD.out⟩) HGD.out (by omega))
        have hkl := known_len (m := m) (H := H)
        have hkg := known_good HGD.out
        have KN := Lib.hid (fun W hg (h : AnyAt W (.slice p H.length cap) m H) => HC.out.known r m H (.slice p H.length cap) W hg ⟨h, HGD.out⟩)
        unfold IsEO at K1; unfold IsOf at K2; unfold IsKn at KN
        rw [hKL] at K1 K2 KN
        rw [show repE r [] = 0 from rfl, show topL [] = 0 from rfl, show someE [] = false from rfl, show holesL [] = [] from rfl] at K1 K2
        have K3 := Lib.hid (fun (a b : Value) W (h1 : IvsAt W a ([] : List Iv)) (h2 : IvsAt W b ([] : List Iv)) => (decide_eq_true (⟨rfl, rfl, rfl⟩ : (0 : Int) = (0 : Int) ∧ (0 : Int) = (0 : Int) ∧ ([] : List Iv) = ([] : List Iv))) ▸ refSameE_any (0 : Int) (0 : Int) (0 : Int) (0 : Int) _ _ a b W h1 h2)
        clear hkl hkg hKL
        go_enter Tryd.func6, Tryd.ntmps6
        go_wp2_with fail
        obtain ⟨e0, e1, e2⟩ := HE0.out
        refine (K0.out _ HA0.out).mono ?_
        rintro e w1 ⟨rfl, h⟩
        clear e0 e1 e2
        have HE1 := Lib.hid (HE0.out.call h); have HA1 := Lib.hid (HA0.out.call h); have HG1 := Lib.hid (HG0.out.here h); have HB1 := Lib.hid (below_call HB0.out h)
        clear h
        obtain ⟨e0, e1, e2⟩ := HE1.out
        go_wp2_with fail
        refine (K1.out _ HG1.out HA1.out).mono ?_
        rintro e w2 ⟨v1, rfl, hv1, _, _, h⟩
        clear e0 e1 e2
        have HE2 := Lib.hid (HE1.out.call h); have HA2 := Lib.hid (HA1.out.call h); have HG2 := Lib.hid (HG1.out.here h); have HB2 := Lib.hid (below_call HB1.out h)
        obtain ⟨pv1, cv1, rfl, _⟩ := hv1.shape
        clear h
        obtain ⟨e0, e1, e2⟩ := HE2.out
        have HV1_2 := Lib.hid hv1; clear hv1
        have h := below_new w2 (.cells #[.int .u64 0, .int .u64 0, .slice pv1 0 cv1] 26)
        clear e0 e1 e2
        have HE3 := Lib.hid (HE2.out.call h); have HA3 := Lib.hid (HA2.out.call h); have HG3 := Lib.hid (HG2.out.here h); have HB3 := Lib.hid (below_call HB2.out h)
        have HV1_3 := Lib.hid (HV1_2.out.call h)
        clear h
        obtain ⟨e0, e1, e2⟩ := HE3.out
        have HX_3 := Lib.hid (E3.new w2 0 0 (.slice pv1 0 cv1) 26 _ rfl)
        go_wp2_with fail
        refine (K2.out _ HA3.out).mono ?_
        rintro e w4 ⟨v2, rfl, hv2, _, h⟩
        clear e0 e1 e2
        have HE4 := Lib.hid (HE3.out.call h); have HA4 := Lib.hid (HA3.out.call h); have HG4 := Lib.hid (HG3.out.here h); have HB4 := Lib.hid (below_call HB3.out h)
        have HV1_4 := Lib.hid (HV1_3.out.call h)
        have HX_4 := Lib.hid (HX_3.out.call h)
        obtain ⟨pv2, cv2, rfl, _⟩ := hv2.shape
        clear h
        obtain ⟨e0, e1, e2⟩ := HE4.out
        have HV2_4 := Lib.hid hv2; clear hv2
        have h := below_new w4 (.cells #[.int .u64 0, .int .u64 0, .slice pv2 0 cv2] 26)
        clear e0 e1 e2
        have HE5 := Lib.hid (HE4.out.call h); have HA5 := Lib.hid (HA4.out.call h); have HG5 := Lib.hid (HG4.out.here h); have HB5 := Lib.hid (below_call HB4.out h)
        have HV1_5 := Lib.hid (HV1_4.out.call h)
        have HX_5 := Lib.hid (HX_4.out.call h)
        have HV2_5 := Lib.hid (HV2_4.out.call h)
        clear h
        obtain ⟨e0, e1, e2⟩ := HE5.out
        have HY_5 := Lib.hid (E3.new w4 0 0 (.slice pv2 0 cv2) 26 _ rfl)
        obtain ⟨x0, x1, x2⟩ := HX_5.out
        go_wp2_with fail
        refine (K3.out _ _ _ HV1_5.out HV2_5.out).mono ?_
        rintro e w6 ⟨rfl, h⟩
        clear e0 e1 e2
        have HE6 := Lib.hid (HE5.out.call h); have HA6 := Lib.hid (HA5.out.call h); have HG6 := Lib.hid (HG5.out.here h); have HB6 := Lib.hid (below_call HB5.out h)
        have HV1_6 := Lib.hid (HV1_5.out.call h)
        have HX_6 := Lib.hid (HX_5.out.call h)
        have HV2_6 := Lib.hid (HV2_5.out.call h)
        have HY_6 := Lib.hid (HY_5.out.call h)
        clear x0 x1 x2
        clear h
        obtain ⟨e0, e1, e2⟩ := HE6.out
        go_wp2_with fail
        refine (KA.out _ HG6.out).mono ?_
        rintro e w7 ⟨rfl, h⟩
        clear e0 e1 e2
        have HE7 := Lib.hid (HE6.out.call h); have HA7 := Lib.hid (HA6.out.call h); have HG7 := Lib.hid (HG6.out.here h); have HB7 := Lib.hid (below_call HB6.out h)
        have HV1_7 := Lib.hid (HV1_6.out.call h)
        have HX_7 := Lib.hid (HX_6.out.call h)
        have HV2_7 := Lib.hid (HV2_6.out.call h)
        have HY_7 := Lib.hid (HY_6.out.call h)
        clear h
        obtain ⟨e0, e1, e2⟩ := HE7.out
        go_wp2_with fail
        refine (KN.out _ HG7.out HA7.out).mono ?_
        rintro e w8 ⟨v3, rfl, hv3, _, _, h⟩
        clear e0 e1 e2
        have HE8 := Lib.hid (HE7.out.call h); have HA8 := Lib.hid (HA7.out.call h); have HG8 := Lib.hid (HG7.out.here h); have HB8 := Lib.hid (below_call HB7.out h)
        have HV1_8 := Lib.hid (HV1_7.out.call h)
        have HX_8 := Lib.hid (HX_7.out.call h)
        have HV2_8 := Lib.hid (HV2_7.out.call h)
        have HY_8 := Lib.hid (HY_7.out.call h)
        obtain ⟨pv3, cv3, rfl, _⟩ := hv3.shape
        clear h
        obtain ⟨e0, e1, e2⟩ := HE8.out
        go_wp2_with fail
        go_ret
        exact ⟨rfl, HB8.out⟩
      · skip
        have K1 := Lib.hid (fun W hg (h : AnyAt W (.slice p H.length cap) m H) => HC.out.canon r m H (.slice p H.length cap) W hg ⟨h, HGD.out⟩)
        have K2 := Lib.hid (fun W (h : AnyAt W (.slice p H.length cap) m H) => refCanon_any r m H (.slice p H.length cap) W (EntAt.op ⟨h, HGD.out⟩) HGD.out (by omega))
        have hkl := known_len (m := m) (H := H)
        have hkg := known_good HGD.out
        have hof := of_good hkg hKL
        have hoc := of_canon hkg hKL
        have hok := of_known hkg hKL
        have hhl := holes_len (L := knownL m H)
        have hco : decide (r = r ∧ topL (knownL m H) = m ∧ holesL (knownL m H) = H) = canonB m H := by
          cases hcb : canonB m H with
          | true => obtain ⟨_, h1, h2⟩ := canon_of HGD.out hcb; simp [h1, h2]
          | false =>
            rw [decide_eq_false]
            rintro ⟨_, h1, _⟩
            rw [canon_only HGD.out hKL h1] at hcb
            cases hcb
        have K4 := Lib.hid (fun (s : Value) W hg (h : AnyAt W s (topL (knownL m H)) (holesL (knownL m H))) => HC.out.canon r (topL (knownL m H)) (holesL (knownL m H)) s W hg ⟨h, hof⟩)
        have K5 := Lib.hid (fun (s : Value) W hg (h : AnyAt W s (topL (knownL m H)) (holesL (knownL m H))) => HC.out.canonical r (topL (knownL m H)) (holesL (knownL m H)) s W hg h)
        have K6 := Lib.hid (fun (s : Value) W hg (h : AnyAt W s (topL (knownL m H)) (holesL (knownL m H))) (h' : AnyAt W (.slice p H.length cap) m H) => HC.out.same r (topL (knownL m H)) r m (holesL (knownL m H)) H s (.slice p H.length cap) W hg h h')
        have K7 := Lib.hid (fun W hg (h : AnyAt W (.slice p H.length cap) m H) => HC.out.canonical r m H (.slice p H.length cap) W hg h)
        have HALL := Lib.hid (And.intro hof.good.all (And.intro hof.low hof.top))
        have HLEN := Lib.hid (show (holesL (knownL m H)).length ≤ 300 by omega)
        rw [okN_good hof, hoc] at K5
        rw [okN_good HGD.out] at K7
        rw [hco] at K6
        unfold IsEO at K1 K4; unfold IsOf at K2
        rw [hok] at K4
        rw [show repE r (knownL m H) = r from by simp [repE, hKL], show someE (knownL m H) = true from by unfold someE; cases hk : knownL m H with | nil => exact absurd hk hKL | cons _ _ => rfl] at K1 K2 K4
        clear hkl hkg hof hoc hok hhl hco hKL
        generalize topL (knownL m H) = tt at *
        generalize holesL (knownL m H) = G at *
        generalize canonB m H = cb at *
        have K3 := Lib.hid (fun (a b : Value) W (h1 : IvsAt W a G) (h2 : IvsAt W b G) => (decide_eq_true (⟨rfl, rfl, rfl⟩ : r = r ∧ tt = tt ∧ G = G)) ▸ refSameE_any r tt r tt _ _ a b W h1 h2)
        go_enter Tryd.func6, Tryd.ntmps6
        go_wp2_with fail
        obtain ⟨e0, e1, e2⟩ := HE0.out
        refine (K0.out _ HA0.out).mono ?_
        rintro e w1 ⟨rfl, h⟩
        clear e0 e1 e2
        have HE1 := Lib.hid (HE0.out.call h); have HA1 := Lib.hid (HA0.out.call h); have HG1 := Lib.hid (HG0.out.here h); have HB1 := Lib.hid (below_call HB0.out h)
        clear h
        obtain ⟨e0, e1, e2⟩ := HE1.out
        go_wp2_with fail
        refine (K1.out _ HG1.out HA1.out).mono ?_
        rintro e w2 ⟨v1, rfl, hv1, hsv1, _, h⟩
        clear e0 e1 e2
        have HE2 := Lib.hid (HE1.out.call h); have HA2 := Lib.hid (HA1.out.call h); have HG2 := Lib.hid (HG1.out.here h); have HB2 := Lib.hid (below_call HB1.out h)
        obtain ⟨pv1, cv1, rfl, _⟩ := hv1.shape
        have HSV1 := Lib.hid hsv1; clear hsv1
        clear h
        obtain ⟨e0, e1, e2⟩ := HE2.out
        have HV1_2 := Lib.hid hv1; clear hv1
        have h := below_new w2 (.cells #[.int .u64 r, .int .u64 tt, .slice pv1 G.length cv1] 26)
        clear e0 e1 e2
        have HE3 := Lib.hid (HE2.out.call h); have HA3 := Lib.hid (HA2.out.call h); have HG3 := Lib.hid (HG2.out.here h); have HB3 := Lib.hid (below_call HB2.out h)
        have HV1_3 := Lib.hid (HV1_2.out.call h)
        clear h
        obtain ⟨e0, e1, e2⟩ := HE3.out
        have HX_3 := Lib.hid (E3.new w2 r tt (.slice pv1 G.length cv1) 26 _ rfl)
        go_wp2_with fail
        refine (K2.out _ HA3.out).mono ?_
        rintro e w4 ⟨v2, rfl, hv2, _, h⟩
        clear e0 e1 e2
        have HE4 := Lib.hid (HE3.out.call h); have HA4 := Lib.hid (HA3.out.call h); have HG4 := Lib.hid (HG3.out.here h); have HB4 := Lib.hid (below_call HB3.out h)
        have HV1_4 := Lib.hid (HV1_3.out.call h)
        have HX_4 := Lib.hid (HX_3.out.call h)
        obtain ⟨pv2, cv2, rfl, _⟩ := hv2.shape
        clear h
        obtain ⟨e0, e1, e2⟩ := HE4.out
        have HV2_4 := Lib.hid hv2; clear hv2
        have h := below_new w4 (.cells #[.int .u64 r, .int .u64 tt, .slice pv2 G.length cv2] 26)
        clear e0 e1 e2
        have HE5 := Lib.hid (HE4.out.call h); have HA5 := Lib.hid (HA4.out.call h); have HG5 := Lib.hid (HG4.out.here h); have HB5 := Lib.hid (below_call HB4.out h)
        have HV1_5 := Lib.hid (HV1_4.out.call h)
        have HX_5 := Lib.hid (HX_4.out.call h)
        have HV2_5 := Lib.hid (HV2_4.out.call h)
        clear h
        obtain ⟨e0, e1, e2⟩ := HE5.out
        have HY_5 := Lib.hid (E3.new w4 r tt (.slice pv2 G.length cv2) 26 _ rfl)
        obtain ⟨x0, x1, x2⟩ := HX_5.out
        go_wp2_with fail
        refine (K3.out _ _ _ HV1_5.out HV2_5.out).mono ?_
        rintro e w6 ⟨rfl, h⟩
        clear e0 e1 e2
        have HE6 := Lib.hid (HE5.out.call h); have HA6 := Lib.hid (HA5.out.call h); have HG6 := Lib.hid (HG5.out.here h); have HB6 := Lib.hid (below_call HB5.out h)
        have HV1_6 := Lib.hid (HV1_5.out.call h)
        have HX_6 := Lib.hid (HX_5.out.call h)
        have HV2_6 := Lib.hid (HV2_5.out.call h)
        have HY_6 := Lib.hid (HY_5.out.call h)
        clear x0 x1 x2
        clear h
        obtain ⟨e0, e1, e2⟩ := HE6.out
        obtain ⟨x0, x1, x2⟩ := HX_6.out
        go_wp2_with fail
        refine (K4.out _ _ HG6.out ⟨HV1_6.out, HALL.out.1, HSV1.out, HALL.out.2.1, HALL.out.2.2, HLEN.out⟩).mono ?_
        rintro e w7 ⟨v3, rfl, hv3, _, _, h⟩
        clear e0 e1 e2
        have HE7 := Lib.hid (HE6.out.call h); have HA7 := Lib.hid (HA6.out.call h); have HG7 := Lib.hid (HG6.out.here h); have HB7 := Lib.hid (below_call HB6.out h)
        have HV1_7 := Lib.hid (HV1_6.out.call h)
        have HX_7 := Lib.hid (HX_6.out.call h)
        have HV2_7 := Lib.hid (HV2_6.out.call h)
        have HY_7 := Lib.hid (HY_6.out.call h)
        clear x0 x1 x2
        obtain ⟨pv3, cv3, rfl, _⟩ := hv3.shape
        clear h
        obtain ⟨e0, e1, e2⟩ := HE7.out
        have HV3_7 := Lib.hid hv3; clear hv3
        go_wp2_with fail
        have h := below_new w7 (.cells #[.int .u64 r, .int .u64 tt, .slice pv3 G.length cv3] 26)
        clear e0 e1 e2
        have HE8 := Lib.hid (HE7.out.call h); have HA8 := Lib.hid (HA7.out.call h); have HG8 := Lib.hid (HG7.out.here h); have HB8 := Lib.hid (below_call HB7.out h)
        have HV1_8 := Lib.hid (HV1_7.out.call h)
        have HX_8 := Lib.hid (HX_7.out.call h)
        have HV2_8 := Lib.hid (HV2_7.out.call h)
        have HY_8 := Lib.hid (HY_7.out.call h)
        have HV3_8 := Lib.hid (HV3_7.out.call h)
        clear h
        obtain ⟨e0, e1, e2⟩ := HE8.out
        obtain ⟨x0, x1, x2⟩ := HX_8.out
        obtain ⟨z0, z1, z2⟩ := E3.new w7 r tt (.slice pv3 G.length cv3) 26 _ rfl
        generalize w7.alloc (.cells #[.int .u64 r, .int .u64 tt, .slice pv3 G.length cv3] 26) = w8 at *
        have HS := Lib.hid (r9_drew ⟨Below.refl w8.heap.size w8, e0, e1, e2, x0, x1, x2, z0, z1, z2⟩)
        go_region_held3 (fun w' => Below w8.heap.size w8 w' ∧ w'.cell? ⟨w.heap.size, 0, none⟩ = some (.int .u64 r) ∧ w'.cell? ⟨w.heap.size, 1, none⟩ = some (.int .u64 m) ∧ w'.cell? ⟨w.heap.size, 2, none⟩ = some (.slice p H.length cap) ∧ w'.cell? ⟨w2.heap.size, 0, none⟩ = some (.int .u64 r) ∧ w'.cell? ⟨w2.heap.size, 1, none⟩ = some (.int .u64 tt) ∧ w'.cell? ⟨w2.heap.size, 2, none⟩ = some (.slice pv1 G.length cv1) ∧ w'.cell? ⟨w7.heap.size, 0, none⟩ = some (.int .u64 r) ∧ w'.cell? ⟨w7.heap.size, 1, none⟩ = some (.int .u64 tt) ∧ w'.cell? ⟨w7.heap.size, 2, none⟩ = some (.slice pv3 G.length cv3))
          (first
            | exact r9_call (by assumption) (by assumption)
            | exact HS.out
            | exact r9_drew (by assumption)
            | assumption)
          (first
            | (go_at_call 9; refine (KA.out _ (HG8.out.here (r9_below (by assumption)))).mono ?_; rintro en w' ⟨rfl, h'⟩; have h' := Lib.hid h')
            | (go_at_call 26; refine (K3.out _ _ _ (HV3_8.out.call (r9_below (by assumption))) (HV1_8.out.call (r9_below (by assumption)))).mono ?_; rintro en w' ⟨rfl, h'⟩; have h' := Lib.hid h')
            | (go_at_call 14; (with_reducible change Calls _ _ #[.agg #[.int .u64 r, .int .u64 tt, .slice pv1 G.length cv1]] _ _); refine (K5.out _ _ (HG8.out.here (r9_below (by assumption))) ⟨HV1_8.out.call (r9_below (by assumption)), HALL.out.1, HSV1.out, HALL.out.2.1, HALL.out.2.2, HLEN.out⟩).mono ?_; rintro en w' ⟨rfl, h'⟩; have h' := Lib.hid h')
            | (go_at_call 14; (with_reducible change Calls _ _ #[.agg #[.int .u64 r, .int .u64 m, .slice p H.length cap]] _ _); refine (K7.out _ (HG8.out.here (r9_below (by assumption))) (HA8.out.call (r9_below (by assumption)))).mono ?_; rintro en w' ⟨rfl, h'⟩; have h' := Lib.hid h')
            | (go_at_call 29; refine (K6.out _ _ (HG8.out.here (r9_below (by assumption))) ⟨HV1_8.out.call (r9_below (by assumption)), HALL.out.1, HSV1.out, HALL.out.2.1, HALL.out.2.2, HLEN.out⟩ (HA8.out.call (r9_below (by assumption)))).mono ?_; rintro en w' ⟨rfl, h'⟩; have h' := Lib.hid h'))
        all_goals
          rename_i hE
          go_wp2_with fail
          go_ret
          exact ⟨by first | rfl | simp, below_call HB8.out hE.1⟩
set_option maxRecDepth 100000 in
set_option maxHeartbeats 4000000 in
theorem lawOf7_any (C : EntC) (rep : Int) (s : Value) (w : World) (hg : ErrT w) (hsv : SaneE s) (ha : okArg w s ∨ badArg w s) : Calls Tryd.prog 5 #[.int .u64 rep, s] w (IsEnd true w) := by
  have KA := Lib.hid (fun W h => alive7_any C W h)
  have HG0 := Lib.hid hg; clear hg
  have HB0 := Lib.hid (Below.refl w.heap.size w)
  rcases ha with ha | ha
  · obtain ⟨p, n0, cap, hsh, h60, hR⟩ := ha.right
    obtain ⟨L, hi, hgL, hl⟩ := ha
    subst hsh
    obtain ⟨p', cap', e0, _⟩ := hi.shape
    cases e0
    have i3 : ¬ (60 : Int) < (L.length : Int) := by omega
    have HL_0 : Hid (LstAt w (.slice p L.length cap) L) := Lib.hid ⟨hi, hgL, hsv, by omega⟩
    have HC := Lib.hid C; clear C hi hsv
    have K1 := Lib.hid (fun W hg (h : LstAt W (.slice p L.length cap) L) => HC.out.of' rep L (.slice p L.length cap) W hg h)
    have K2 := Lib.hid (fun W (h : OpAt W (.slice p L.length cap) L) => refOf_any rep L (.slice p L.length cap) W h)
    unfold IsEO at K1; unfold IsOf at K2
    by_cases hKL : L = []
    · skip
      subst hKL
      rw [show repE rep [] = 0 from rfl, show topL [] = 0 from rfl, show someE [] = false from rfl, show holesL [] = [] from rfl] at K1 K2
      have K3 := Lib.hid (fun (a b : Value) W (h1 : IvsAt W a ([] : List Iv)) (h2 : IvsAt W b ([] : List Iv)) => (decide_eq_true (⟨rfl, rfl, rfl⟩ : (0 : Int) = (0 : Int) ∧ (0 : Int) = (0 : Int) ∧ ([] : List Iv) = ([] : List Iv))) ▸ refSameE_any (0 : Int) (0 : Int) (0 : Int) (0 : Int) _ _ a b W h1 h2)
      go_enter Tryd.func5, Tryd.ntmps5
      go_wp2_with fail
      refine (hR _ (Below.refl _ _)).mono ?_
      rintro e w1 ⟨rfl, h⟩
      clear hR
      have HG1 := Lib.hid (HG0.out.here h); have HB1 := Lib.hid (below_call HB0.out h)
      have HL_1 := Lib.hid (HL_0.out.call h)
      clear h
      go_wp2_with fail
      refine (K1.out _ HG1.out HL_1.out).mono ?_
      rintro e w2 ⟨v1, rfl, hv1, hsv1, _, h⟩
      obtain ⟨pv1, cv1, rfl, _⟩ := hv1.shape
      have HSV1 := Lib.hid hsv1; clear hsv1
      have HG2 := Lib.hid (HG1.out.here h); have HB2 := Lib.hid (below_call HB1.out h)
      have HL_2 := Lib.hid (HL_1.out.call h)
      clear h
      have HV1_2 := Lib.hid hv1; clear hv1
      have hX := E3.new w2 0 0 (.slice pv1 0 cv1) 26 _ rfl
      have h := below_new w2 (.cells #[.int .u64 0, .int .u64 0, .slice pv1 0 cv1] 26)
      have HG3 := Lib.hid (HG2.out.here h); have HB3 := Lib.hid (below_call HB2.out h)
      have HL_3 := Lib.hid (HL_2.out.call h)
      have HV1_3 := Lib.hid (HV1_2.out.call h)
      clear h
      have HX_3 := Lib.hid hX; clear hX
      go_wp2_with fail
      refine (K2.out _ HL_3.out.op).mono ?_
      rintro e w4 ⟨v2, rfl, hv2, _, h⟩
      obtain ⟨pv2, cv2, rfl, _⟩ := hv2.shape
      have HG4 := Lib.hid (HG3.out.here h); have HB4 := Lib.hid (below_call HB3.out h)
      have HL_4 := Lib.hid (HL_3.out.call h)
      have HV1_4 := Lib.hid (HV1_3.out.call h)
      have HX_4 := Lib.hid (HX_3.out.call h)
      clear h
      obtain ⟨x0, x1, x2⟩ := HX_4.out
      have HV2_4 := Lib.hid hv2; clear hv2
      have h := below_new w4 (.cells #[.int .u64 0, .int .u64 0, .slice pv2 0 cv2] 26)
      clear x0 x1 x2
      have HG5 := Lib.hid (HG4.out.here h); have HB5 := Lib.hid (below_call HB4.out h)
      have HL_5 := Lib.hid (HL_4.out.call h)
      have HV1_5 := Lib.hid (HV1_4.out.call h)
      have HX_5 := Lib.hid (HX_4.out.call h)
      have HV2_5 := Lib.hid (HV2_4.out.call h)
      clear h
      obtain ⟨x0, x1, x2⟩ := HX_5.out
      go_wp2_with fail
      refine (K3.out _ _ _ HV1_5.out HV2_5.out).mono ?_
      rintro e w6 ⟨rfl, h⟩
      clear x0 x1 x2
      have HG6 := Lib.hid (HG5.out.here h); have HB6 := Lib.hid (below_call HB5.out h)
      have HL_6 := Lib.hid (HL_5.out.call h)
      have HV1_6 := Lib.hid (HV1_5.out.call h)
      have HX_6 := Lib.hid (HX_5.out.call h)
      have HV2_6 := Lib.hid (HV2_5.out.call h)
      clear h
      obtain ⟨x0, x1, x2⟩ := HX_6.out
      go_wp2_with fail
      refine (KA.out _ HG6.out).mono ?_
      rintro e w7 ⟨rfl, h⟩
      clear x0 x1 x2
      have HG7 := Lib.hid (HG6.out.here h); have HB7 := Lib.hid (below_call HB6.out h)
      have HL_7 := Lib.hid (HL_6.out.call h)
      have HV1_7 := Lib.hid (HV1_6.out.call h)
      have HX_7 := Lib.hid (HX_6.out.call h)
      have HV2_7 := Lib.hid (HV2_6.out.call h)
      clear h
      obtain ⟨x0, x1, x2⟩ := HX_7.out
      go_wp2_with fail
      go_ret
      exact ⟨rfl, HB7.out⟩
    · skip
      have hof := of_good HL_0.out.good hKL
      have hoc := of_canon HL_0.out.good hKL
      have hok := of_known HL_0.out.good hKL
      have hhl := holes_len (L := L)
      have K4 := Lib.hid (fun (s : Value) W hg (h : AnyAt W s (topL L) (holesL L)) => HC.out.canonical rep (topL L) (holesL L) s W hg h)
      have K5 := Lib.hid (fun (s : Value) W hg (h : AnyAt W s (topL L) (holesL L)) => HC.out.known rep (topL L) (holesL L) s W hg ⟨h, hof⟩)
      have K6 := Lib.hid (fun (a b : Value) W (h1 : IvsAt W a L) (h2 : IvsAt W b L) => (decide_eq_true (rfl : L = L)) ▸ refSame_any _ _ a b W h1 h2)
      have HALL := Lib.hid (And.intro hof.good.all (And.intro hof.low hof.top))
      have HLEN := Lib.hid (show (holesL L).length ≤ 300 by omega)
      rw [okN_good hof, hoc] at K4
      unfold IsKn at K5
      rw [hok] at K5
      rw [show repE rep L = rep from by simp [repE, hKL], show someE L = true from by unfold someE; cases hk : L with | nil => exact absurd hk hKL | cons _ _ => rfl] at K1 K2
      clear hof hoc hok hhl hKL
      generalize topL L = tt at *
      generalize holesL L = G at *
      have K3 := Lib.hid (fun (a b : Value) W (h1 : IvsAt W a G) (h2 : IvsAt W b G) => (decide_eq_true (⟨rfl, rfl, rfl⟩ : rep = rep ∧ tt = tt ∧ G = G)) ▸ refSameE_any rep tt rep tt _ _ a b W h1 h2)
      go_enter Tryd.func5, Tryd.ntmps5
      go_wp2_with fail
      refine (hR _ (Below.refl _ _)).mono ?_
      rintro e w1 ⟨rfl, h⟩
      clear hR
      have HG1 := Lib.hid (HG0.out.here h); have HB1 := Lib.hid (below_call HB0.out h)
      have HL_1 := Lib.hid (HL_0.out.call h)
      clear h
      go_wp2_with fail
      refine (K1.out _ HG1.out HL_1.out).mono ?_
      rintro e w2 ⟨v1, rfl, hv1, hsv1, _, h⟩
      obtain ⟨pv1, cv1, rfl, _⟩ := hv1.shape
      have HSV1 := Lib.hid hsv1; clear hsv1
      have HG2 := Lib.hid (HG1.out.here h); have HB2 := Lib.hid (below_call HB1.out h)
      have HL_2 := Lib.hid (HL_1.out.call h)
      clear h
      have HV1_2 := Lib.hid hv1; clear hv1
      have hX := E3.new w2 rep tt (.slice pv1 G.length cv1) 26 _ rfl
      have h := below_new w2 (.cells #[.int .u64 rep, .int .u64 tt, .slice pv1 G.length cv1] 26)
      have HG3 := Lib.hid (HG2.out.here h); have HB3 := Lib.hid (below_call HB2.out h)
      have HL_3 := Lib.hid (HL_2.out.call h)
      have HV1_3 := Lib.hid (HV1_2.out.call h)
      clear h
      have HX_3 := Lib.hid hX; clear hX
      go_wp2_with fail
      refine (K2.out _ HL_3.out.op).mono ?_
      rintro e w4 ⟨v2, rfl, hv2, _, h⟩
      obtain ⟨pv2, cv2, rfl, _⟩ := hv2.shape
      have HG4 := Lib.hid (HG3.out.here h); have HB4 := Lib.hid (below_call HB3.out h)
      have HL_4 := Lib.hid (HL_3.out.call h)
      have HV1_4 := Lib.hid (HV1_3.out.call h)
      have HX_4 := Lib.hid (HX_3.out.call h)
      clear h
      obtain ⟨x0, x1, x2⟩ := HX_4.out
      have HV2_4 := Lib.hid hv2; clear hv2
      have h := below_new w4 (.cells #[.int .u64 rep, .int .u64 tt, .slice pv2 G.length cv2] 26)
      clear x0 x1 x2
      have HG5 := Lib.hid (HG4.out.here h); have HB5 := Lib.hid (below_call HB4.out h)
      have HL_5 := Lib.hid (HL_4.out.call h)
      have HV1_5 := Lib.hid (HV1_4.out.call h)
      have HX_5 := Lib.hid (HX_4.out.call h)
      have HV2_5 := Lib.hid (HV2_4.out.call h)
      clear h
      obtain ⟨x0, x1, x2⟩ := HX_5.out
      go_wp2_with fail
      refine (K3.out _ _ _ HV1_5.out HV2_5.out).mono ?_
      rintro e w6 ⟨rfl, h⟩
      clear x0 x1 x2
      have HG6 := Lib.hid (HG5.out.here h); have HB6 := Lib.hid (below_call HB5.out h)
      have HL_6 := Lib.hid (HL_5.out.call h)
      have HV1_6 := Lib.hid (HV1_5.out.call h)
      have HX_6 := Lib.hid (HX_5.out.call h)
      have HV2_6 := Lib.hid (HV2_5.out.call h)
      clear h
      obtain ⟨x0, x1, x2⟩ := HX_6.out
      go_wp2_with fail
      refine (KA.out _ HG6.out).mono ?_
      rintro e w7 ⟨rfl, h⟩
      clear x0 x1 x2
      have HG7 := Lib.hid (HG6.out.here h); have HB7 := Lib.hid (below_call HB6.out h)
      have HL_7 := Lib.hid (HL_6.out.call h)
      have HV1_7 := Lib.hid (HV1_6.out.call h)
      have HX_7 := Lib.hid (HX_6.out.call h)
      have HV2_7 := Lib.hid (HV2_6.out.call h)
      clear h
      obtain ⟨x0, x1, x2⟩ := HX_7.out
      go_wp2_with fail
      refine (K4.out _ _ HG7.out ⟨HV1_7.out, HALL.out.1, HSV1.out, HALL.out.2.1, HALL.out.2.2, HLEN.out⟩).mono ?_
      rintro e w8 ⟨rfl, h⟩
      clear x0 x1 x2
      have HG8 := Lib.hid (HG7.out.here h); have HB8 := Lib.hid (below_call HB7.out h)
      have HL_8 := Lib.hid (HL_7.out.call h)
      have HV1_8 := Lib.hid (HV1_7.out.call h)
      have HX_8 := Lib.hid (HX_7.out.call h)
      have HV2_8 := Lib.hid (HV2_7.out.call h)
      clear h
      obtain ⟨x0, x1, x2⟩ := HX_8.out
      go_wp2_with fail
      refine (K5.out _ _ HG8.out ⟨HV1_8.out, HALL.out.1, HSV1.out, HALL.out.2.1, HALL.out.2.2, HLEN.out⟩).mono ?_
      rintro e w9 ⟨v3, rfl, hv3, _, _, h⟩
      clear x0 x1 x2
      obtain ⟨pv3, cv3, rfl, _⟩ := hv3.shape
      have HG9 := Lib.hid (HG8.out.here h); have HB9 := Lib.hid (below_call HB8.out h)
      have HL_9 := Lib.hid (HL_8.out.call h)
      have HV1_9 := Lib.hid (HV1_8.out.call h)
      have HX_9 := Lib.hid (HX_8.out.call h)
      have HV2_9 := Lib.hid (HV2_8.out.call h)
      clear h
      obtain ⟨x0, x1, x2⟩ := HX_9.out
      have HV3_9 := Lib.hid hv3; clear hv3
      go_wp2_with fail
      refine (K6.out _ _ _ HV3_9.out HL_9.out.at').mono ?_
      rintro e w10 ⟨rfl, h⟩
      clear x0 x1 x2
      have HG10 := Lib.hid (HG9.out.here h); have HB10 := Lib.hid (below_call HB9.out h)
      have HL_10 := Lib.hid (HL_9.out.call h)
      have HV1_10 := Lib.hid (HV1_9.out.call h)
      have HX_10 := Lib.hid (HX_9.out.call h)
      have HV2_10 := Lib.hid (HV2_9.out.call h)
      have HV3_10 := Lib.hid (HV3_9.out.call h)
      clear h
      obtain ⟨x0, x1, x2⟩ := HX_10.out
      go_wp2_with fail
      go_ret
      exact ⟨rfl, HB10.out⟩
  · obtain ⟨p, n0, cap, rfl, hr⟩ := ha.right
    clear ha C hsv
    rcases hr with hn | ⟨hn, hR⟩
    · have i3 : (60 : Int) < (n0 : Int) := by omega
      go_enter Tryd.func5, Tryd.ntmps5
      go_wp2_with fail
      refine (KA.out _ HG0.out).mono ?_
      rintro e w1 ⟨rfl, h⟩
      have HB1 := Lib.hid h; clear h
      go_wp2_with fail
      go_ret
      exact ⟨rfl, HB1.out⟩
    · have i3 : ¬ (60 : Int) < (n0 : Int) := by omega
      have HR := Lib.hid (hR w (Below.refl _ _)); clear hR
      go_enter Tryd.func5, Tryd.ntmps5
      go_wp2_with fail
      refine HR.out.mono ?_
      rintro e w1 ⟨rfl, h⟩
      have HG1 := Lib.hid (HG0.out.here h)
      have HB1 := Lib.hid h; clear h
      go_wp2_with fail
      refine (KA.out _ HG1.out).mono ?_
      rintro e w2 ⟨rfl, h⟩
      have HB2 := Lib.hid (below_call HB1.out h); clear h
      go_wp2_with fail
      go_ret
      exact ⟨rfl, HB2.out⟩
set_option maxRecDepth 100000 in
set_option maxHeartbeats 4000000 in
theorem lawSame7_any (C : EntC) (v v' : Value) (w : World) (hg : ErrT w) (ha : entArg w v) (ha' : entArg w v') : Calls Tryd.prog 7 #[v, v'] w (IsEnd true w) := by
  obtain ⟨r, m, s, rfl, hm, hsane, hs⟩ := ha
  obtain ⟨r', m', s', rfl, hm', hsane', hs'⟩ := ha'
  have KA := Lib.hid (fun W h => alive7_any C W h)
  have HG0 := Lib.hid hg; clear hg
  have HB0 := Lib.hid (Below.refl w.heap.size w)
  rcases hs with ⟨q, n, cap, rfl, hn⟩ | ⟨H, hl, h64, hi⟩
  · have i3 : (60 : Int) < (n : Int) := by omega
    obtain ⟨p', n', cap', rfl⟩ : ∃ p n c, s' = .slice p n c := by
      rcases hs' with ⟨q, n, cap, rfl, _⟩ | ⟨H', _, _, hi'⟩
      · exact ⟨_, _, _, rfl⟩
      · obtain ⟨p', cap', rfl, _⟩ := hi'.shape; exact ⟨_, _, _, rfl⟩
    clear hs' hsane hsane'
    have hb1 := below_new w (.cells #[.int .u64 r, .int .u64 m, .slice q n cap] 26)
    have hb := below_alloc hb1 (.cells #[.int .u64 r', .int .u64 m', .slice p' n' cap'] 26)
    have HG1 := Lib.hid (HG0.out.here hb)
    have HB1 := Lib.hid hb; clear hb hb1 C
    go_enter Tryd.func7, Tryd.ntmps7
    go_wp2_with fail
    refine (KA.out _ HG1.out).mono ?_
    rintro e w2 ⟨rfl, h⟩
    have HB2 := Lib.hid (below_call HB1.out h); clear h
    go_wp2_with fail
    go_ret
    exact ⟨rfl, HB2.out⟩
  · rcases hs' with ⟨q, n, cap, rfl, hn⟩ | ⟨H', hl', h64', hi'⟩
    · obtain ⟨p, cap0, rfl, _⟩ := hi.shape
      have i3 : ¬ (60 : Int) < (H.length : Int) := by omega
      have i4 : (60 : Int) < (n : Int) := by omega
      clear hi hsane hsane'
      have hb1 := below_new w (.cells #[.int .u64 r, .int .u64 m, .slice p H.length cap0] 26)
      have hb := below_alloc hb1 (.cells #[.int .u64 r', .int .u64 m', .slice q n cap] 26)
      have HG1 := Lib.hid (HG0.out.here hb)
      have HB1 := Lib.hid hb; clear hb hb1 C
      go_enter Tryd.func7, Tryd.ntmps7
      go_wp2_with fail
      refine (KA.out _ HG1.out).mono ?_
      rintro e w2 ⟨rfl, h⟩
      have HB2 := Lib.hid (below_call HB1.out h); clear h
      go_wp2_with fail
      go_ret
      exact ⟨rfl, HB2.out⟩
    · skip
      obtain ⟨p, cap, rfl, _⟩ := hi.shape
      obtain ⟨p', cap', rfl, _⟩ := hi'.shape
      have i3 : ¬ (60 : Int) < (H.length : Int) := by omega
      have i4 : ¬ (60 : Int) < (H'.length : Int) := by omega
      have HC := Lib.hid C; clear C
      have HA_0 : Hid (AnyAt w (.slice p H.length cap) m H) := Lib.hid ⟨hi, h64, hsane, hm.1, hm.2, by omega⟩
      have HD_0 : Hid (AnyAt w (.slice p' H'.length cap') m' H') := Lib.hid ⟨hi', h64', hsane', hm'.1, hm'.2, by omega⟩
      have K1 := Lib.hid (fun W hg (h : AnyAt W (.slice p H.length cap) m H) (h' : AnyAt W (.slice p' H'.length cap') m' H') => HC.out.same r m r' m' H H' _ _ W hg h h')
      have K2 := Lib.hid (fun W (h : AnyAt W (.slice p H.length cap) m H) (h' : AnyAt W (.slice p' H'.length cap') m' H') => refSameE_any r m r' m' H H' _ _ W h.at' h'.at')
      have K3 := Lib.hid (fun W hg (h : AnyAt W (.slice p H.length cap) m H) => (decide_eq_true (⟨rfl, rfl, rfl⟩ : r = r ∧ m = m ∧ H = H)) ▸ HC.out.same r m r m H H _ _ W hg h h)
      generalize decide (r = r' ∧ m = m' ∧ H = H') = b at *
      clear hi hi' h64 h64' hsane hsane'
      have h := below_new w (.cells #[.int .u64 r, .int .u64 m, .slice p H.length cap] 26)
      have hX := E3.new w r m (.slice p H.length cap) 26 _ rfl
      obtain ⟨w1, hw1⟩ : ∃ w1, w.alloc (.cells #[.int .u64 r, .int .u64 m, .slice p H.length cap] 26) = w1 := ⟨_, rfl⟩
      rw [hw1] at h hX
      have HG1 := Lib.hid (HG0.out.here h); have HB1 := Lib.hid (below_call HB0.out h)
      have HA_1 := Lib.hid (HA_0.out.call h)
      have HD_1 := Lib.hid (HD_0.out.call h)
      clear h
      have HX_1 := Lib.hid hX; clear hX
      have h := below_new w1 (.cells #[.int .u64 r', .int .u64 m', .slice p' H'.length cap'] 26)
      have hY := E3.new w1 r' m' (.slice p' H'.length cap') 26 _ rfl
      obtain ⟨w2, hw2⟩ : ∃ w2, w1.alloc (.cells #[.int .u64 r', .int .u64 m', .slice p' H'.length cap'] 26) = w2 := ⟨_, rfl⟩
      rw [hw2] at h hY
      have HG2 := Lib.hid (HG1.out.here h); have HB2 := Lib.hid (below_call HB1.out h)
      have HA_2 := Lib.hid (HA_1.out.call h)
      have HD_2 := Lib.hid (HD_1.out.call h)
      have HX_2 := Lib.hid (HX_1.out.call h)
      clear h
      have HY_2 := Lib.hid hY; clear hY
      obtain ⟨x0, x1, x2⟩ := HX_2.out
      obtain ⟨y0, y1, y2⟩ := HY_2.out
      go_enter Tryd.func7, Tryd.ntmps7
      go_wp2_with fail
      clear hw1 hw2
      have HS := Lib.hid (r6_drew ⟨Below.refl w2.heap.size w2, x0, x1, x2, y0, y1, y2⟩)
      go_region_held3 (fun w' => Below w2.heap.size w2 w' ∧ w'.cell? ⟨w.heap.size, 0, none⟩ = some (.int .u64 r) ∧ w'.cell? ⟨w.heap.size, 1, none⟩ = some (.int .u64 m) ∧ w'.cell? ⟨w.heap.size, 2, none⟩ = some (.slice p H.length cap) ∧ w'.cell? ⟨w1.heap.size, 0, none⟩ = some (.int .u64 r') ∧ w'.cell? ⟨w1.heap.size, 1, none⟩ = some (.int .u64 m') ∧ w'.cell? ⟨w1.heap.size, 2, none⟩ = some (.slice p' H'.length cap'))
        (first
          | exact r6_call (by assumption) (by assumption)
          | exact HS.out
          | exact r6_drew (by assumption)
          | assumption)
        (first
          | (go_at_call 9; refine (KA.out _ (HG2.out.here (r6_below (by assumption)))).mono ?_; rintro en w' ⟨rfl, h'⟩; have h' := Lib.hid h')
          | (go_at_call 26; refine (K2.out _ (HA_2.out.call (r6_below (by assumption))) (HD_2.out.call (r6_below (by assumption)))).mono ?_; rintro en w' ⟨rfl, h'⟩; have h' := Lib.hid h')
          | (go_at_call 29; (with_reducible change Calls _ _ #[.agg #[.int .u64 r, .int .u64 m, .slice p H.length cap], .agg #[.int .u64 r', .int .u64 m', .slice p' H'.length cap']] _ _); refine (K1.out _ (HG2.out.here (r6_below (by assumption))) (HA_2.out.call (r6_below (by assumption))) (HD_2.out.call (r6_below (by assumption)))).mono ?_; rintro en w' ⟨rfl, h'⟩; have h' := Lib.hid h')
          | (go_at_call 29; (with_reducible change Calls _ _ #[.agg #[.int .u64 r, .int .u64 m, .slice p H.length cap], .agg #[.int .u64 r, .int .u64 m, .slice p H.length cap]] _ _); refine (K3.out _ (HG2.out.here (r6_below (by assumption))) (HA_2.out.call (r6_below (by assumption)))).mono ?_; rintro en w' ⟨rfl, h'⟩; have h' := Lib.hid h'))
      all_goals
        rename_i hE
        go_wp2_with fail
        go_ret
        exact ⟨by first | rfl | simp, below_call HB2.out hE.1⟩
end Go.Proofs.YtjnpcpcgigdngaaDoor
