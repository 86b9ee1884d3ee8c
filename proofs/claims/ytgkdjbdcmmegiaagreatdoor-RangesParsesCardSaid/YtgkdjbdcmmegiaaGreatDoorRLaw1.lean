/- The laws RangesCheck and RangesDenotes in every state. Conditions: the lists have at most 60 intervals of 64 bits, or more than 60; the tied variables hold what they do. -/
import Derived.Test.YtgkdjbdcmmegiaaGreatDoorRAlive
namespace Go.Proofs.YtgkdjbdcmmegiaaGreatDoor
open Go.RowKit Go.Shelf

/-- The tied variables. -/
structure GlobR (w : World) : Prop where
  e : ErrT w
  p : PowT w
  r : RngT w
theorem GlobR.here {w w' : World} (h : GlobR w) (hb : Below w.heap.size w w') : GlobR w' := ⟨h.e.here hb, h.p.here hb, h.r.here hb⟩
theorem alive_in (w : World) (h : GlobR w) : Calls Tryz.prog 9 #[] w (IsEnd true w) := alive_any w h.e h.p h.r

set_option maxRecDepth 100000 in
theorem lawCheck_long (p : Option Addr) (n cap : Nat) (w : World) (hg : GlobR w) (hn : 60 < n) :
    Calls Tryz.prog 3 #[.slice p n cap] w (IsEnd true w) := by
  have KA := Lib.hid (alive_in w hg); clear hg
  have hi : (60 : Int) < (n : Int) := by omega
  go_enter Tryz.func3, Tryz.ntmps3
  go_wp2_with fail
  refine KA.out.mono ?_
  rintro e w1 ⟨rfl, h1⟩
  have H1 := Lib.hid h1; clear h1
  go_wp2_with fail
  go_ret
  exact ⟨rfl, H1.out⟩

set_option maxRecDepth 100000 in
theorem lawCheck_any (l : List Iv) (s : Value) (w : World) (hg : GlobR w) (hl : IvsAt w s l) (h64 : All64 l) (hn : l.length ≤ 60) :
    Calls Tryz.prog 3 #[s] w (IsEnd true w) := by
  obtain ⟨p, cap, rfl, _⟩ := hl.shape
  have hi : ¬ (60 : Int) < (l.length : Int) := by omega
  have K1 := Lib.hid (rcheck_any l _ w hg.e hl h64)
  have K2 := Lib.hid (fun W hl => refCheck_any l (.slice p l.length cap) W hl h64)
  have I := Lib.hid hl
  have G := Lib.hid hg
  have KA := Lib.hid alive_in
  clear hl hg h64
  generalize chkV l = cv at K1 K2
  go_enter Tryz.func3, Tryz.ntmps3
  go_wp2_with fail
  refine K1.out.mono ?_
  rintro e w1 ⟨rfl, h1⟩
  have H1 := Lib.hid h1; clear h1
  generalize hev : errV cv = ev
  have HEV := Lib.hid hev; clear hev
  go_wp2_with fail
  refine (K2.out _ (I.out.call H1.out)).mono ?_
  rintro e w2 ⟨rfl, h2⟩
  have H2 := Lib.hid (below_call H1.out h2); clear h2
  go_wp2_with fail
  refine (KA.out _ (G.out.here H2.out)).mono ?_
  rintro e w3 ⟨rfl, h3⟩
  have H3 := Lib.hid (below_call H2.out h3); clear h3
  have K4 := Lib.hid (Code_any cv w3 (G.out.here H3.out).e)
  rw [HEV.out] at K4
  go_wp2_with fail
  refine K4.out.mono ?_
  rintro e w4 ⟨rfl, h4⟩
  have H4 := Lib.hid (below_call H3.out h4); clear h4
  have K5 := Lib.hid (At_any cv w4 (G.out.here H4.out).e)
  rw [HEV.out] at K5
  go_wp2_with fail
  refine K5.out.mono ?_
  rintro e w5 ⟨rfl, h5⟩
  have H5 := Lib.hid (below_call H4.out h5); clear h5
  go_wp2_with fail
  go_ret
  exact ⟨rfl, H5.out⟩
end Go.Proofs.YtgkdjbdcmmegiaaGreatDoor

/- The law RangesDenotes in every state. Conditions: as RangesCheck. -/
namespace Go.Proofs.YtgkdjbdcmmegiaaGreatDoor
open Go.RowKit Go.Shelf

/-- All intervals are in order, or there is a first that is not. -/
theorem first_wrong (l : List Iv) : (∀ y ∈ l, y.1 ≤ y.2) ∨ ∃ (n : Nat) (z : Iv), l[n]? = some z ∧ ¬ z.1 ≤ z.2 ∧ ∀ (j : Nat) y, j < n → l[j]? = some y → y.1 ≤ y.2 := by
  cases h : l.findIdx? (fun y => decide (¬ y.1 ≤ y.2)) with
  | none =>
    left
    intro y hy
    have := (List.findIdx?_eq_none_iff.1 h) y hy
    simpa using this
  | some n =>
    right
    obtain ⟨hlt, h1, h2⟩ := List.findIdx?_eq_some_iff_getElem.1 h
    refine ⟨n, l[n], List.getElem?_eq_getElem hlt, by simpa using h1, fun j y hj hy => ?_⟩
    have := h2 j hj
    obtain ⟨hl, e⟩ := List.getElem?_eq_some_iff.1 hy
    rw [e] at this
    simpa using this

theorem norm_len (l : List Iv) : (normL l).length ≤ l.length := by
  have h := len_merge _ (l.mergeSort fun a b => decide (a.1 ≤ b.1)) rfl
  rw [List.length_mergeSort] at h
  exact h

set_option maxRecDepth 100000 in
theorem lawDenotes_long (p : Option Addr) (n cap : Nat) (x : Int) (w : World) (hg : GlobR w) (hn : 60 < n) :
    Calls Tryz.prog 6 #[.slice p n cap, .int .u64 x] w (IsEnd true w) := by
  have KA := Lib.hid (alive_in w hg); clear hg
  have hi : (60 : Int) < (n : Int) := by omega
  go_enter Tryz.func6, Tryz.ntmps6
  go_wp2_with fail
  refine KA.out.mono ?_
  rintro e w1 ⟨rfl, h1⟩
  have H1 := Lib.hid h1; clear h1
  go_wp2_with fail
  go_ret
  exact ⟨rfl, H1.out⟩

set_option maxRecDepth 100000 in
theorem lawDenotes_any (l : List Iv) (s : Value) (x : Int) (w : World) (hg : GlobR w) (hl : IvsAt w s l) (h64 : All64 l) (hn : l.length ≤ 60) :
    Calls Tryz.prog 6 #[s, .int .u64 x] w (IsEnd true w) := by
  obtain ⟨p, cap, rfl, _⟩ := hl.shape
  have hi : ¬ (60 : Int) < (l.length : Int) := by omega
  have I := Lib.hid hl
  have G := Lib.hid hg
  have KA := Lib.hid alive_in
  rcases first_wrong l with ho | ⟨n, z, hz, hzb, ho⟩
  · have K1 := Lib.hid (normal_ok l _ w hl h64 ho)
    have hinv := normL_inv l ho
    have hlen := Nat.le_trans (norm_len l) (Nat.le_trans hn (by omega : 60 ≤ 1048576))
    have KR := Lib.hid (fun W hl => refHasL_any l (.slice p l.length cap) x W hl)
    have KH := Lib.hid (fun s W hl => rhas_any (normL l) s x W hl hinv.1)
    have HE := Lib.hid (hinv.2 x)
    have HLen := Lib.hid hlen
    clear hl hg h64 ho hinv hlen
    go_enter Tryz.func6, Tryz.ntmps6
    go_wp2_with fail
    refine K1.out.mono ?_
    rintro e w1 ⟨v, rfl, hv, h1⟩
    have H1 := Lib.hid h1; clear h1
    have IN := Lib.hid (hv.ivs HLen.out); clear hv
    go_wp2_with fail
    refine (KA.out _ (G.out.here H1.out)).mono ?_
    rintro e w2 ⟨rfl, h2⟩
    have H2 := Lib.hid (below_call H1.out h2)
    have IN2 := Lib.hid (IN.out.call h2); clear h2
    have K3 := Lib.hid (KH.out v w2 IN2.out)
    go_wp2_with fail
    refine K3.out.mono ?_
    rintro e w3 ⟨rfl, h3⟩
    have H3 := Lib.hid (below_call H2.out h3); clear h3
    rw [HE.out]
    generalize hasL l x = hb at KR
    go_wp2_with fail
    refine (KR.out _ (I.out.call H3.out)).mono ?_
    rintro e w4 ⟨rfl, h4⟩
    have H4 := Lib.hid (below_call H3.out h4); clear h4
    go_wp2_with fail
    go_ret
    exact ⟨by simp, H4.out⟩
  · have K1 := Lib.hid (normal_bad l _ w n z hg.e hl hz hzb ho)
    clear hl hg h64 ho hz hzb
    go_enter Tryz.func6, Tryz.ntmps6
    go_wp2_with fail
    refine K1.out.mono ?_
    rintro e w1 ⟨rfl, h1⟩
    have H1 := Lib.hid h1; clear h1
    go_wp2_with fail
    refine (KA.out _ (G.out.here H1.out)).mono ?_
    rintro e w2 ⟨rfl, h2⟩
    have H2 := Lib.hid (below_call H1.out h2); clear h2
    go_wp2_with fail
    go_ret
    exact ⟨rfl, H2.out⟩
end Go.Proofs.YtgkdjbdcmmegiaaGreatDoor

/- The law RangesFinds in every state. Conditions: as RangesCheck. -/
namespace Go.Proofs.YtgkdjbdcmmegiaaGreatDoor
open Go.RowKit Go.Shelf

set_option maxRecDepth 100000 in
theorem lawFinds_long (p : Option Addr) (n cap : Nat) (x : Int) (w : World) (hg : GlobR w) (hn : 60 < n) :
    Calls Tryz.prog 5 #[.slice p n cap, .int .u64 x] w (IsEnd true w) := by
  have KA := Lib.hid (alive_in w hg); clear hg
  have hi : (60 : Int) < (n : Int) := by omega
  go_enter Tryz.func5, Tryz.ntmps5
  go_wp2_with fail
  refine KA.out.mono ?_
  rintro e w1 ⟨rfl, h1⟩
  have H1 := Lib.hid h1; clear h1
  go_wp2_with fail
  go_ret
  exact ⟨rfl, H1.out⟩

set_option maxRecDepth 100000 in
set_option maxHeartbeats 4000000 in
theorem lawFinds_any (l : List Iv) (s : Value) (x : Int) (w : World) (hg : GlobR w) (hl : IvsAt w s l) (h64 : All64 l) (hn : l.length ≤ 60) :
    Calls Tryz.prog 5 #[s, .int .u64 x] w (IsEnd true w) := by
  obtain ⟨p, cap, rfl, _⟩ := hl.shape
  have hi : ¬ (60 : Int) < (l.length : Int) := by omega
  have I := Lib.hid hl
  have G := Lib.hid hg
  have KA := Lib.hid alive_in
  have K1 := Lib.hid (refRight_any l _ w hl h64)
  by_cases hc : canon l
  · rw [(rightB_iff l).2 hc] at K1
    have KF := Lib.hid (fun W hl => find_any l (.slice p l.length cap) x W hl hc)
    have KH := Lib.hid (fun W hl => rhas_any l (.slice p l.length cap) x W hl hc)
    have KR := Lib.hid (fun W hl => refHasL_any l (.slice p l.length cap) x W hl)
    have hfh := findL_has hc x
    have hlo := findL_low l x
    have hhi := findL_high l x
    have HAt := Lib.hid (fun k h => findL_at (l := l) (x := x) (k := k) h)
    clear hl hg h64
    generalize hasL l x = hb at KH KR hfh
    obtain ⟨f, hf⟩ : ∃ f, findL l x = f := ⟨_, rfl⟩
    rw [hf] at KF HAt hfh hlo hhi
    clear hf
    by_cases h0 : 0 ≤ f
    · obtain ⟨k, rfl⟩ : ∃ k : Nat, f = k := ⟨f.toNat, by omega⟩
      have hbt : hb = true := by rw [← hfh]; exact decide_eq_true h0
      subst hbt
      have hlt : k < l.length := by omega
      obtain ⟨⟨ya, yb⟩, hy, hin⟩ := HAt.out k rfl
      have KX := Lib.hid (refHas_any ya yb x)
      rw [show hasB ya yb x = true from by simpa [hasB, inI] using hin] at KX
      have HY := Lib.hid hy
      have i1 : ¬ (k : Int) < -1 := by omega
      have i2 : ¬ (l.length : Int) ≤ (k : Int) := by omega
      have i3 : (k : Int) < (l.length : Int) := by omega
      have i4 : (0 : Int) ≤ (k : Int) := by omega
      have i5 : ¬ (k : Int) < 0 := by omega
      clear hfh hlo hhi hy hin h0
      go_enter Tryz.func5, Tryz.ntmps5
      go_wp2_with fail
      refine K1.out.mono ?_
      rintro e w1 ⟨rfl, h1⟩
      have H1 := Lib.hid h1; clear h1
      go_wp2_with fail
      refine (KF.out _ (I.out.call H1.out)).mono ?_
      rintro e w2 ⟨rfl, h2⟩
      have H2 := Lib.hid (below_call H1.out h2); clear h2
      go_wp2_with fail
      refine (KH.out _ (I.out.call H2.out)).mono ?_
      rintro e w3 ⟨rfl, h3⟩
      have H3 := Lib.hid (below_call H2.out h3); clear h3
      go_wp2_with fail
      refine (KR.out _ (I.out.call H3.out)).mono ?_
      rintro e w4 ⟨rfl, h4⟩
      have H4 := Lib.hid (below_call H3.out h4); clear h4
      go_wp2_with fail
      refine (KR.out _ (I.out.call H4.out)).mono ?_
      rintro e w5 ⟨rfl, h5⟩
      have H5 := Lib.hid (below_call H4.out h5); clear h5
      go_wp2_with fail
      refine (KA.out _ (G.out.here H5.out)).mono ?_
      rintro e w6 ⟨rfl, h6⟩
      have H6 := Lib.hid (below_call H5.out h6); clear h6
      obtain ⟨b, o, cap', e, c0, c1⟩ := (I.out.call H6.out).elem HY.out
      cases e
      go_wp2_with fail
      refine (KX.out _).mono ?_
      rintro e w7 ⟨rfl, h7⟩
      have H7 := Lib.hid (below_call H6.out h7); clear h7
      go_wp2_with fail
      go_ret
      exact ⟨rfl, H7.out⟩
    · have hf1 : f = -1 := by omega
      have hbf : hb = false := by rw [← hfh]; simpa using h0
      subst hbf hf1
      clear hfh hlo hhi h0
      have i2 : ¬ (l.length : Int) ≤ -1 := by omega
      go_enter Tryz.func5, Tryz.ntmps5
      go_wp2_with fail
      refine K1.out.mono ?_
      rintro e w1 ⟨rfl, h1⟩
      have H1 := Lib.hid h1; clear h1
      go_wp2_with fail
      refine (KF.out _ (I.out.call H1.out)).mono ?_
      rintro e w2 ⟨rfl, h2⟩
      have H2 := Lib.hid (below_call H1.out h2); clear h2
      go_wp2_with fail
      refine (KH.out _ (I.out.call H2.out)).mono ?_
      rintro e w3 ⟨rfl, h3⟩
      have H3 := Lib.hid (below_call H2.out h3); clear h3
      go_wp2_with fail
      refine (KR.out _ (I.out.call H3.out)).mono ?_
      rintro e w4 ⟨rfl, h4⟩
      have H4 := Lib.hid (below_call H3.out h4); clear h4
      go_wp2_with fail
      refine (KR.out _ (I.out.call H4.out)).mono ?_
      rintro e w5 ⟨rfl, h5⟩
      have H5 := Lib.hid (below_call H4.out h5); clear h5
      go_wp2_with fail
      refine (KA.out _ (G.out.here H5.out)).mono ?_
      rintro e w6 ⟨rfl, h6⟩
      have H6 := Lib.hid (below_call H5.out h6); clear h6
      go_wp2_with fail
      go_ret
      exact ⟨rfl, H6.out⟩
  · rw [show rightB l = false from by cases h : rightB l with
      | false => rfl
      | true => exact absurd ((rightB_iff l).1 h) hc] at K1
    clear hl hg h64
    go_enter Tryz.func5, Tryz.ntmps5
    go_wp2_with fail
    refine K1.out.mono ?_
    rintro e w1 ⟨rfl, h1⟩
    have H1 := Lib.hid h1; clear h1
    go_wp2_with fail
    refine (KA.out _ (G.out.here H1.out)).mono ?_
    rintro e w2 ⟨rfl, h2⟩
    have H2 := Lib.hid (below_call H1.out h2); clear h2
    go_wp2_with fail
    go_ret
    exact ⟨rfl, H2.out⟩
end Go.Proofs.YtgkdjbdcmmegiaaGreatDoor
