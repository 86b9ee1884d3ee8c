/- The closure of package scope that unites the two vectors on top of a stack. Conditions: as each theorem says. -/
import Derived.Test.YtemhbmcgnmfoaaaGreatDoorQSoft
import Derived.Test.YtemhbmcgnmfoaaaGreatDoorLPairs
namespace Go.Proofs.YtemhbmcgnmfoaaaGreatDoor
open Go.RowKit
theorem box_off {h g cap n : Nat} {es : List (Value × List (Int × Int × List Iv))} {W W2 : World} {v : Value} (hs : StS h g cap es W) (hc : W2.cell? ⟨h + 1, 0, none⟩ = some v) (u : Value) : (W2.setCell ⟨g, n, none⟩ u).cell? ⟨h + 1, 0, none⟩ = some v := by
  rw [World.cell?_setCell_other _ _ _ _ (by have := hs.gne; intro e; injection e with e1 e2; omega)]
  exact hc
set_option maxRecDepth 100000 in
set_option maxHeartbeats 4000000 in
theorem fold_any {h g cap : Nat} {a b : Value} {A B : List (Int × Int × List Iv)} {es : List (Value × List (Int × Int × List Iv))} {W : World} (hs : StS h g cap ((b, B) :: (a, A) :: es) W) (hh : h + 8 ≤ W.heap.size) (hel : es.length ≤ 100) (gA : GoodV A) (gB : GoodV B) (sA : smallV 1000 1000 A) (sB : smallV 1000 1000 B) :
    Calls Tryz.prog 42 #[.pointer (some ⟨h + 1, 0, none⟩)] W (fun e W' => (∃ v, e = .returned v) ∧ ∃ u, StS h g cap ((u, opV orL A B) :: es) W' ∧ Apart (fun k => k = h + 1 ∨ k = g) W W') := by
  have vA := (hs.el (a, A) (by simp)).now
  have vB := (hs.el (b, B) (by simp)).now
  obtain ⟨pa, ca, ea⟩ := vA.m.shape
  obtain ⟨pb, cb, eb⟩ := vB.m.shape
  dsimp only at ea eb vA vB
  subst ea eb
  have KU := Lib.hid (fun W' (hb : Below W.heap.size W W') => lUnion_any A B _ _ W' (vA.call hb) (vB.call hb) gA gB sA sB)
  obtain ⟨n2, hn2⟩ : ∃ n2, es.length = n2 := ⟨_, rfl⟩
  have k0 := hs.box.cell
  have kf := hs.box.frozen
  have hrow := hs.row
  have hlen : ((.slice pb B.length cb, B) :: (.slice pa A.length ca, A) :: es).length = n2 + 2 := by simp [← hn2]
  have hcap : n2 + 2 ≤ cap := by
    rcases hrow.2 with ⟨h0, _⟩ | ⟨g', cap', cur, h1, _, _, h4, _⟩
    · cases h0
    · cases h1; rw [hlen] at h4; exact h4
  have r0 : W.cell? ⟨g, n2, none⟩ = some (.slice pa A.length ca) := by rw [hrow.cellAt n2 (by rw [hlen]; omega)]; simp [← hn2]
  have r1 : W.cell? ⟨g, n2 + 1, none⟩ = some (.slice pb B.length cb) := by rw [hrow.cellAt (n2 + 1) (by rw [hlen]; omega)]; simp [← hn2]
  have rf : W.frozen? ⟨g, n2, none⟩ = false := hrow.frozenAt _
  rw [hlen] at k0
  obtain ⟨n, hn⟩ : ∃ n, n2 + 2 = n := ⟨_, rfl⟩
  obtain ⟨n1, hn1⟩ : ∃ n1, n2 + 1 = n1 := ⟨_, rfl⟩
  rw [hn] at k0
  rw [hn1] at r1
  have HC := Lib.hid (And.intro k0 (And.intro kf (And.intro r0 (And.intro r1 rf))))
  have HS := Lib.hid hs
  have HH := Lib.hid hh
  have HN := Lib.hid (And.intro hn2 hn1)
  have e1 : IntKind.i64.wrap ((n : Int) - 1) = (n1 : Int) := (IntWalk.i64_in _ (by omega)).trans (by omega)
  have e2 : IntKind.i64.wrap ((n1 : Int) - 1) = (n2 : Int) := (IntWalk.i64_in _ (by omega)).trans (by omega)
  have i1 : (0 : Int) ≤ (n1 : Int) := by omega
  have i2 : (n1 : Int) < (n : Int) := by omega
  have i3 : (0 : Int) ≤ (n2 : Int) := by omega
  have i4 : (n2 : Int) < (n : Int) := by omega
  have i5 : (n1 : Int) ≤ (cap : Int) := by omega
  clear vA vB gA gB sA sB hs hh hrow hlen hcap hn hn1 hn2 hel
  go_enter Tryz.func42, Tryz.ntmps42
  go_wp2_with fail
  refine Code.wp_mono (Q := fun e a' w' => match e with | .normal => ∃ (w2 : World) (pu : Option Addr) (cu : Nat), (VecS w2 (.slice pu (opV orL A B).length cu) (opV orL A B) ∧ SoftW w2 W.heap.size (.slice pu (opV orL A B).length cu) (nsV (opV orL A B)) ∧ Below W.heap.size W w2) ∧
    a' = { tmps := #[.pointer (some ⟨h + 1, 0, none⟩), .int .i64 n1, .slice (some ⟨g, 0, none⟩) n cap, .int .i64 n, .int .i64 n1, .slice (some ⟨g, 0, none⟩) n cap, .int .i64 n1, .int .i64 n2, .slice (some ⟨g, 0, none⟩) n cap, .int .i64 n1, .int .i64 n2, .pointer (some ⟨g, n2, none⟩), .slice pa A.length ca, .slice (some ⟨g, 0, none⟩) n cap, .int .i64 n1, .pointer (some ⟨g, n1, none⟩), .slice pb B.length cb, .slice pu (opV orL A B).length cu, .pointer (some ⟨g, n2, none⟩), undef, undef, undef], defers := [] } ∧ w' = w2.setCell ⟨g, n2, none⟩ (.slice pu (opV orL A B).length cu) | _ => False) ?tail ?reg
  case reg =>
    clear HN
    go_region_with (first
      | (go_at_call 43; refine (KU.out _ ?_).mono ?_; (first | exact Below.refl _ _ | exact (Below.refl _ _).drew | exact (Below.refl _ _).drew.drew | exact (Below.refl _ _).drew.drew.drew | exact (Below.refl _ _).drew.drew.drew.drew); rintro e w2 ⟨u, rfl, hu, hsu, h3⟩; obtain ⟨pu, cu, rfl⟩ := hu.m.shape; have hb3 : Below W.heap.size W w2 := (by first | exact h3 | exact below_call (Below.refl _ _).drew h3 | exact below_call (Below.refl _ _).drew.drew h3 | exact below_call (Below.refl _ _).drew.drew.drew h3); have HU := Lib.hid (show VecS w2 _ _ ∧ SoftW w2 W.heap.size _ _ ∧ Below W.heap.size W w2 from ⟨hu, hsu, hb3⟩); have v0 := keep_cell HC.out.1 hb3; have v1 := keep_cell HC.out.2.2.1 hb3; have v2 := keep_cell HC.out.2.2.2.1 hb3; have v3 := keep_free HC.out.2.2.2.2 HS.out.lt.1 hb3; have v4 := keep_free HC.out.2.1 HS.out.lt.2 hb3; clear hu hsu h3 hb3))
    all_goals exact ⟨_, _, _, HU.out, rfl, rfl⟩
  case tail =>
    intro e a' w' hR
    cases e <;> first | exact hR.elim | skip
    obtain ⟨w2, pu, cu, HU, rfl, rfl⟩ := hR
    have HT := Lib.hid (fold_done HS.out HU.2.2 HH.out HU.1 HU.2.1)
    have z0 := box_off HS.out (n := n2) (keep_cell HC.out.1 HU.2.2) (.slice pu (opV orL A B).length cu)
    have z1 : (w2.setCell ⟨g, n2, none⟩ (.slice pu (opV orL A B).length cu)).frozen? ⟨h + 1, 0, none⟩ = false := (World.frozen?_setCell _ _ _ _).trans (keep_free HC.out.2.1 HS.out.lt.2 HU.2.2)
    clear HU
    go_wp2_with fail
    go_end0
    refine ⟨⟨_, rfl⟩, .slice pu (opV orL A B).length cu, ?_⟩
    have ht := HT.out
    rw [HN.out.1, HN.out.2] at ht
    exact ht
end Go.Proofs.YtemhbmcgnmfoaaaGreatDoor
