/- The reference's operations with vectors. Conditions: the vectors are correct and of moderate size. -/
import Derived.Test.YtemhbmcgnmfoaaaGreatDoorLPut
import Derived.Test.YtemhbmcgnmfoaaaGreatDoorPMath
import Derived.Deep.RegionHeld3
namespace Go.Proofs.YtemhbmcgnmfoaaaGreatDoor
open Go.RowKit
/-- A variable of three cells that a region has made. -/
structure T3 (w : World) (L b : Nat) : Prop where
  lo : L ≤ b
  c0 : w.cell? ⟨b, 0, none⟩ = some (.int .u64 0)
  c1 : w.cell? ⟨b, 1, none⟩ = some (.int .u64 0)
  c2 : w.cell? ⟨b, 2, none⟩ = some (.slice none 0 0)
  f0 : w.frozen? ⟨b, 0, none⟩ = false
  f1 : w.frozen? ⟨b, 1, none⟩ = false
  f2 : w.frozen? ⟨b, 2, none⟩ = false
  lt : b < w.heap.size
theorem T3.call {w w' : World} {L b : Nat} (h : T3 w L b) (hb : Below w.heap.size w w') : T3 w' L b := ⟨h.lo, keep_cell h.c0 hb, keep_cell h.c1 hb, keep_cell h.c2 hb, keep_free h.f0 h.lt hb, keep_free h.f1 h.lt hb, keep_free h.f2 h.lt hb, Nat.lt_of_lt_of_le h.lt hb.size⟩
theorem T3.new {w w' : World} {L : Nat} {t : TypeId} (hL : L ≤ w.heap.size) (h : Below (w.alloc (.cells #[.int .u64 0, .int .u64 0, .slice none 0 0] t)).heap.size (w.alloc (.cells #[.int .u64 0, .int .u64 0, .slice none 0 0] t)) w') : T3 w' L w.heap.size :=
  T3.call (w := w.alloc (.cells #[.int .u64 0, .int .u64 0, .slice none 0 0] t)) ⟨hL, by simp, by simp, by simp, by simp, by simp, by simp, by simp⟩ h
theorem T3.newlt {w w' : World} {t : TypeId} (_ : Below (w.alloc (.cells #[.int .u64 0, .int .u64 0, .slice none 0 0] t)).heap.size (w.alloc (.cells #[.int .u64 0, .int .u64 0, .slice none 0 0] t)) w') : w.heap.size < (w.alloc (.cells #[.int .u64 0, .int .u64 0, .slice none 0 0] t)).heap.size := by simp
theorem s2_below {W w1 : World} {p : Addr} {a : Value} (h : Below W.heap.size W w1 ∧ w1.cell? p = some a) : Below W.heap.size W w1 := h.1
theorem s2_call {W w1 w2 : World} {p : Addr} {a : Value} (h : Below W.heap.size W w1 ∧ w1.cell? p = some a) (hb : Hid (Below w1.heap.size w1 w2)) : Below W.heap.size W w2 ∧ w2.cell? p = some a := ⟨below_call h.1 hb.out, keep_cell h.2 hb.out⟩
theorem s2_new {W w1 : World} {p : Addr} {a : Value} {o : Obj} (h : Below W.heap.size W w1 ∧ w1.cell? p = some a) : Below W.heap.size W (w1.alloc o) ∧ (w1.alloc o).cell? p = some a := s2_call h (Lib.hid (below_new _ _))
theorem s2_drew {W w1 : World} {p : Addr} {a : Value} (h : Below W.heap.size W w1 ∧ w1.cell? p = some a) : Below W.heap.size W w1.drew ∧ w1.drew.cell? p = some a := s2_call h (Lib.hid (Below.refl _ _).drew)
theorem s2_set {W w1 : World} {p : Addr} {a : Value} {b : Nat} (h : Below W.heap.size W w1 ∧ w1.cell? p = some a) (hb : W.heap.size ≤ b) (hp : p.block < W.heap.size) (x y z : Value) :
    Below W.heap.size W (((w1.setCell ⟨b, 0, none⟩ x).setCell ⟨b, 1, none⟩ y).setCell ⟨b, 2, none⟩ z) ∧ (((w1.setCell ⟨b, 0, none⟩ x).setCell ⟨b, 1, none⟩ y).setCell ⟨b, 2, none⟩ z).cell? p = some a := by
  refine ⟨((h.1.setCell (p := ⟨b, 0, none⟩) hb _).setCell (p := ⟨b, 1, none⟩) hb _).setCell (p := ⟨b, 2, none⟩) hb _, ?_⟩
  rw [World.cell?_setCell_other _ _ _ _ (fun e => by rw [← e] at hp; exact absurd hp (by show ¬ b < _; omega)), World.cell?_setCell_other _ _ _ _ (fun e => by rw [← e] at hp; exact absurd hp (by show ¬ b < _; omega)), World.cell?_setCell_other _ _ _ _ (fun e => by rw [← e] at hp; exact absurd hp (by show ¬ b < _; omega))]
  exact h.2
/-- What lies in a list behind the variable that is stored into. -/
theorem fin_hol {w : World} {b B : Nat} {s : Value} {H : List Iv} (hi : IvsAt w s H ∧ SoftE w B s H.length) (hb : b < B) (x y z : Value) :
    IvsAt (((w.setCell ⟨b, 0, none⟩ x).setCell ⟨b, 1, none⟩ y).setCell ⟨b, 2, none⟩ z) s H ∧ SoftE (((w.setCell ⟨b, 0, none⟩ x).setCell ⟨b, 1, none⟩ y).setCell ⟨b, 2, none⟩ z) B s H.length :=
  soft_set (o := 2) (soft_set (o := 1) (soft_set (o := 0) hi hb x) hb y) hb z
theorem pack_set {w : World} {b BB : Nat} {s : Value} {H : List Iv} (c0 : w.cell? ⟨b, 0, none⟩ = some (.int .u64 0)) (c1 : w.cell? ⟨b, 1, none⟩ = some (.int .u64 0)) (c2 : w.cell? ⟨b, 2, none⟩ = some (.slice none 0 0)) (hi : IvsAt w s H ∧ SoftE w BB s H.length) (hb : b < BB) (r t : Int) :
    ∃ wE, (((w.setCell ⟨b, 0, none⟩ (.int .u64 r)).setCell ⟨b, 1, none⟩ (.int .u64 t)).setCell ⟨b, 2, none⟩ s) = wE ∧ E3 wE b r t s ∧ IvsAt wE s H ∧ SoftE wE BB s H.length := ⟨_, rfl, three_stored c0 c1 c2 _ _ _, fin_hol hi hb _ _ _⟩
theorem pack_new {w : World} {BB : Nat} {s : Value} {H : List Iv} (hi : IvsAt w s H ∧ SoftE w BB s H.length) (r t : Int) :
    ∃ wE, w.alloc (.cells #[.int .u64 r, .int .u64 t, s] 61) = wE ∧ E3 wE w.heap.size r t s ∧ IvsAt wE s H ∧ SoftE wE BB s H.length := ⟨_, rfl, E3.new w r t s _ _ rfl, hi.1.call (below_new _ _), hi.2.call (below_new _ _)⟩
theorem reps_take {A : List (Int × Int × List Iv)} {P : List Int} {k : Nat} {r m : Int} {H : List Iv} (h : A[k]? = some (r, m, H)) : ((P ++ (A.take (k + 1)).map (·.1)).foldl insI []) = insI ((P ++ (A.take k).map (·.1)).foldl insI []) r := by
  rw [take_snoc9 h, List.map_append, ← List.append_assoc, List.foldl_append]; rfl
theorem opV_snoc {f : List Iv → List Iv → List Iv} {A B : List (Int × Int × List Iv)} {R : List Int} {k : Nat} {r : Int} (h : R[k]? = some r) :
    (R.take (k + 1)).filterMap (opE f A B) = if f (knV A r) (knV B r) = [] then (R.take k).filterMap (opE f A B) else (R.take k).filterMap (opE f A B) ++ [(repE r (f (knV A r) (knV B r)), topL (f (knV A r) (knV B r)), holesL (f (knV A r) (knV B r)))] := by
  rw [take_snoc9 h, List.filterMap_append]
  by_cases hk : f (knV A r) (knV B r) = []
  · rw [if_pos hk]
    have : opE f A B r = none := by unfold opE; rw [if_pos hk]
    rw [List.filterMap_cons_none this]; simp
  · rw [if_neg hk]
    have : opE f A B r = some (r, topL (f (knV A r) (knV B r)), holesL (f (knV A r) (knV B r))) := by unfold opE; rw [if_neg hk]
    rw [List.filterMap_cons_some this]
    unfold repE
    rw [if_neg hk]; rfl
theorem kn_len {V : List (Int × Int × List Iv)} {n h : Nat} (g : GoodV V) (s : smallV n h V) (r : Int) : (knV V r).length ≤ h + 1 := by
  rcases knV_cases g.asc r with ⟨x, hx, _, e⟩ | ⟨_, e⟩
  · rw [e]; have := known_count (g.ent x hx); have := s.2 x hx; omega
  · rw [e]; exact Nat.zero_le _
set_option maxRecDepth 100000 in
set_option maxHeartbeats 32000000 in
theorem refDo10_any : RefDo10 := by
  intro o f hdo hf A B a b w ha hb gA gB sA sB
  obtain ⟨i0, hi', hz0, hz1, hz2⟩ := info_parts infoE
  obtain ⟨pa, ca, rfl⟩ := ha.shape
  obtain ⟨pb, cb, rfl⟩ := hb.shape
  have hla := sA.1
  have hlb := sB.1
  have HA := Lib.hid ha; have HB' := Lib.hid hb; have HGDA := Lib.hid gA; have HGDB := Lib.hid gB; have HSA := Lib.hid sA; have HSB' := Lib.hid sB
  have KD := Lib.hid hdo; have HF := Lib.hid hf
  have KP := Lib.hid put10_any
  clear ha hb gA gB sA sB hdo hf
  go_enter Tryz.func46, Tryz.ntmps46
  go_wp2_with fail
  go_loopw [7, 8] (fun u i wr => ∃ k : Nat, i = .int .i64 k ∧ k ≤ A.length ∧ OwnN wr w.heap.size u ((([] : List Int) ++ (A.take k).map (·.1)).foldl insI []) ∧ Below w.heap.size w wr) (fun _ i _ => A.length - (intOf i).toNat)
  case atStart => exact ⟨0, rfl, Nat.zero_le _, OwnN.nil _ _, Below.refl _ _⟩
  case round =>
    obtain ⟨k, rfl, hk, hown, hb⟩ := hrel
    have HB := Lib.hid hb; clear hb
    by_cases hlt : k < A.length
    · obtain ⟨⟨x, m, H⟩, hx⟩ : ∃ x, A[k]? = some x := ⟨A[k], by simp [hlt]⟩
      obtain ⟨b, ob, cp, q, n, c, e, c0, c1, c2, _⟩ := (HA.out.call HB.out).elem hx
      cases e
      have HX := Lib.hid (reps_take (P := []) hx)
      have hfl := fold_len (([] : List Int) ++ (A.take k).map (·.1)) []
      simp only [List.nil_append, List.length_map, List.length_take, List.length_nil] at hfl
      have hasc := (fold_ins (([] : List Int) ++ (A.take k).map (·.1)) [] List.Pairwise.nil).1
      have hlS : ((([] : List Int) ++ (A.take k).map (·.1)).foldl insI []).length ≤ 99999 := by simp only [List.nil_append]; omega
      have i1 : (0 : Int) ≤ (k : Int) := by omega
      have i2 : (k : Int) < (A.length : Int) := by omega
      have KP1 := Lib.hid (KP.out _ x _ _ w.heap.size HB.out.size hown hasc hlS)
      clear hown hasc hlS hfl c1 c2 hx
      generalize (([] : List Int) ++ (A.take k).map (·.1)).foldl insI [] = SS at *
      go_wp2_with fail
      refine KP1.out.mono ?_
      rintro e w1 ⟨u1, rfl, hu, h⟩
      have HU := Lib.hid hu; have H1 := Lib.hid (below_call HB.out h); clear hu h c0
      go_wp2_with fail
      go_roundw
      case rel => exact ⟨k + 1, by go_num, by omega, by rw [HX.out]; exact HU.out, H1.out⟩
      case measure => simp [intOf]; omega
    · obtain rfl : k = A.length := by omega
      rw [List.take_of_length_le (Nat.le_refl _), List.nil_append] at hown
      have HO := Lib.hid hown; clear hown
      obtain ⟨wA, rfl⟩ : ∃ wA : World, wA = wr := ⟨_, rfl⟩
      go_wp2_with fail
      go_loopw [7, 9] (fun u i wr => ∃ k : Nat, i = .int .i64 k ∧ k ≤ B.length ∧ OwnN wr w.heap.size u ((A.map (·.1) ++ (B.take k).map (·.1)).foldl insI []) ∧ Below w.heap.size w wr) (fun _ i _ => B.length - (intOf i).toNat)
      case atStart => exact ⟨0, rfl, Nat.zero_le _, by rw [List.take_zero, List.map_nil, List.append_nil]; exact HO.out, HB.out⟩
      case round =>
        clear HB HO
        obtain ⟨k, rfl, hk, hown, hb⟩ := hrel
        have HB := Lib.hid hb; clear hb
        by_cases hlt : k < B.length
        · obtain ⟨⟨x, m, H⟩, hx⟩ : ∃ x, B[k]? = some x := ⟨B[k], by simp [hlt]⟩
          obtain ⟨b, ob, cp, q, n, c, e, c0, c1, c2, _⟩ := (HB'.out.call HB.out).elem hx
          cases e
          have HX := Lib.hid (reps_take (P := A.map (·.1)) hx)
          have hfl := fold_len (A.map (·.1) ++ (B.take k).map (·.1)) []
          simp only [List.length_append, List.length_map, List.length_take, List.length_nil] at hfl
          have hasc := (fold_ins (A.map (·.1) ++ (B.take k).map (·.1)) [] List.Pairwise.nil).1
          have i1 : (0 : Int) ≤ (k : Int) := by omega
          have i2 : (k : Int) < (B.length : Int) := by omega
          have KP1 := Lib.hid (KP.out _ x _ _ w.heap.size HB.out.size hown hasc (by omega))
          clear hown hasc hfl c1 c2 hx
          generalize (A.map (·.1) ++ (B.take k).map (·.1)).foldl insI [] = SS at *
          go_wp2_with fail
          refine KP1.out.mono ?_
          rintro e w1 ⟨u1, rfl, hu, h⟩
          have HU := Lib.hid hu; have H1 := Lib.hid (below_call HB.out h); clear hu h c0
          go_wp2_with fail
          go_roundw
          case rel => exact ⟨k + 1, by go_num, by omega, by rw [HX.out]; exact HU.out, H1.out⟩
          case measure => simp [intOf]; omega
        · obtain rfl : k = B.length := by omega
          rw [List.take_of_length_le (Nat.le_refl _)] at hown
          have hrl : (repsV A B).length ≤ 2000 := by
            unfold repsV
            have := fold_len (A.map (·.1) ++ B.map (·.1)) []
            simp only [List.length_append, List.length_map, List.length_nil] at this
            omega
          have hown' : OwnN _ w.heap.size _ (repsV A B) := hown
          obtain ⟨pu, cu, hsh, _⟩ := own_shape hown'
          have HOV : Hid (opV f A B = (repsV A B).filterMap (opE f A B)) := Lib.hid rfl
          obtain ⟨R, hR⟩ : ∃ R, repsV A B = R := ⟨_, rfl⟩
          rw [hR] at hown' hrl HOV
          have hsh' : _ = Value.slice pu R.length cu := hR ▸ hsh
          subst hsh'
          have HO := Lib.hid hown'; clear hown hown' hsh
          obtain ⟨wE, rfl⟩ : ∃ wE : World, wE = wr := ⟨_, rfl⟩
          go_wp2_with fail
          go_loopw [10, 11] (fun vo i wr => ∃ k : Nat, i = .int .i64 k ∧ k ≤ R.length ∧ OutV wr wE.heap.size vo ((R.take k).filterMap (opE f A B)) ∧ Below wE.heap.size wE wr) (fun _ i _ => R.length - (intOf i).toNat)
          case atStart => exact ⟨0, rfl, Nat.zero_le _, OutV.nil _ _, Below.refl _ _⟩
          case round =>
            obtain ⟨k, rfl, hk, hout, hb⟩ := hrel
            obtain ⟨pv, cv, rfl⟩ := hout.shape
            have HBE := Lib.hid hb; clear hb
            have hszw := HBE.out.size
            by_cases hlt : k < R.length
            · obtain ⟨r, hr⟩ : ∃ r, R[k]? = some r := ⟨R[k], by simp [hlt]⟩
              rcases own_nil_or HO.out with ⟨_, h0⟩ | ⟨g, cu', eg⟩
              · omega
              cases eg
              have HGW : Hid ((⟨g, k, none⟩ : Addr).block < wr.heap.size) := Lib.hid (by
                have h1 := (World.ownsRow.lt (show wE.ownsRow w.heap.size 34 1 (.slice (some ⟨g, 0, none⟩) R.length cu) R.length (nmC R) from HO.out) g rfl).2
                show g < _; omega)
              have c0 : wr.cell? ⟨g, k, none⟩ = some (.int .u64 r) := by
                have hrow : wE.ownsRow w.heap.size 34 1 (.slice (some ⟨g, 0, none⟩) R.length cu) R.length (nmC R) := HO.out
                exact keep_cell (by rw [hrow.cellAt k (by omega)]; exact nmU_at hr) HBE.out
              have HA2 := Lib.hid (HA.out.call (below_call HB.out HBE.out))
              have HB2 := Lib.hid (HB'.out.call (below_call HB.out HBE.out))
              have KA := Lib.hid (fun W h => refKnown10_any A _ r W (HA2.out.call h) HGDA.out (fun x hx => by have := HSA.out.2 x hx; omega))
              have KB := Lib.hid (fun W h => refKnown10_any B _ r W (HB2.out.call h) HGDB.out (fun x hx => by have := HSB'.out.2 x hx; omega))
              have hka := kn_len HGDA.out HSA.out r
              have hkb := kn_len HGDB.out HSB'.out r
              have hga := knV_good HGDA.out r
              have hgb := knV_good HGDB.out r
              have hff := HF.out _ _ hga hgb
              have HSN := Lib.hid (opV_snoc (f := f) (A := A) (B := B) hr)
              have hol : ((R.take k).filterMap (opE f A B)).length ≤ 100000 := by
                refine Nat.le_trans (List.length_filterMap_le _ _) ?_
                rw [List.length_take]; omega
              generalize knV A r = KA9 at *
              generalize knV B r = KB9 at *
              have HGA := Lib.hid hga; have HGB := Lib.hid hgb
              have HLF := Lib.hid (show (f KA9 KB9).length ≤ 20000 by omega)
              have HGF := Lib.hid hff.1
              clear hga hgb hff
              generalize (R.take k).filterMap (opE f A B) = P at *
              have KO0 := Lib.hid (fun s W h => refOf_any r (f KA9 KB9) s W h)
              unfold IsOf at KO0
              have KD3 := Lib.hid (fun s t W h h2 => KD.out KA9 KB9 s t W h h2)
              obtain ⟨es, hel, hrow, hall⟩ := hout
              have hel2 : es.length ≤ 100000 := by rw [hel]; exact hol
              have HROW := Lib.hid hrow; have HALL := Lib.hid hall; clear hrow hall
              have i1 : (0 : Int) ≤ (k : Int) := by omega
              have i2 : (k : Int) < (R.length : Int) := by omega
              have HSZ := Lib.hid hszw; clear hszw hr hlt
              by_cases hK : f KA9 KB9 = []
              · have e1 : someE (f KA9 KB9) = false := by rw [hK]; rfl
                rw [e1] at KO0
                have HC' := Lib.hid (HSN.out.trans (if_pos hK)); clear HSN hK e1
                generalize repE r (f KA9 KB9) = rr at *
                generalize topL (f KA9 KB9) = tt at *
                generalize holesL (f KA9 KB9) = hh at *
                have KO := KO0; clear KO0
                generalize f KA9 KB9 = F9 at *
                have HS0 := Lib.hid (s2_drew (⟨Below.refl _ _, c0⟩ : Below wr.heap.size wr wr ∧ wr.cell? ⟨g, k, none⟩ = some (.int .u64 r)))
                go_wp2_with fail
                go_region_held3 (fun w' => Below wr.heap.size wr w' ∧ w'.cell? ⟨g, k, none⟩ = some (.int .u64 r))
                  (first
                    | exact HS0.out
                    | assumption
                    | exact s2_call (by assumption) (by assumption)
                    | exact s2_drew (by assumption)
                    | exact s2_new (by assumption)
                    | exact s2_set (by assumption) tlo HGW.out _ _ _)
                  (first
                    | (go_at_call 81; (with_reducible change Calls _ _ #[.slice pa A.length ca, .int .u64 r] _ _); refine (KA.out _ (s2_below (by assumption))).mono ?_; rintro en w3 ⟨v1, rfl, hv1, h'⟩; (first | (have HT := Lib.hid (T3.new (L := wr.heap.size) (w := wr) (Nat.le_refl _) ((Below.refl _ _).drew.trans h'))) | skip); have HV1 := Lib.hid (OwnL.ivs hv1 (by omega)); clear hv1; have HZ3 : Hid (wr.heap.size ≤ w3.heap.size) := Lib.hid (Nat.le_trans (Below.size (s2_below (by assumption))) h'.size); have h' := Lib.hid h')
                    | (go_at_call 81; (with_reducible change Calls _ _ #[.slice pb B.length cb, .int .u64 r] _ _); refine (KB.out _ (s2_below (by assumption))).mono ?_; rintro en w4 ⟨v2, rfl, hv2, h'⟩; (first | (replace HT := Lib.hid (HT.out.call h')) | (have HT := Lib.hid (T3.new (w := w3) HZ3.out h')) | skip); replace HV1 := Lib.hid (show IvsAt w4 v1 KA9 from by first | exact HV1.out.call h' | exact (HV1.out.call (below_new _ _)).call h'); have HV2 := Lib.hid (OwnL.ivs hv2 (by omega)); clear hv2; have HZ4 : Hid (wr.heap.size ≤ w4.heap.size) := Lib.hid (Nat.le_trans (Below.size (s2_below (by assumption))) h'.size); have h' := Lib.hid h')
                    | (go_at_call 80; refine (KD3.out v1 v2 _ ⟨(by first | exact HV1.out | exact HV1.out.call (below_new _ _)), HGA.out, by omega⟩ ⟨(by first | exact HV2.out | exact HV2.out.call (below_new _ _)), HGB.out, by omega⟩).mono ?_; rintro en w5 ⟨v3, rfl, hv3, h'⟩; (first | (replace HT := Lib.hid (HT.out.call h')) | (have HT := Lib.hid (T3.new (w := w4) HZ4.out h')) | skip); have HV3 := Lib.hid (OwnL.ivs hv3 (by have := HLF.out; omega)); clear hv3; have HZ5 : Hid (wr.heap.size ≤ w5.heap.size) := Lib.hid (Nat.le_trans (Below.size (s2_below (by assumption))) h'.size); have h' := Lib.hid h')
                    | (go_at_call 79; refine (KO.out v3 _ ⟨(by first | exact HV3.out | exact HV3.out.call (below_new _ _)), HGF.out, HLF.out⟩).mono ?_; rintro en w6 ⟨vo, rfl, hvo, hso, h'⟩; obtain ⟨po, co, rfl, _⟩ := hvo.shape; (first | (have HTL := Lib.hid HT.out.lt; replace HT := Lib.hid (HT.out.call h')) | (have HTL := Lib.hid (T3.newlt (w := w5) h'); have HT := Lib.hid (T3.new (w := w5) HZ5.out h')) | skip); have HSB := Lib.hid (Below.size (s2_below (by assumption) : Below wr.heap.size wr _)); have HVO := Lib.hid (And.intro hvo hso); clear hvo hso; (first | (obtain ⟨tlo, t0, t1, t2, u0, u1, u2, tlt⟩ := HT.out) | skip); have h' := Lib.hid h'; have hSw := s2_call (by assumption) h'))
                all_goals
                  rename_i hE
                  have HE := Lib.hid (s2_below hE); clear hE c0
                  go_wp2_with fail
                  go_roundw
                  case rel => exact ⟨k + 1, by go_num, by omega, by rw [HC'.out]; exact OutV.call ⟨es, hel, HROW.out, HALL.out⟩ HE.out, below_call HBE.out HE.out⟩
                  case measure => simp [intOf]; omega
              · have e1 : someE (f KA9 KB9) = true := some9_of hK
                rw [e1] at KO0
                have HC' := Lib.hid (HSN.out.trans (if_neg hK)); clear HSN hK e1
                generalize repE r (f KA9 KB9) = rr at *
                generalize topL (f KA9 KB9) = tt at *
                generalize holesL (f KA9 KB9) = hh at *
                have KO := KO0; clear KO0
                generalize f KA9 KB9 = F9 at *
                have HS0 := Lib.hid (s2_drew (⟨Below.refl _ _, c0⟩ : Below wr.heap.size wr wr ∧ wr.cell? ⟨g, k, none⟩ = some (.int .u64 r)))
                go_wp2_with fail
                go_region_held3 (fun w' => Below wr.heap.size wr w' ∧ w'.cell? ⟨g, k, none⟩ = some (.int .u64 r))
                  (first
                    | exact HS0.out
                    | assumption
                    | exact s2_call (by assumption) (by assumption)
                    | exact s2_drew (by assumption)
                    | exact s2_new (by assumption)
                    | exact s2_set (by assumption) tlo HGW.out _ _ _)
                  (first
                    | (go_at_call 81; (with_reducible change Calls _ _ #[.slice pa A.length ca, .int .u64 r] _ _); refine (KA.out _ (s2_below (by assumption))).mono ?_; rintro en w3 ⟨v1, rfl, hv1, h'⟩; (first | (have HT := Lib.hid (T3.new (L := wr.heap.size) (w := wr) (Nat.le_refl _) ((Below.refl _ _).drew.trans h'))) | skip); have HV1 := Lib.hid (OwnL.ivs hv1 (by omega)); clear hv1; have HZ3 : Hid (wr.heap.size ≤ w3.heap.size) := Lib.hid (Nat.le_trans (Below.size (s2_below (by assumption))) h'.size); have h' := Lib.hid h')
                    | (go_at_call 81; (with_reducible change Calls _ _ #[.slice pb B.length cb, .int .u64 r] _ _); refine (KB.out _ (s2_below (by assumption))).mono ?_; rintro en w4 ⟨v2, rfl, hv2, h'⟩; (first | (replace HT := Lib.hid (HT.out.call h')) | (have HT := Lib.hid (T3.new (w := w3) HZ3.out h')) | skip); replace HV1 := Lib.hid (show IvsAt w4 v1 KA9 from by first | exact HV1.out.call h' | exact (HV1.out.call (below_new _ _)).call h'); have HV2 := Lib.hid (OwnL.ivs hv2 (by omega)); clear hv2; have HZ4 : Hid (wr.heap.size ≤ w4.heap.size) := Lib.hid (Nat.le_trans (Below.size (s2_below (by assumption))) h'.size); have h' := Lib.hid h')
                    | (go_at_call 80; refine (KD3.out v1 v2 _ ⟨(by first | exact HV1.out | exact HV1.out.call (below_new _ _)), HGA.out, by omega⟩ ⟨(by first | exact HV2.out | exact HV2.out.call (below_new _ _)), HGB.out, by omega⟩).mono ?_; rintro en w5 ⟨v3, rfl, hv3, h'⟩; (first | (replace HT := Lib.hid (HT.out.call h')) | (have HT := Lib.hid (T3.new (w := w4) HZ4.out h')) | skip); have HV3 := Lib.hid (OwnL.ivs hv3 (by have := HLF.out; omega)); clear hv3; have HZ5 : Hid (wr.heap.size ≤ w5.heap.size) := Lib.hid (Nat.le_trans (Below.size (s2_below (by assumption))) h'.size); have h' := Lib.hid h')
                    | (go_at_call 79; refine (KO.out v3 _ ⟨(by first | exact HV3.out | exact HV3.out.call (below_new _ _)), HGF.out, HLF.out⟩).mono ?_; rintro en w6 ⟨vo, rfl, hvo, hso, h'⟩; obtain ⟨po, co, rfl, _⟩ := hvo.shape; (first | (have HTL := Lib.hid HT.out.lt; replace HT := Lib.hid (HT.out.call h')) | (have HTL := Lib.hid (T3.newlt (w := w5) h'); have HT := Lib.hid (T3.new (w := w5) HZ5.out h')) | skip); have HSB := Lib.hid (Below.size (s2_below (by assumption) : Below wr.heap.size wr _)); have HVO := Lib.hid (And.intro hvo hso); clear hvo hso; (first | (obtain ⟨tlo, t0, t1, t2, u0, u1, u2, tlt⟩ := HT.out) | skip); have h' := Lib.hid h'; have hSw := s2_call (by assumption) h'))
                all_goals
                  rename_i hE
                  have HE := Lib.hid (s2_below hE); clear hE c0
                  obtain ⟨wG, hwG, he3, hi, hso⟩ := (by first | exact pack_set t0 t1 t2 HVO.out HTL.out rr tt | exact pack_new HVO.out rr tt)
                  have HE2 : Hid (Below wr.heap.size wr wG) := Lib.hid (hwG ▸ HE.out)
                  rw [hwG]
                  clear hwG HE
                  obtain ⟨b0, b1, b2⟩ := he3
                  have HAP := Lib.hid (fun h0 => own_apart HROW.out (hso.base HSB.out) h0)
                  have HH2 := Lib.hid (And.intro hi (hso.base (Nat.le_trans HSZ.out HSB.out))); clear hi hso
                  have HZG := Lib.hid (Nat.le_trans HSZ.out HE2.out.size)
                  go_wp2_with (at_builtin; refine wpList_append_own_at _ rfl _ _ 40 rfl wE.heap.size 61 i0 (.agg #[.int .u64 0, .int .u64 0, .slice none 0 0]) 3 40 Tryz.underlying40 hi' hz0 hz1 hz2 rfl (by decide) _ es.length (entC es) rfl (own_below HROW.out (below_call HE2.out (below_new _ _))) ⟨wG.heap.size, 0, none⟩ 1 1 [.int .u64 rr, .int .u64 tt, .slice po hh.length co] rfl rfl (cell_three9 _ _ _ _ _ _ rfl) (by simp [Value.oneCell']) (by unfold maxLen; omega) (by omega) (Nat.le_trans HZG.out (below_new _ _).size) ?_; intro v' w8 hown' hgrow _ hat; have HN := Lib.hid (below_new wG (.cells #[.int .u64 rr, .int .u64 tt, .slice po hh.length co] 61)); have HW8 := Lib.hid (own_grown (below_call HBE.out (below_call HE2.out HN.out)) (own_below HROW.out (below_call HE2.out HN.out)) hgrow (Nat.le_trans HZG.out HN.out.size)); have HP := Lib.hid (OutV.push hel (fun i e x he hx => ⟨(HALL.out i e x he hx).1, (HALL.out i e x he hx).2.1, (HALL.out i e x he hx).2.2.call (below_call HE2.out HN.out)⟩) hown' hgrow hat (⟨HH2.out.1.call HN.out, HH2.out.2.call HN.out, HAP.out⟩ : HolE _ _ _ _ hh)); clear hown' hgrow hat)
                  go_roundw
                  case rel => exact ⟨k + 1, by go_num, by omega, by rw [HC'.out]; exact HP.out, HW8.out⟩
                  case measure => simp [intOf]; omega
            · obtain rfl : k = R.length := by omega
              rw [List.take_of_length_le (Nat.le_refl _)] at hout
              have HOUT := Lib.hid hout; clear hout
              have hol : ((R).filterMap (opE f A B)).length ≤ 100000 := by
                refine Nat.le_trans (List.length_filterMap_le _ _) ?_
                omega
              have HOL := Lib.hid hol; clear hol
              go_wp2_with fail
              go_ret
              refine ⟨_, rfl, ?_, below_call HB.out HBE.out⟩
              rw [HOV.out]
              simpa using HOUT.out.vec HOL.out
end Go.Proofs.YtemhbmcgnmfoaaaGreatDoor
