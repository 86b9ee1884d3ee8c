/- Package join over the developers' code: method values of a function type in a struct of function fields, called. Conditions: as each theorem says. -/
import Derived.Test.YtnlbohaealkelaaDoorJSet
import Derived.Test.YtnlbohaealkelaaDoorNSetC
import Derived.Test.YtnlbohaealkelaaDoorOSetC
import Derived.Laws.EntriesVeiled
import Derived.Deep.RegionHeld3
namespace Go.Proofs.YtnlbohaealkelaaDoor
open Go.RowKit
/-- The three operations on entries: method values of the three operations on lists. -/
def IsOps (w : World) (e : Ending) (w' : World) : Prop := e = .returned (.agg #[.func (.func 28) #[.func (.func 21) #[] #[]] #[], .func (.func 28) #[.func (.func 29) #[] #[]] #[], .func (.func 28) #[.func (.func 30) #[] #[]] #[]]) ∧ Below w.heap.size w w'
theorem onLists_any (w : World) : Calls Tryd.prog 16 #[] w (IsOps w) := by
  obtain ⟨w1, hw1⟩ : ∃ w1, w.alloc (.cells #[.nilFunc, .nilFunc, .nilFunc] 42) = w1 := ⟨_, rfl⟩
  have HB := Lib.hid (show Below w.heap.size w w1 from hw1 ▸ below_new w _)
  have t0 : w1.cell? ⟨w.heap.size, 0, none⟩ = some .nilFunc := by rw [← hw1]; simp
  have t1 : w1.cell? ⟨w.heap.size, 1, none⟩ = some .nilFunc := by rw [← hw1]; simp
  have t2 : w1.cell? ⟨w.heap.size, 2, none⟩ = some .nilFunc := by rw [← hw1]; simp
  have u0 : w1.frozen? ⟨w.heap.size, 0, none⟩ = false := by rw [← hw1]; simp
  have u1 : w1.frozen? ⟨w.heap.size, 1, none⟩ = false := by rw [← hw1]; simp
  have u2 : w1.frozen? ⟨w.heap.size, 2, none⟩ = false := by rw [← hw1]; simp
  go_enter Tryd.func16, Tryd.ntmps16
  go_wp2_with fail
  clear hw1
  have hs3 := three_stored t0 t1 t2 (.func (.func 28) #[.func (.func 21) #[] #[]] #[]) (.func (.func 28) #[.func (.func 29) #[] #[]] #[]) (.func (.func 28) #[.func (.func 30) #[] #[]] #[])
  refine bodyPost_ret (v := .agg #[.func (.func 28) #[.func (.func 21) #[] #[]] #[], .func (.func 28) #[.func (.func 29) #[] #[]] #[], .func (.func 28) #[.func (.func 30) #[] #[]] #[]]) (by simp [results, Tryd.results16, go_sem, hs3.1, hs3.2.1, hs3.2.2]) rfl ?_
  exact ⟨rfl, ((HB.out.setCell (p := ⟨w.heap.size, 0, none⟩) (Nat.le_refl _) _).setCell (p := ⟨w.heap.size, 1, none⟩) (Nat.le_refl _) _).setCell (p := ⟨w.heap.size, 2, none⟩) (Nat.le_refl _) _⟩
set_option maxRecDepth 100000 in
set_option maxHeartbeats 4000000 in
theorem entriesU (r ma mb : Int) (A B : List Iv) (sa sb : Value) (w : World) (ha : EntAt w sa ma A) (hb : EntAt w sb mb B) :
    Calls Tryd.prog 28 #[.func (.func 21) #[] #[], .agg #[.int .u64 r, .int .u64 ma, sa], .agg #[.int .u64 r, .int .u64 mb, sb]] w (IsEO r (orL (knownL ma A) (knownL mb B)) w) := by
  obtain ⟨p, cap, rfl, _⟩ := ha.any.at'.shape
  obtain ⟨p', cap', rfl, _⟩ := hb.any.at'.shape
  obtain ⟨wA, hwA⟩ : ∃ wA, w.alloc (.cells #[.int .u64 r, .int .u64 ma, .slice p A.length cap] 26) = wA := ⟨_, rfl⟩
  have hbA : Below w.heap.size w wA := hwA ▸ below_new w _
  have eA : E3 wA w.heap.size r ma (.slice p A.length cap) := hwA ▸ E3.new w r ma (.slice p A.length cap) 26 _ rfl
  obtain ⟨w1, hw1⟩ : ∃ w1, wA.alloc (.cells #[.int .u64 r, .int .u64 mb, .slice p' B.length cap'] 26) = w1 := ⟨_, rfl⟩
  have hb1' : Below wA.heap.size wA w1 := hw1 ▸ below_new wA _
  have eB : E3 w1 wA.heap.size r mb (.slice p' B.length cap') := hw1 ▸ E3.new wA r mb (.slice p' B.length cap') 26 _ rfl
  have hnA : w.heap.size < wA.heap.size := World.block_lt_of_cell? wA _ eA.1
  have hnB : wA.heap.size < w1.heap.size := World.block_lt_of_cell? w1 _ eB.1
  obtain ⟨w2, hw2⟩ : ∃ w2, w1.alloc (.cells #[.int .u64 0, .int .u64 0, .slice none 0 0] 26) = w2 := ⟨_, rfl⟩
  have hB2 : Below w1.heap.size w1 w2 := hw2 ▸ below_new w1 _
  have t0 : w2.cell? ⟨w1.heap.size, 0, none⟩ = some (.int .u64 0) := by rw [← hw2]; simp
  have t1 : w2.cell? ⟨w1.heap.size, 1, none⟩ = some (.int .u64 0) := by rw [← hw2]; simp
  have t2 : w2.cell? ⟨w1.heap.size, 2, none⟩ = some (.slice none 0 0) := by rw [← hw2]; simp
  have u0 : w2.frozen? ⟨w1.heap.size, 0, none⟩ = false := by rw [← hw2]; simp
  have u1 : w2.frozen? ⟨w1.heap.size, 1, none⟩ = false := by rw [← hw2]; simp
  have u2 : w2.frozen? ⟨w1.heap.size, 2, none⟩ = false := by rw [← hw2]; simp
  have HLT : Hid (w1.heap.size < w2.heap.size) := Lib.hid (World.block_lt_of_cell? w2 _ t0)
  have hbw1 := below_call hbA hb1'
  have hbW := below_call hbw1 hB2
  have eA2 := (eA.call hb1').call hB2
  have eB2 := eB.call hB2
  have HS0 := Lib.hid (r6_drew ⟨hB2, eA2.1, eA2.2.1, eA2.2.2, eB2.1, eB2.2.1, eB2.2.2⟩)
  have HW1 := Lib.hid hbw1
  have HNA : Hid (w.heap.size ≠ w1.heap.size) := Lib.hid (by omega)
  have HNB : Hid (wA.heap.size ≠ w1.heap.size) := Lib.hid (by omega)
  have HOA := Lib.hid (ha.call hbW)
  have HOB := Lib.hid (hb.call hbW)
  have KA := Lib.hid (fun W h => eKnown_any r ma A (.slice p A.length cap) W h)
  have KB := Lib.hid (fun W h => eKnown_any r mb B (.slice p' B.length cap') W h)
  have KD := Lib.hid setUnion_any
  have KO := Lib.hid eOf_any
  have hga := known_good ha.good
  have hgb := known_good hb.good
  have hla := known_count ha.good
  have hlb := known_count hb.good
  have hfa := ha.any.len
  have hfb := hb.any.len
  have HGA := Lib.hid (And.intro hga (show (knownL ma A).length ≤ 5001 by omega))
  have HGB := Lib.hid (And.intro hgb (show (knownL mb B).length ≤ 5001 by omega))
  have hff := or_count hga hgb
  have HGF := Lib.hid (And.intro (orL_good hga hgb) (show (orL (knownL ma A) (knownL mb B)).length ≤ 10002 by omega))
  clear ha hb hga hgb hla hlb hfa hfb hff hbA hb1' hbw1 eA eB eA2 eB2 hnA hnB hB2 hbW
  go_enter Tryd.func28, Tryd.ntmps28
  go_wp2_with fail
  clear hwA hw1 hw2
  generalize knownL ma A = KKA at *
  generalize knownL mb B = KKB at *
  go_region_held3 (fun w' => Below w1.heap.size w1 w' ∧ w'.cell? ⟨w.heap.size, 0, none⟩ = some (.int .u64 r) ∧ w'.cell? ⟨w.heap.size, 1, none⟩ = some (.int .u64 ma) ∧ w'.cell? ⟨w.heap.size, 2, none⟩ = some (.slice p A.length cap) ∧ w'.cell? ⟨wA.heap.size, 0, none⟩ = some (.int .u64 r) ∧ w'.cell? ⟨wA.heap.size, 1, none⟩ = some (.int .u64 mb) ∧ w'.cell? ⟨wA.heap.size, 2, none⟩ = some (.slice p' B.length cap'))
    (first
      | exact r6_call (by assumption) (by assumption)
      | exact HS0.out
      | exact r6_set (by assumption) (Nat.le_refl _) HNA.out HNA.out HNA.out HNB.out HNB.out HNB.out _ _ _
      | assumption)
    (first
      | (go_at_call 22; (with_reducible change Calls _ _ #[.agg #[.int .u64 r, .int .u64 ma, .slice p A.length cap]] _ _); refine (KA.out _ (HOA.out.call (Below.refl _ _).drew)).mono ?_; rintro en w3 ⟨v1, rfl, hv1, hs1, _, h'⟩; have hh : Below w2.heap.size w2 w3 := (Below.refl _ _).drew.trans h'; replace t0 := keep_cell t0 hh; replace t1 := keep_cell t1 hh; replace t2 := keep_cell t2 hh; replace u0 := keep_free u0 HLT.out hh; replace u1 := keep_free u1 HLT.out hh; replace u2 := keep_free u2 HLT.out hh; replace HLT := Lib.hid (Nat.lt_of_lt_of_le HLT.out (hh).size); replace HOB := Lib.hid (HOB.out.call hh);  have HV1 := Lib.hid (And.intro hv1 hs1); clear hv1 hs1 hh; have h' := Lib.hid h')
      | (go_at_call 22; (with_reducible change Calls _ _ #[.agg #[.int .u64 r, .int .u64 mb, .slice p' B.length cap']] _ _); refine (KB.out _ HOB.out).mono ?_; rintro en w4 ⟨v2, rfl, hv2, hs2, _, h'⟩; replace t0 := keep_cell t0 h'; replace t1 := keep_cell t1 h'; replace t2 := keep_cell t2 h'; replace u0 := keep_free u0 HLT.out h'; replace u1 := keep_free u1 HLT.out h'; replace u2 := keep_free u2 HLT.out h'; replace HLT := Lib.hid (Nat.lt_of_lt_of_le HLT.out (h').size);  replace HV1 := Lib.hid (And.intro (HV1.out.1.call h') HV1.out.2); have HV2 := Lib.hid (And.intro hv2 hs2); clear hv2 hs2; have h' := Lib.hid h')
      | (go_at_call 21; refine (KD.out KKA KKB _ _ _ ⟨HV1.out.1, HGA.out.1, by have := HGA.out.2; omega⟩ ⟨HV2.out.1, HGB.out.1, by have := HGB.out.2; omega⟩).mono ?_; rintro en w5 ⟨v3, rfl, hv3, h'⟩; replace t0 := keep_cell t0 h'; replace t1 := keep_cell t1 h'; replace t2 := keep_cell t2 h'; replace u0 := keep_free u0 HLT.out h'; replace u1 := keep_free u1 HLT.out h'; replace u2 := keep_free u2 HLT.out h'; replace HLT := Lib.hid (Nat.lt_of_lt_of_le HLT.out (h').size);  have HV3 := Lib.hid hv3; clear hv3; have h' := Lib.hid h')
      | (go_at_call 23; refine (KO.out r (orL KKA KKB) _ _ ⟨HV3.out.ivs (by have := HGF.out.2; omega), HGF.out.1, sane_row HV3.out, by have := HGF.out.2; omega⟩).mono ?_; rintro en w6 ⟨vo, rfl, hvo, hsa, hso, h'⟩; replace t0 := keep_cell t0 h'; replace t1 := keep_cell t1 h'; replace t2 := keep_cell t2 h'; replace u0 := keep_free u0 HLT.out h'; replace u1 := keep_free u1 HLT.out h'; replace u2 := keep_free u2 HLT.out h'; have HLQ := HLT; replace HLT := Lib.hid (Nat.lt_of_lt_of_le HLT.out (h').size);  obtain ⟨po, co, rfl, _⟩ := hvo.shape; have HVO := Lib.hid (And.intro hvo hso); have HSA := Lib.hid hsa; clear hvo hso hsa; have h' := Lib.hid h'; have hSw := r6_call (by assumption) h'))
  have HSW := Lib.hid (below_call HW1.out hSw.1)
  clear hSw
  go_wp2_with fail
  generalize orL KKA KKB = KF at *
  have hs3 := three_stored t0 t1 t2 (.int .u64 (repE r KF)) (.int .u64 (topL KF)) (.slice po (holesL KF).length co)
  refine bodyPost_ret (v := .tuple #[.agg #[.int .u64 (repE r KF), .int .u64 (topL KF), .slice po (holesL KF).length co], .bool (someE KF)]) (by simp [results, Tryd.results28, go_sem, hs3.1, hs3.2.1, hs3.2.2]) rfl ?_
  have hv := soft_set (o := 2) (soft_set (o := 1) (soft_set (o := 0) HVO.out HLQ.out (.int .u64 (repE r KF))) HLQ.out (.int .u64 (topL KF))) HLQ.out (.slice po (holesL KF).length co)
  exact ⟨_, rfl, hv.1, HSA.out, hv.2.base (Nat.le_trans HW1.out.size (Nat.le_of_lt HLQ.out)), ((HSW.out.setCell (p := ⟨w1.heap.size, 0, none⟩) HW1.out.size _).setCell (p := ⟨w1.heap.size, 1, none⟩) HW1.out.size _).setCell (p := ⟨w1.heap.size, 2, none⟩) HW1.out.size _⟩
set_option maxRecDepth 100000 in
set_option maxHeartbeats 4000000 in
theorem jUnion_any (r ma mb : Int) (A B : List Iv) (sa sb : Value) (w : World) (ha : EntAt w sa ma A) (hb : EntAt w sb mb B) :
    Calls Tryd.prog 6 #[.agg #[.int .u64 r, .int .u64 ma, sa], .agg #[.int .u64 r, .int .u64 mb, sb]] w (IsEO r (orL (knownL ma A) (knownL mb B)) w) := by
  obtain ⟨p, cap, rfl, _⟩ := ha.any.at'.shape
  obtain ⟨p', cap', rfl, _⟩ := hb.any.at'.shape
  obtain ⟨wA, hwA⟩ : ∃ wA, w.alloc (.cells #[.int .u64 r, .int .u64 ma, .slice p A.length cap] 26) = wA := ⟨_, rfl⟩
  have hbA : Below w.heap.size w wA := hwA ▸ below_new w _
  have eA : E3 wA w.heap.size r ma (.slice p A.length cap) := hwA ▸ E3.new w r ma (.slice p A.length cap) 26 _ rfl
  obtain ⟨w1, hw1⟩ : ∃ w1, wA.alloc (.cells #[.int .u64 r, .int .u64 mb, .slice p' B.length cap'] 26) = w1 := ⟨_, rfl⟩
  have hb1' : Below wA.heap.size wA w1 := hw1 ▸ below_new wA _
  have eB : E3 w1 wA.heap.size r mb (.slice p' B.length cap') := hw1 ▸ E3.new wA r mb (.slice p' B.length cap') 26 _ rfl
  have hnA : w.heap.size < wA.heap.size := World.block_lt_of_cell? wA _ eA.1
  have hnB : wA.heap.size < w1.heap.size := World.block_lt_of_cell? w1 _ eB.1
  obtain ⟨w2, hw2⟩ : ∃ w2, w1.alloc (.cells #[.int .u64 0, .int .u64 0, .slice none 0 0] 26) = w2 := ⟨_, rfl⟩
  have hB2 : Below w1.heap.size w1 w2 := hw2 ▸ below_new w1 _
  have t0 : w2.cell? ⟨w1.heap.size, 0, none⟩ = some (.int .u64 0) := by rw [← hw2]; simp
  have t1 : w2.cell? ⟨w1.heap.size, 1, none⟩ = some (.int .u64 0) := by rw [← hw2]; simp
  have t2 : w2.cell? ⟨w1.heap.size, 2, none⟩ = some (.slice none 0 0) := by rw [← hw2]; simp
  have u0 : w2.frozen? ⟨w1.heap.size, 0, none⟩ = false := by rw [← hw2]; simp
  have u1 : w2.frozen? ⟨w1.heap.size, 1, none⟩ = false := by rw [← hw2]; simp
  have u2 : w2.frozen? ⟨w1.heap.size, 2, none⟩ = false := by rw [← hw2]; simp
  have HLT : Hid (w1.heap.size < w2.heap.size) := Lib.hid (World.block_lt_of_cell? w2 _ t0)
  have hbw1 := below_call hbA hb1'
  have hbW := below_call hbw1 hB2
  have eA2 := (eA.call hb1').call hB2
  have eB2 := eB.call hB2
  have HS0 := Lib.hid (r6_drew ⟨hB2, eA2.1, eA2.2.1, eA2.2.2, eB2.1, eB2.2.1, eB2.2.2⟩)
  have HW1 := Lib.hid hbw1
  have HNA : Hid (w.heap.size ≠ w1.heap.size) := Lib.hid (by omega)
  have HNB : Hid (wA.heap.size ≠ w1.heap.size) := Lib.hid (by omega)
  have HOA := Lib.hid (ha.call hbW)
  have HOB := Lib.hid (hb.call hbW)
  have KL := Lib.hid onLists_any
  have hfd : ∀ W : World, (Instr.field 42 (.agg #[.func (.func 28) #[.func (.func 21) #[] #[]] #[], .func (.func 28) #[.func (.func 29) #[] #[]] #[], .func (.func 28) #[.func (.func 30) #[] #[]] #[]]) 0).run Tryd.prog W = .ok (.func (.func 28) #[.func (.func 21) #[] #[]] #[]) W := fun _ => by kernel_rfl
  have KE := Lib.hid (fun W h h' => entriesU r ma mb A B (.slice p A.length cap) (.slice p' B.length cap') W h h')
  clear ha hb hbA hb1' hbw1 eA eB eA2 eB2 hnA hnB hB2 hbW
  generalize orL (knownL ma A) (knownL mb B) = KF at *
  go_enter Tryd.func6, Tryd.ntmps6
  go_wp2_with fail
  clear hwA hw1 hw2
  go_region_held3 (fun w' => Below w1.heap.size w1 w' ∧ w'.cell? ⟨w.heap.size, 0, none⟩ = some (.int .u64 r) ∧ w'.cell? ⟨w.heap.size, 1, none⟩ = some (.int .u64 ma) ∧ w'.cell? ⟨w.heap.size, 2, none⟩ = some (.slice p A.length cap) ∧ w'.cell? ⟨wA.heap.size, 0, none⟩ = some (.int .u64 r) ∧ w'.cell? ⟨wA.heap.size, 1, none⟩ = some (.int .u64 mb) ∧ w'.cell? ⟨wA.heap.size, 2, none⟩ = some (.slice p' B.length cap'))
    (first
      | exact r6_call (by assumption) (by assumption)
      | exact HS0.out
      | exact r6_set (by assumption) (Nat.le_refl _) HNA.out HNA.out HNA.out HNB.out HNB.out HNB.out _ _ _
      | assumption)
    (first
      | (go_at_call 16; refine (KL.out _).mono ?_; rintro en w3 ⟨rfl, h'⟩; have hh : Below w2.heap.size w2 w3 := (Below.refl _ _).drew.trans h'; replace t0 := keep_cell t0 hh; replace t1 := keep_cell t1 hh; replace t2 := keep_cell t2 hh; replace u0 := keep_free u0 HLT.out hh; replace u1 := keep_free u1 HLT.out hh; replace u2 := keep_free u2 HLT.out hh; replace HLT := Lib.hid (Nat.lt_of_lt_of_le HLT.out (hh).size); replace HOA := Lib.hid (HOA.out.call hh); replace HOB := Lib.hid (HOB.out.call hh);  clear hh; have h' := Lib.hid h')
      | (go_at_call 28; refine (KE.out _ HOA.out HOB.out).mono ?_; rintro en w6 ⟨vo, rfl, hvo, hsa, hso, h'⟩; replace t0 := keep_cell t0 h'; replace t1 := keep_cell t1 h'; replace t2 := keep_cell t2 h'; replace u0 := keep_free u0 HLT.out h'; replace u1 := keep_free u1 HLT.out h'; replace u2 := keep_free u2 HLT.out h'; have HLQ := HLT; replace HLT := Lib.hid (Nat.lt_of_lt_of_le HLT.out (h').size);  obtain ⟨po, co, rfl, _⟩ := hvo.shape; have HVO := Lib.hid (And.intro hvo hso); have HSA := Lib.hid hsa; clear hvo hso hsa; have h' := Lib.hid h'; have hSw := r6_call (by assumption) h'))
  have HSW := Lib.hid (below_call HW1.out hSw.1)
  clear hSw
  go_wp2_with fail
  have hs3 := three_stored t0 t1 t2 (.int .u64 (repE r KF)) (.int .u64 (topL KF)) (.slice po (holesL KF).length co)
  refine bodyPost_ret (v := .tuple #[.agg #[.int .u64 (repE r KF), .int .u64 (topL KF), .slice po (holesL KF).length co], .bool (someE KF)]) (by simp [results, Tryd.results6, go_sem, hs3.1, hs3.2.1, hs3.2.2]) rfl ?_
  have hv := soft_set (o := 2) (soft_set (o := 1) (soft_set (o := 0) HVO.out HLQ.out (.int .u64 (repE r KF))) HLQ.out (.int .u64 (topL KF))) HLQ.out (.slice po (holesL KF).length co)
  exact ⟨_, rfl, hv.1, HSA.out, hv.2.base (Nat.le_trans HW1.out.size (Nat.le_of_lt HLQ.out)), ((HSW.out.setCell (p := ⟨w1.heap.size, 0, none⟩) HW1.out.size _).setCell (p := ⟨w1.heap.size, 1, none⟩) HW1.out.size _).setCell (p := ⟨w1.heap.size, 2, none⟩) HW1.out.size _⟩
set_option maxRecDepth 100000 in
set_option maxHeartbeats 4000000 in
theorem entriesM (r ma mb : Int) (A B : List Iv) (sa sb : Value) (w : World) (ha : EntAt w sa ma A) (hb : EntAt w sb mb B) :
    Calls Tryd.prog 28 #[.func (.func 29) #[] #[], .agg #[.int .u64 r, .int .u64 ma, sa], .agg #[.int .u64 r, .int .u64 mb, sb]] w (IsEO r (andL (knownL ma A) (knownL mb B)) w) := by
  obtain ⟨p, cap, rfl, _⟩ := ha.any.at'.shape
  obtain ⟨p', cap', rfl, _⟩ := hb.any.at'.shape
  obtain ⟨wA, hwA⟩ : ∃ wA, w.alloc (.cells #[.int .u64 r, .int .u64 ma, .slice p A.length cap] 26) = wA := ⟨_, rfl⟩
  have hbA : Below w.heap.size w wA := hwA ▸ below_new w _
  have eA : E3 wA w.heap.size r ma (.slice p A.length cap) := hwA ▸ E3.new w r ma (.slice p A.length cap) 26 _ rfl
  obtain ⟨w1, hw1⟩ : ∃ w1, wA.alloc (.cells #[.int .u64 r, .int .u64 mb, .slice p' B.length cap'] 26) = w1 := ⟨_, rfl⟩
  have hb1' : Below wA.heap.size wA w1 := hw1 ▸ below_new wA _
  have eB : E3 w1 wA.heap.size r mb (.slice p' B.length cap') := hw1 ▸ E3.new wA r mb (.slice p' B.length cap') 26 _ rfl
  have hnA : w.heap.size < wA.heap.size := World.block_lt_of_cell? wA _ eA.1
  have hnB : wA.heap.size < w1.heap.size := World.block_lt_of_cell? w1 _ eB.1
  obtain ⟨w2, hw2⟩ : ∃ w2, w1.alloc (.cells #[.int .u64 0, .int .u64 0, .slice none 0 0] 26) = w2 := ⟨_, rfl⟩
  have hB2 : Below w1.heap.size w1 w2 := hw2 ▸ below_new w1 _
  have t0 : w2.cell? ⟨w1.heap.size, 0, none⟩ = some (.int .u64 0) := by rw [← hw2]; simp
  have t1 : w2.cell? ⟨w1.heap.size, 1, none⟩ = some (.int .u64 0) := by rw [← hw2]; simp
  have t2 : w2.cell? ⟨w1.heap.size, 2, none⟩ = some (.slice none 0 0) := by rw [← hw2]; simp
  have u0 : w2.frozen? ⟨w1.heap.size, 0, none⟩ = false := by rw [← hw2]; simp
  have u1 : w2.frozen? ⟨w1.heap.size, 1, none⟩ = false := by rw [← hw2]; simp
  have u2 : w2.frozen? ⟨w1.heap.size, 2, none⟩ = false := by rw [← hw2]; simp
  have HLT : Hid (w1.heap.size < w2.heap.size) := Lib.hid (World.block_lt_of_cell? w2 _ t0)
  have hbw1 := below_call hbA hb1'
  have hbW := below_call hbw1 hB2
  have eA2 := (eA.call hb1').call hB2
  have eB2 := eB.call hB2
  have HS0 := Lib.hid (r6_drew ⟨hB2, eA2.1, eA2.2.1, eA2.2.2, eB2.1, eB2.2.1, eB2.2.2⟩)
  have HW1 := Lib.hid hbw1
  have HNA : Hid (w.heap.size ≠ w1.heap.size) := Lib.hid (by omega)
  have HNB : Hid (wA.heap.size ≠ w1.heap.size) := Lib.hid (by omega)
  have HOA := Lib.hid (ha.call hbW)
  have HOB := Lib.hid (hb.call hbW)
  have KA := Lib.hid (fun W h => eKnown_any r ma A (.slice p A.length cap) W h)
  have KB := Lib.hid (fun W h => eKnown_any r mb B (.slice p' B.length cap') W h)
  have KD := Lib.hid setMeet_any
  have KO := Lib.hid eOf_any
  have hga := known_good ha.good
  have hgb := known_good hb.good
  have hla := known_count ha.good
  have hlb := known_count hb.good
  have hfa := ha.any.len
  have hfb := hb.any.len
  have HGA := Lib.hid (And.intro hga (show (knownL ma A).length ≤ 5001 by omega))
  have HGB := Lib.hid (And.intro hgb (show (knownL mb B).length ≤ 5001 by omega))
  have hff := and_count hga hgb
  have HGF := Lib.hid (And.intro (andL_good hga hgb) (show (andL (knownL ma A) (knownL mb B)).length ≤ 10002 by omega))
  clear ha hb hga hgb hla hlb hfa hfb hff hbA hb1' hbw1 eA eB eA2 eB2 hnA hnB hB2 hbW
  go_enter Tryd.func28, Tryd.ntmps28
  go_wp2_with fail
  clear hwA hw1 hw2
  generalize knownL ma A = KKA at *
  generalize knownL mb B = KKB at *
  go_region_held3 (fun w' => Below w1.heap.size w1 w' ∧ w'.cell? ⟨w.heap.size, 0, none⟩ = some (.int .u64 r) ∧ w'.cell? ⟨w.heap.size, 1, none⟩ = some (.int .u64 ma) ∧ w'.cell? ⟨w.heap.size, 2, none⟩ = some (.slice p A.length cap) ∧ w'.cell? ⟨wA.heap.size, 0, none⟩ = some (.int .u64 r) ∧ w'.cell? ⟨wA.heap.size, 1, none⟩ = some (.int .u64 mb) ∧ w'.cell? ⟨wA.heap.size, 2, none⟩ = some (.slice p' B.length cap'))
    (first
      | exact r6_call (by assumption) (by assumption)
      | exact HS0.out
      | exact r6_set (by assumption) (Nat.le_refl _) HNA.out HNA.out HNA.out HNB.out HNB.out HNB.out _ _ _
      | assumption)
    (first
      | (go_at_call 22; (with_reducible change Calls _ _ #[.agg #[.int .u64 r, .int .u64 ma, .slice p A.length cap]] _ _); refine (KA.out _ (HOA.out.call (Below.refl _ _).drew)).mono ?_; rintro en w3 ⟨v1, rfl, hv1, hs1, _, h'⟩; have hh : Below w2.heap.size w2 w3 := (Below.refl _ _).drew.trans h'; replace t0 := keep_cell t0 hh; replace t1 := keep_cell t1 hh; replace t2 := keep_cell t2 hh; replace u0 := keep_free u0 HLT.out hh; replace u1 := keep_free u1 HLT.out hh; replace u2 := keep_free u2 HLT.out hh; replace HLT := Lib.hid (Nat.lt_of_lt_of_le HLT.out (hh).size); replace HOB := Lib.hid (HOB.out.call hh);  have HV1 := Lib.hid (And.intro hv1 hs1); clear hv1 hs1 hh; have h' := Lib.hid h')
      | (go_at_call 22; (with_reducible change Calls _ _ #[.agg #[.int .u64 r, .int .u64 mb, .slice p' B.length cap']] _ _); refine (KB.out _ HOB.out).mono ?_; rintro en w4 ⟨v2, rfl, hv2, hs2, _, h'⟩; replace t0 := keep_cell t0 h'; replace t1 := keep_cell t1 h'; replace t2 := keep_cell t2 h'; replace u0 := keep_free u0 HLT.out h'; replace u1 := keep_free u1 HLT.out h'; replace u2 := keep_free u2 HLT.out h'; replace HLT := Lib.hid (Nat.lt_of_lt_of_le HLT.out (h').size);  replace HV1 := Lib.hid (And.intro (HV1.out.1.call h') HV1.out.2); have HV2 := Lib.hid (And.intro hv2 hs2); clear hv2 hs2; have h' := Lib.hid h')
      | (go_at_call 29; refine (KD.out KKA KKB _ _ _ ⟨HV1.out.1, HGA.out.1, by have := HGA.out.2; omega⟩ ⟨HV2.out.1, HGB.out.1, by have := HGB.out.2; omega⟩).mono ?_; rintro en w5 ⟨v3, rfl, hv3, h'⟩; replace t0 := keep_cell t0 h'; replace t1 := keep_cell t1 h'; replace t2 := keep_cell t2 h'; replace u0 := keep_free u0 HLT.out h'; replace u1 := keep_free u1 HLT.out h'; replace u2 := keep_free u2 HLT.out h'; replace HLT := Lib.hid (Nat.lt_of_lt_of_le HLT.out (h').size);  have HV3 := Lib.hid hv3; clear hv3; have h' := Lib.hid h')
      | (go_at_call 23; refine (KO.out r (andL KKA KKB) _ _ ⟨HV3.out.ivs (by have := HGF.out.2; omega), HGF.out.1, sane_row HV3.out, by have := HGF.out.2; omega⟩).mono ?_; rintro en w6 ⟨vo, rfl, hvo, hsa, hso, h'⟩; replace t0 := keep_cell t0 h'; replace t1 := keep_cell t1 h'; replace t2 := keep_cell t2 h'; replace u0 := keep_free u0 HLT.out h'; replace u1 := keep_free u1 HLT.out h'; replace u2 := keep_free u2 HLT.out h'; have HLQ := HLT; replace HLT := Lib.hid (Nat.lt_of_lt_of_le HLT.out (h').size);  obtain ⟨po, co, rfl, _⟩ := hvo.shape; have HVO := Lib.hid (And.intro hvo hso); have HSA := Lib.hid hsa; clear hvo hso hsa; have h' := Lib.hid h'; have hSw := r6_call (by assumption) h'))
  have HSW := Lib.hid (below_call HW1.out hSw.1)
  clear hSw
  go_wp2_with fail
  generalize andL KKA KKB = KF at *
  have hs3 := three_stored t0 t1 t2 (.int .u64 (repE r KF)) (.int .u64 (topL KF)) (.slice po (holesL KF).length co)
  refine bodyPost_ret (v := .tuple #[.agg #[.int .u64 (repE r KF), .int .u64 (topL KF), .slice po (holesL KF).length co], .bool (someE KF)]) (by simp [results, Tryd.results28, go_sem, hs3.1, hs3.2.1, hs3.2.2]) rfl ?_
  have hv := soft_set (o := 2) (soft_set (o := 1) (soft_set (o := 0) HVO.out HLQ.out (.int .u64 (repE r KF))) HLQ.out (.int .u64 (topL KF))) HLQ.out (.slice po (holesL KF).length co)
  exact ⟨_, rfl, hv.1, HSA.out, hv.2.base (Nat.le_trans HW1.out.size (Nat.le_of_lt HLQ.out)), ((HSW.out.setCell (p := ⟨w1.heap.size, 0, none⟩) HW1.out.size _).setCell (p := ⟨w1.heap.size, 1, none⟩) HW1.out.size _).setCell (p := ⟨w1.heap.size, 2, none⟩) HW1.out.size _⟩
set_option maxRecDepth 100000 in
set_option maxHeartbeats 4000000 in
theorem jMeet_any (r ma mb : Int) (A B : List Iv) (sa sb : Value) (w : World) (ha : EntAt w sa ma A) (hb : EntAt w sb mb B) :
    Calls Tryd.prog 7 #[.agg #[.int .u64 r, .int .u64 ma, sa], .agg #[.int .u64 r, .int .u64 mb, sb]] w (IsEO r (andL (knownL ma A) (knownL mb B)) w) := by
  obtain ⟨p, cap, rfl, _⟩ := ha.any.at'.shape
  obtain ⟨p', cap', rfl, _⟩ := hb.any.at'.shape
  obtain ⟨wA, hwA⟩ : ∃ wA, w.alloc (.cells #[.int .u64 r, .int .u64 ma, .slice p A.length cap] 26) = wA := ⟨_, rfl⟩
  have hbA : Below w.heap.size w wA := hwA ▸ below_new w _
  have eA : E3 wA w.heap.size r ma (.slice p A.length cap) := hwA ▸ E3.new w r ma (.slice p A.length cap) 26 _ rfl
  obtain ⟨w1, hw1⟩ : ∃ w1, wA.alloc (.cells #[.int .u64 r, .int .u64 mb, .slice p' B.length cap'] 26) = w1 := ⟨_, rfl⟩
  have hb1' : Below wA.heap.size wA w1 := hw1 ▸ below_new wA _
  have eB : E3 w1 wA.heap.size r mb (.slice p' B.length cap') := hw1 ▸ E3.new wA r mb (.slice p' B.length cap') 26 _ rfl
  have hnA : w.heap.size < wA.heap.size := World.block_lt_of_cell? wA _ eA.1
  have hnB : wA.heap.size < w1.heap.size := World.block_lt_of_cell? w1 _ eB.1
  obtain ⟨w2, hw2⟩ : ∃ w2, w1.alloc (.cells #[.int .u64 0, .int .u64 0, .slice none 0 0] 26) = w2 := ⟨_, rfl⟩
  have hB2 : Below w1.heap.size w1 w2 := hw2 ▸ below_new w1 _
  have t0 : w2.cell? ⟨w1.heap.size, 0, none⟩ = some (.int .u64 0) := by rw [← hw2]; simp
  have t1 : w2.cell? ⟨w1.heap.size, 1, none⟩ = some (.int .u64 0) := by rw [← hw2]; simp
  have t2 : w2.cell? ⟨w1.heap.size, 2, none⟩ = some (.slice none 0 0) := by rw [← hw2]; simp
  have u0 : w2.frozen? ⟨w1.heap.size, 0, none⟩ = false := by rw [← hw2]; simp
  have u1 : w2.frozen? ⟨w1.heap.size, 1, none⟩ = false := by rw [← hw2]; simp
  have u2 : w2.frozen? ⟨w1.heap.size, 2, none⟩ = false := by rw [← hw2]; simp
  have HLT : Hid (w1.heap.size < w2.heap.size) := Lib.hid (World.block_lt_of_cell? w2 _ t0)
  have hbw1 := below_call hbA hb1'
  have hbW := below_call hbw1 hB2
  have eA2 := (eA.call hb1').call hB2
  have eB2 := eB.call hB2
  have HS0 := Lib.hid (r6_drew ⟨hB2, eA2.1, eA2.2.1, eA2.2.2, eB2.1, eB2.2.1, eB2.2.2⟩)
  have HW1 := Lib.hid hbw1
  have HNA : Hid (w.heap.size ≠ w1.heap.size) := Lib.hid (by omega)
  have HNB : Hid (wA.heap.size ≠ w1.heap.size) := Lib.hid (by omega)
  have HOA := Lib.hid (ha.call hbW)
  have HOB := Lib.hid (hb.call hbW)
  have KL := Lib.hid onLists_any
  have hfd : ∀ W : World, (Instr.field 42 (.agg #[.func (.func 28) #[.func (.func 21) #[] #[]] #[], .func (.func 28) #[.func (.func 29) #[] #[]] #[], .func (.func 28) #[.func (.func 30) #[] #[]] #[]]) 1).run Tryd.prog W = .ok (.func (.func 28) #[.func (.func 29) #[] #[]] #[]) W := fun _ => by kernel_rfl
  have KE := Lib.hid (fun W h h' => entriesM r ma mb A B (.slice p A.length cap) (.slice p' B.length cap') W h h')
  clear ha hb hbA hb1' hbw1 eA eB eA2 eB2 hnA hnB hB2 hbW
  generalize andL (knownL ma A) (knownL mb B) = KF at *
  go_enter Tryd.func7, Tryd.ntmps7
  go_wp2_with fail
  clear hwA hw1 hw2
  go_region_held3 (fun w' => Below w1.heap.size w1 w' ∧ w'.cell? ⟨w.heap.size, 0, none⟩ = some (.int .u64 r) ∧ w'.cell? ⟨w.heap.size, 1, none⟩ = some (.int .u64 ma) ∧ w'.cell? ⟨w.heap.size, 2, none⟩ = some (.slice p A.length cap) ∧ w'.cell? ⟨wA.heap.size, 0, none⟩ = some (.int .u64 r) ∧ w'.cell? ⟨wA.heap.size, 1, none⟩ = some (.int .u64 mb) ∧ w'.cell? ⟨wA.heap.size, 2, none⟩ = some (.slice p' B.length cap'))
    (first
      | exact r6_call (by assumption) (by assumption)
      | exact HS0.out
      | exact r6_set (by assumption) (Nat.le_refl _) HNA.out HNA.out HNA.out HNB.out HNB.out HNB.out _ _ _
      | assumption)
    (first
      | (go_at_call 16; refine (KL.out _).mono ?_; rintro en w3 ⟨rfl, h'⟩; have hh : Below w2.heap.size w2 w3 := (Below.refl _ _).drew.trans h'; replace t0 := keep_cell t0 hh; replace t1 := keep_cell t1 hh; replace t2 := keep_cell t2 hh; replace u0 := keep_free u0 HLT.out hh; replace u1 := keep_free u1 HLT.out hh; replace u2 := keep_free u2 HLT.out hh; replace HLT := Lib.hid (Nat.lt_of_lt_of_le HLT.out (hh).size); replace HOA := Lib.hid (HOA.out.call hh); replace HOB := Lib.hid (HOB.out.call hh);  clear hh; have h' := Lib.hid h')
      | (go_at_call 28; refine (KE.out _ HOA.out HOB.out).mono ?_; rintro en w6 ⟨vo, rfl, hvo, hsa, hso, h'⟩; replace t0 := keep_cell t0 h'; replace t1 := keep_cell t1 h'; replace t2 := keep_cell t2 h'; replace u0 := keep_free u0 HLT.out h'; replace u1 := keep_free u1 HLT.out h'; replace u2 := keep_free u2 HLT.out h'; have HLQ := HLT; replace HLT := Lib.hid (Nat.lt_of_lt_of_le HLT.out (h').size);  obtain ⟨po, co, rfl, _⟩ := hvo.shape; have HVO := Lib.hid (And.intro hvo hso); have HSA := Lib.hid hsa; clear hvo hso hsa; have h' := Lib.hid h'; have hSw := r6_call (by assumption) h'))
  have HSW := Lib.hid (below_call HW1.out hSw.1)
  clear hSw
  go_wp2_with fail
  have hs3 := three_stored t0 t1 t2 (.int .u64 (repE r KF)) (.int .u64 (topL KF)) (.slice po (holesL KF).length co)
  refine bodyPost_ret (v := .tuple #[.agg #[.int .u64 (repE r KF), .int .u64 (topL KF), .slice po (holesL KF).length co], .bool (someE KF)]) (by simp [results, Tryd.results7, go_sem, hs3.1, hs3.2.1, hs3.2.2]) rfl ?_
  have hv := soft_set (o := 2) (soft_set (o := 1) (soft_set (o := 0) HVO.out HLQ.out (.int .u64 (repE r KF))) HLQ.out (.int .u64 (topL KF))) HLQ.out (.slice po (holesL KF).length co)
  exact ⟨_, rfl, hv.1, HSA.out, hv.2.base (Nat.le_trans HW1.out.size (Nat.le_of_lt HLQ.out)), ((HSW.out.setCell (p := ⟨w1.heap.size, 0, none⟩) HW1.out.size _).setCell (p := ⟨w1.heap.size, 1, none⟩) HW1.out.size _).setCell (p := ⟨w1.heap.size, 2, none⟩) HW1.out.size _⟩
set_option maxRecDepth 100000 in
set_option maxHeartbeats 4000000 in
theorem entriesS (r ma mb : Int) (A B : List Iv) (sa sb : Value) (w : World) (ha : EntAt w sa ma A) (hb : EntAt w sb mb B) :
    Calls Tryd.prog 28 #[.func (.func 30) #[] #[], .agg #[.int .u64 r, .int .u64 ma, sa], .agg #[.int .u64 r, .int .u64 mb, sb]] w (IsEO r (subL (knownL ma A) (knownL mb B)) w) := by
  obtain ⟨p, cap, rfl, _⟩ := ha.any.at'.shape
  obtain ⟨p', cap', rfl, _⟩ := hb.any.at'.shape
  obtain ⟨wA, hwA⟩ : ∃ wA, w.alloc (.cells #[.int .u64 r, .int .u64 ma, .slice p A.length cap] 26) = wA := ⟨_, rfl⟩
  have hbA : Below w.heap.size w wA := hwA ▸ below_new w _
  have eA : E3 wA w.heap.size r ma (.slice p A.length cap) := hwA ▸ E3.new w r ma (.slice p A.length cap) 26 _ rfl
  obtain ⟨w1, hw1⟩ : ∃ w1, wA.alloc (.cells #[.int .u64 r, .int .u64 mb, .slice p' B.length cap'] 26) = w1 := ⟨_, rfl⟩
  have hb1' : Below wA.heap.size wA w1 := hw1 ▸ below_new wA _
  have eB : E3 w1 wA.heap.size r mb (.slice p' B.length cap') := hw1 ▸ E3.new wA r mb (.slice p' B.length cap') 26 _ rfl
  have hnA : w.heap.size < wA.heap.size := World.block_lt_of_cell? wA _ eA.1
  have hnB : wA.heap.size < w1.heap.size := World.block_lt_of_cell? w1 _ eB.1
  obtain ⟨w2, hw2⟩ : ∃ w2, w1.alloc (.cells #[.int .u64 0, .int .u64 0, .slice none 0 0] 26) = w2 := ⟨_, rfl⟩
  have hB2 : Below w1.heap.size w1 w2 := hw2 ▸ below_new w1 _
  have t0 : w2.cell? ⟨w1.heap.size, 0, none⟩ = some (.int .u64 0) := by rw [← hw2]; simp
  have t1 : w2.cell? ⟨w1.heap.size, 1, none⟩ = some (.int .u64 0) := by rw [← hw2]; simp
  have t2 : w2.cell? ⟨w1.heap.size, 2, none⟩ = some (.slice none 0 0) := by rw [← hw2]; simp
  have u0 : w2.frozen? ⟨w1.heap.size, 0, none⟩ = false := by rw [← hw2]; simp
  have u1 : w2.frozen? ⟨w1.heap.size, 1, none⟩ = false := by rw [← hw2]; simp
  have u2 : w2.frozen? ⟨w1.heap.size, 2, none⟩ = false := by rw [← hw2]; simp
  have HLT : Hid (w1.heap.size < w2.heap.size) := Lib.hid (World.block_lt_of_cell? w2 _ t0)
  have hbw1 := below_call hbA hb1'
  have hbW := below_call hbw1 hB2
  have eA2 := (eA.call hb1').call hB2
  have eB2 := eB.call hB2
  have HS0 := Lib.hid (r6_drew ⟨hB2, eA2.1, eA2.2.1, eA2.2.2, eB2.1, eB2.2.1, eB2.2.2⟩)
  have HW1 := Lib.hid hbw1
  have HNA : Hid (w.heap.size ≠ w1.heap.size) := Lib.hid (by omega)
  have HNB : Hid (wA.heap.size ≠ w1.heap.size) := Lib.hid (by omega)
  have HOA := Lib.hid (ha.call hbW)
  have HOB := Lib.hid (hb.call hbW)
  have KA := Lib.hid (fun W h => eKnown_any r ma A (.slice p A.length cap) W h)
  have KB := Lib.hid (fun W h => eKnown_any r mb B (.slice p' B.length cap') W h)
  have KD := Lib.hid setMinus_any
  have KO := Lib.hid eOf_any
  have hga := known_good ha.good
  have hgb := known_good hb.good
  have hla := known_count ha.good
  have hlb := known_count hb.good
  have hfa := ha.any.len
  have hfb := hb.any.len
  have HGA := Lib.hid (And.intro hga (show (knownL ma A).length ≤ 5001 by omega))
  have HGB := Lib.hid (And.intro hgb (show (knownL mb B).length ≤ 5001 by omega))
  have hff := sub_count hga hgb
  have HGF := Lib.hid (And.intro (subL_good hga hgb) (show (subL (knownL ma A) (knownL mb B)).length ≤ 10002 by omega))
  clear ha hb hga hgb hla hlb hfa hfb hff hbA hb1' hbw1 eA eB eA2 eB2 hnA hnB hB2 hbW
  go_enter Tryd.func28, Tryd.ntmps28
  go_wp2_with fail
  clear hwA hw1 hw2
  generalize knownL ma A = KKA at *
  generalize knownL mb B = KKB at *
  go_region_held3 (fun w' => Below w1.heap.size w1 w' ∧ w'.cell? ⟨w.heap.size, 0, none⟩ = some (.int .u64 r) ∧ w'.cell? ⟨w.heap.size, 1, none⟩ = some (.int .u64 ma) ∧ w'.cell? ⟨w.heap.size, 2, none⟩ = some (.slice p A.length cap) ∧ w'.cell? ⟨wA.heap.size, 0, none⟩ = some (.int .u64 r) ∧ w'.cell? ⟨wA.heap.size, 1, none⟩ = some (.int .u64 mb) ∧ w'.cell? ⟨wA.heap.size, 2, none⟩ = some (.slice p' B.length cap'))
    (first
      | exact r6_call (by assumption) (by assumption)
      | exact HS0.out
      | exact r6_set (by assumption) (Nat.le_refl _) HNA.out HNA.out HNA.out HNB.out HNB.out HNB.out _ _ _
      | assumption)
    (first
      | (go_at_call 22; (with_reducible change Calls _ _ #[.agg #[.int .u64 r, .int .u64 ma, .slice p A.length cap]] _ _); refine (KA.out _ (HOA.out.call (Below.refl _ _).drew)).mono ?_; rintro en w3 ⟨v1, rfl, hv1, hs1, _, h'⟩; have hh : Below w2.heap.size w2 w3 := (Below.refl _ _).drew.trans h'; replace t0 := keep_cell t0 hh; replace t1 := keep_cell t1 hh; replace t2 := keep_cell t2 hh; replace u0 := keep_free u0 HLT.out hh; replace u1 := keep_free u1 HLT.out hh; replace u2 := keep_free u2 HLT.out hh; replace HLT := Lib.hid (Nat.lt_of_lt_of_le HLT.out (hh).size); replace HOB := Lib.hid (HOB.out.call hh);  have HV1 := Lib.hid (And.intro hv1 hs1); clear hv1 hs1 hh; have h' := Lib.hid h')
      | (go_at_call 22; (with_reducible change Calls _ _ #[.agg #[.int .u64 r, .int .u64 mb, .slice p' B.length cap']] _ _); refine (KB.out _ HOB.out).mono ?_; rintro en w4 ⟨v2, rfl, hv2, hs2, _, h'⟩; replace t0 := keep_cell t0 h'; replace t1 := keep_cell t1 h'; replace t2 := keep_cell t2 h'; replace u0 := keep_free u0 HLT.out h'; replace u1 := keep_free u1 HLT.out h'; replace u2 := keep_free u2 HLT.out h'; replace HLT := Lib.hid (Nat.lt_of_lt_of_le HLT.out (h').size);  replace HV1 := Lib.hid (And.intro (HV1.out.1.call h') HV1.out.2); have HV2 := Lib.hid (And.intro hv2 hs2); clear hv2 hs2; have h' := Lib.hid h')
      | (go_at_call 30; refine (KD.out KKA KKB _ _ _ ⟨HV1.out.1, HGA.out.1, by have := HGA.out.2; omega⟩ ⟨HV2.out.1, HGB.out.1, by have := HGB.out.2; omega⟩).mono ?_; rintro en w5 ⟨v3, rfl, hv3, h'⟩; replace t0 := keep_cell t0 h'; replace t1 := keep_cell t1 h'; replace t2 := keep_cell t2 h'; replace u0 := keep_free u0 HLT.out h'; replace u1 := keep_free u1 HLT.out h'; replace u2 := keep_free u2 HLT.out h'; replace HLT := Lib.hid (Nat.lt_of_lt_of_le HLT.out (h').size);  have HV3 := Lib.hid hv3; clear hv3; have h' := Lib.hid h')
      | (go_at_call 23; refine (KO.out r (subL KKA KKB) _ _ ⟨HV3.out.ivs (by have := HGF.out.2; omega), HGF.out.1, sane_row HV3.out, by have := HGF.out.2; omega⟩).mono ?_; rintro en w6 ⟨vo, rfl, hvo, hsa, hso, h'⟩; replace t0 := keep_cell t0 h'; replace t1 := keep_cell t1 h'; replace t2 := keep_cell t2 h'; replace u0 := keep_free u0 HLT.out h'; replace u1 := keep_free u1 HLT.out h'; replace u2 := keep_free u2 HLT.out h'; have HLQ := HLT; replace HLT := Lib.hid (Nat.lt_of_lt_of_le HLT.out (h').size);  obtain ⟨po, co, rfl, _⟩ := hvo.shape; have HVO := Lib.hid (And.intro hvo hso); have HSA := Lib.hid hsa; clear hvo hso hsa; have h' := Lib.hid h'; have hSw := r6_call (by assumption) h'))
  have HSW := Lib.hid (below_call HW1.out hSw.1)
  clear hSw
  go_wp2_with fail
  generalize subL KKA KKB = KF at *
  have hs3 := three_stored t0 t1 t2 (.int .u64 (repE r KF)) (.int .u64 (topL KF)) (.slice po (holesL KF).length co)
  refine bodyPost_ret (v := .tuple #[.agg #[.int .u64 (repE r KF), .int .u64 (topL KF), .slice po (holesL KF).length co], .bool (someE KF)]) (by simp [results, Tryd.results28, go_sem, hs3.1, hs3.2.1, hs3.2.2]) rfl ?_
  have hv := soft_set (o := 2) (soft_set (o := 1) (soft_set (o := 0) HVO.out HLQ.out (.int .u64 (repE r KF))) HLQ.out (.int .u64 (topL KF))) HLQ.out (.slice po (holesL KF).length co)
  exact ⟨_, rfl, hv.1, HSA.out, hv.2.base (Nat.le_trans HW1.out.size (Nat.le_of_lt HLQ.out)), ((HSW.out.setCell (p := ⟨w1.heap.size, 0, none⟩) HW1.out.size _).setCell (p := ⟨w1.heap.size, 1, none⟩) HW1.out.size _).setCell (p := ⟨w1.heap.size, 2, none⟩) HW1.out.size _⟩
set_option maxRecDepth 100000 in
set_option maxHeartbeats 4000000 in
theorem jMinus_any (r ma mb : Int) (A B : List Iv) (sa sb : Value) (w : World) (ha : EntAt w sa ma A) (hb : EntAt w sb mb B) :
    Calls Tryd.prog 8 #[.agg #[.int .u64 r, .int .u64 ma, sa], .agg #[.int .u64 r, .int .u64 mb, sb]] w (IsEO r (subL (knownL ma A) (knownL mb B)) w) := by
  obtain ⟨p, cap, rfl, _⟩ := ha.any.at'.shape
  obtain ⟨p', cap', rfl, _⟩ := hb.any.at'.shape
  obtain ⟨wA, hwA⟩ : ∃ wA, w.alloc (.cells #[.int .u64 r, .int .u64 ma, .slice p A.length cap] 26) = wA := ⟨_, rfl⟩
  have hbA : Below w.heap.size w wA := hwA ▸ below_new w _
  have eA : E3 wA w.heap.size r ma (.slice p A.length cap) := hwA ▸ E3.new w r ma (.slice p A.length cap) 26 _ rfl
  obtain ⟨w1, hw1⟩ : ∃ w1, wA.alloc (.cells #[.int .u64 r, .int .u64 mb, .slice p' B.length cap'] 26) = w1 := ⟨_, rfl⟩
  have hb1' : Below wA.heap.size wA w1 := hw1 ▸ below_new wA _
  have eB : E3 w1 wA.heap.size r mb (.slice p' B.length cap') := hw1 ▸ E3.new wA r mb (.slice p' B.length cap') 26 _ rfl
  have hnA : w.heap.size < wA.heap.size := World.block_lt_of_cell? wA _ eA.1
  have hnB : wA.heap.size < w1.heap.size := World.block_lt_of_cell? w1 _ eB.1
  obtain ⟨w2, hw2⟩ : ∃ w2, w1.alloc (.cells #[.int .u64 0, .int .u64 0, .slice none 0 0] 26) = w2 := ⟨_, rfl⟩
  have hB2 : Below w1.heap.size w1 w2 := hw2 ▸ below_new w1 _
  have t0 : w2.cell? ⟨w1.heap.size, 0, none⟩ = some (.int .u64 0) := by rw [← hw2]; simp
  have t1 : w2.cell? ⟨w1.heap.size, 1, none⟩ = some (.int .u64 0) := by rw [← hw2]; simp
  have t2 : w2.cell? ⟨w1.heap.size, 2, none⟩ = some (.slice none 0 0) := by rw [← hw2]; simp
  have u0 : w2.frozen? ⟨w1.heap.size, 0, none⟩ = false := by rw [← hw2]; simp
  have u1 : w2.frozen? ⟨w1.heap.size, 1, none⟩ = false := by rw [← hw2]; simp
  have u2 : w2.frozen? ⟨w1.heap.size, 2, none⟩ = false := by rw [← hw2]; simp
  have HLT : Hid (w1.heap.size < w2.heap.size) := Lib.hid (World.block_lt_of_cell? w2 _ t0)
  have hbw1 := below_call hbA hb1'
  have hbW := below_call hbw1 hB2
  have eA2 := (eA.call hb1').call hB2
  have eB2 := eB.call hB2
  have HS0 := Lib.hid (r6_drew ⟨hB2, eA2.1, eA2.2.1, eA2.2.2, eB2.1, eB2.2.1, eB2.2.2⟩)
  have HW1 := Lib.hid hbw1
  have HNA : Hid (w.heap.size ≠ w1.heap.size) := Lib.hid (by omega)
  have HNB : Hid (wA.heap.size ≠ w1.heap.size) := Lib.hid (by omega)
  have HOA := Lib.hid (ha.call hbW)
  have HOB := Lib.hid (hb.call hbW)
  have KL := Lib.hid onLists_any
  have hfd : ∀ W : World, (Instr.field 42 (.agg #[.func (.func 28) #[.func (.func 21) #[] #[]] #[], .func (.func 28) #[.func (.func 29) #[] #[]] #[], .func (.func 28) #[.func (.func 30) #[] #[]] #[]]) 2).run Tryd.prog W = .ok (.func (.func 28) #[.func (.func 30) #[] #[]] #[]) W := fun _ => by kernel_rfl
  have KE := Lib.hid (fun W h h' => entriesS r ma mb A B (.slice p A.length cap) (.slice p' B.length cap') W h h')
  clear ha hb hbA hb1' hbw1 eA eB eA2 eB2 hnA hnB hB2 hbW
  generalize subL (knownL ma A) (knownL mb B) = KF at *
  go_enter Tryd.func8, Tryd.ntmps8
  go_wp2_with fail
  clear hwA hw1 hw2
  go_region_held3 (fun w' => Below w1.heap.size w1 w' ∧ w'.cell? ⟨w.heap.size, 0, none⟩ = some (.int .u64 r) ∧ w'.cell? ⟨w.heap.size, 1, none⟩ = some (.int .u64 ma) ∧ w'.cell? ⟨w.heap.size, 2, none⟩ = some (.slice p A.length cap) ∧ w'.cell? ⟨wA.heap.size, 0, none⟩ = some (.int .u64 r) ∧ w'.cell? ⟨wA.heap.size, 1, none⟩ = some (.int .u64 mb) ∧ w'.cell? ⟨wA.heap.size, 2, none⟩ = some (.slice p' B.length cap'))
    (first
      | exact r6_call (by assumption) (by assumption)
      | exact HS0.out
      | exact r6_set (by assumption) (Nat.le_refl _) HNA.out HNA.out HNA.out HNB.out HNB.out HNB.out _ _ _
      | assumption)
    (first
      | (go_at_call 16; refine (KL.out _).mono ?_; rintro en w3 ⟨rfl, h'⟩; have hh : Below w2.heap.size w2 w3 := (Below.refl _ _).drew.trans h'; replace t0 := keep_cell t0 hh; replace t1 := keep_cell t1 hh; replace t2 := keep_cell t2 hh; replace u0 := keep_free u0 HLT.out hh; replace u1 := keep_free u1 HLT.out hh; replace u2 := keep_free u2 HLT.out hh; replace HLT := Lib.hid (Nat.lt_of_lt_of_le HLT.out (hh).size); replace HOA := Lib.hid (HOA.out.call hh); replace HOB := Lib.hid (HOB.out.call hh);  clear hh; have h' := Lib.hid h')
      | (go_at_call 28; refine (KE.out _ HOA.out HOB.out).mono ?_; rintro en w6 ⟨vo, rfl, hvo, hsa, hso, h'⟩; replace t0 := keep_cell t0 h'; replace t1 := keep_cell t1 h'; replace t2 := keep_cell t2 h'; replace u0 := keep_free u0 HLT.out h'; replace u1 := keep_free u1 HLT.out h'; replace u2 := keep_free u2 HLT.out h'; have HLQ := HLT; replace HLT := Lib.hid (Nat.lt_of_lt_of_le HLT.out (h').size);  obtain ⟨po, co, rfl, _⟩ := hvo.shape; have HVO := Lib.hid (And.intro hvo hso); have HSA := Lib.hid hsa; clear hvo hso hsa; have h' := Lib.hid h'; have hSw := r6_call (by assumption) h'))
  have HSW := Lib.hid (below_call HW1.out hSw.1)
  clear hSw
  go_wp2_with fail
  have hs3 := three_stored t0 t1 t2 (.int .u64 (repE r KF)) (.int .u64 (topL KF)) (.slice po (holesL KF).length co)
  refine bodyPost_ret (v := .tuple #[.agg #[.int .u64 (repE r KF), .int .u64 (topL KF), .slice po (holesL KF).length co], .bool (someE KF)]) (by simp [results, Tryd.results8, go_sem, hs3.1, hs3.2.1, hs3.2.2]) rfl ?_
  have hv := soft_set (o := 2) (soft_set (o := 1) (soft_set (o := 0) HVO.out HLQ.out (.int .u64 (repE r KF))) HLQ.out (.int .u64 (topL KF))) HLQ.out (.slice po (holesL KF).length co)
  exact ⟨_, rfl, hv.1, HSA.out, hv.2.base (Nat.le_trans HW1.out.size (Nat.le_of_lt HLQ.out)), ((HSW.out.setCell (p := ⟨w1.heap.size, 0, none⟩) HW1.out.size _).setCell (p := ⟨w1.heap.size, 1, none⟩) HW1.out.size _).setCell (p := ⟨w1.heap.size, 2, none⟩) HW1.out.size _⟩
set_option maxRecDepth 100000 in
set_option maxHeartbeats 4000000 in
theorem jSubset_any (r ma mb : Int) (A B : List Iv) (sa sb : Value) (w : World) (ha : EntAt w sa ma A) (hb : EntAt w sb mb B) :
    Calls Tryd.prog 15 #[.agg #[.int .u64 r, .int .u64 ma, sa], .agg #[.int .u64 r, .int .u64 mb, sb]] w (IsEnd (decide (subL (knownL ma A) (knownL mb B) = [])) w) := by
  obtain ⟨p, cap, rfl, _⟩ := ha.any.at'.shape
  obtain ⟨p', cap', rfl, _⟩ := hb.any.at'.shape
  obtain ⟨wA, hwA⟩ : ∃ wA, w.alloc (.cells #[.int .u64 r, .int .u64 ma, .slice p A.length cap] 26) = wA := ⟨_, rfl⟩
  have hbA : Below w.heap.size w wA := hwA ▸ below_new w _
  have eA : E3 wA w.heap.size r ma (.slice p A.length cap) := hwA ▸ E3.new w r ma (.slice p A.length cap) 26 _ rfl
  obtain ⟨w1, hw1⟩ : ∃ w1, wA.alloc (.cells #[.int .u64 r, .int .u64 mb, .slice p' B.length cap'] 26) = w1 := ⟨_, rfl⟩
  have hb1' : Below wA.heap.size wA w1 := hw1 ▸ below_new wA _
  have eB : E3 w1 wA.heap.size r mb (.slice p' B.length cap') := hw1 ▸ E3.new wA r mb (.slice p' B.length cap') 26 _ rfl
  have hnA : w.heap.size < wA.heap.size := World.block_lt_of_cell? wA _ eA.1
  have hnB : wA.heap.size < w1.heap.size := World.block_lt_of_cell? w1 _ eB.1
  have hbW := below_call hbA hb1'
  have eA2 := eA.call hb1'
  have HS0 := Lib.hid (r6_drew ⟨Below.refl w1.heap.size w1, eA2.1, eA2.2.1, eA2.2.2, eB.1, eB.2.1, eB.2.2⟩)
  have HOA := Lib.hid (ha.call hbW)
  have HOB := Lib.hid (hb.call hbW)
  have KA := Lib.hid (fun W h => eKnown_any r ma A (.slice p A.length cap) W h)
  have KB := Lib.hid (fun W h => eKnown_any r mb B (.slice p' B.length cap') W h)
  have KD := Lib.hid setSubset_any
  have hga := known_good ha.good
  have hgb := known_good hb.good
  have hla := known_count ha.good
  have hlb := known_count hb.good
  have hfa := ha.any.len
  have hfb := hb.any.len
  have HGA := Lib.hid (And.intro hga (show (knownL ma A).length ≤ 5001 by omega))
  have HGB := Lib.hid (And.intro hgb (show (knownL mb B).length ≤ 5001 by omega))
  have HW1 := Lib.hid hbW
  clear ha hb hga hgb hla hlb hfa hfb hbA hb1' eA eB eA2 hbW hnA hnB
  go_enter Tryd.func15, Tryd.ntmps15
  go_wp2_with fail
  clear hwA hw1
  generalize knownL ma A = KKA at *
  generalize knownL mb B = KKB at *
  go_region_held3 (fun w' => Below w1.heap.size w1 w' ∧ w'.cell? ⟨w.heap.size, 0, none⟩ = some (.int .u64 r) ∧ w'.cell? ⟨w.heap.size, 1, none⟩ = some (.int .u64 ma) ∧ w'.cell? ⟨w.heap.size, 2, none⟩ = some (.slice p A.length cap) ∧ w'.cell? ⟨wA.heap.size, 0, none⟩ = some (.int .u64 r) ∧ w'.cell? ⟨wA.heap.size, 1, none⟩ = some (.int .u64 mb) ∧ w'.cell? ⟨wA.heap.size, 2, none⟩ = some (.slice p' B.length cap'))
    (first
      | exact r6_call (by assumption) (by assumption)
      | exact HS0.out
      | exact r6_drew (by assumption)
      | assumption)
    (first
      | (go_at_call 22; (with_reducible change Calls _ _ #[.agg #[.int .u64 r, .int .u64 ma, .slice p A.length cap]] _ _); refine (KA.out _ (HOA.out.call (Below.refl _ _).drew)).mono ?_; rintro en w3 ⟨v1, rfl, hv1, _, _, h'⟩; have hh : Below w1.heap.size w1 w3 := (Below.refl _ _).drew.trans h'; replace HOB := Lib.hid (HOB.out.call hh); have HV1 := Lib.hid hv1; clear hv1 hh; have h' := Lib.hid h')
      | (go_at_call 22; (with_reducible change Calls _ _ #[.agg #[.int .u64 r, .int .u64 mb, .slice p' B.length cap']] _ _); refine (KB.out _ HOB.out).mono ?_; rintro en w4 ⟨v2, rfl, hv2, _, _, h'⟩; replace HV1 := Lib.hid (HV1.out.call h'); have HV2 := Lib.hid hv2; clear hv2; have h' := Lib.hid h')
      | (go_at_call 27; refine (KD.out KKA KKB _ _ _ ⟨HV1.out, HGA.out.1, by have := HGA.out.2; omega⟩ ⟨HV2.out, HGB.out.1, by have := HGB.out.2; omega⟩).mono ?_; rintro en w5 ⟨rfl, h'⟩; have h' := Lib.hid h'; have hSw := r6_call (by assumption) h'))
  have HSW := Lib.hid (below_call HW1.out hSw.1)
  clear hSw
  generalize decide (subL KKA KKB = []) = bb at *
  go_wp2_with fail
  go_ret
  exact ⟨rfl, HSW.out⟩
set_option maxRecDepth 100000 in
set_option maxHeartbeats 4000000 in
theorem jAdd_any (r m : Int) (H : List Iv) (s : Value) (c : Int) (w : World) (he : EntAt w s m H) (h0 : 0 ≤ c) (h1 : c ≤ 18446744073709551615) :
    Calls Tryd.prog 12 #[.agg #[.int .u64 r, .int .u64 m, s], .int .u64 c] w (IsEA r (orL (knownL m H) [(c, c)]) w) := by
  obtain ⟨p, cap, rfl, _⟩ := he.any.at'.shape
  obtain ⟨wA, hwA⟩ : ∃ wA, w.alloc (.cells #[.int .u64 r, .int .u64 m, .slice p H.length cap] 26) = wA := ⟨_, rfl⟩
  have hbA : Below w.heap.size w wA := hwA ▸ below_new w _
  have eA : E3 wA w.heap.size r m (.slice p H.length cap) := hwA ▸ E3.new w r m (.slice p H.length cap) 26 _ rfl
  obtain ⟨w2, hw2⟩ : ∃ w2, wA.alloc (.cells #[.int .u64 0, .int .u64 0, .slice none 0 0] 26) = w2 := ⟨_, rfl⟩
  have hB2 : Below wA.heap.size wA w2 := hw2 ▸ below_new wA _
  have t0 : w2.cell? ⟨wA.heap.size, 0, none⟩ = some (.int .u64 0) := by rw [← hw2]; simp
  have t1 : w2.cell? ⟨wA.heap.size, 1, none⟩ = some (.int .u64 0) := by rw [← hw2]; simp
  have t2 : w2.cell? ⟨wA.heap.size, 2, none⟩ = some (.slice none 0 0) := by rw [← hw2]; simp
  have u0 : w2.frozen? ⟨wA.heap.size, 0, none⟩ = false := by rw [← hw2]; simp
  have u1 : w2.frozen? ⟨wA.heap.size, 1, none⟩ = false := by rw [← hw2]; simp
  have u2 : w2.frozen? ⟨wA.heap.size, 2, none⟩ = false := by rw [← hw2]; simp
  have HLT : Hid (wA.heap.size < w2.heap.size) := Lib.hid (World.block_lt_of_cell? w2 _ t0)
  obtain ⟨x0, x1, x2⟩ := eA.call hB2
  have HB := Lib.hid (below_call hbA hB2)
  have HO := Lib.hid (he.call (below_call hbA hB2))
  have KK := Lib.hid (fun W h => eKnown_any r m H (.slice p H.length cap) W h)
  have KU := Lib.hid setUnion_any
  have KO := Lib.hid eOf_any
  have hga := known_good he.good
  have hsg := single_good h0 h1
  have hla := known_count he.good
  have hfa := he.any.len
  have hoc := or_count hga hsg
  simp only [List.length_cons, List.length_nil] at hoc
  have HGA := Lib.hid (And.intro hga (show (knownL m H).length ≤ 5001 by omega))
  have HGF := Lib.hid (And.intro (orL_good hga hsg) (show (orL (knownL m H) [(c, c)]).length ≤ 10002 by omega))
  have HSG := Lib.hid hsg
  have HWA := Lib.hid hbA
  clear he hga hsg hla hfa hoc hbA hB2 eA
  go_enter Tryd.func12, Tryd.ntmps12
  go_wp2_with fail
  clear hwA hw2
  generalize knownL m H = KKA at *
  refine (KK.out _ HO.out).mono ?_
  rintro e w3 ⟨v1, rfl, hv1, _, _, h⟩
  replace t0 := keep_cell t0 h
  replace t1 := keep_cell t1 h
  replace t2 := keep_cell t2 h
  replace u0 := keep_free u0 HLT.out h
  replace u1 := keep_free u1 HLT.out h
  replace u2 := keep_free u2 HLT.out h
  replace HLT := Lib.hid (Nat.lt_of_lt_of_le HLT.out h.size)
  replace x0 := keep_cell x0 h
  replace x1 := keep_cell x1 h
  replace x2 := keep_cell x2 h
  have HV1 := Lib.hid hv1; clear hv1
  have HB3 := Lib.hid (below_call HB.out h); clear h
  go_wp2_with fail
  obtain ⟨w4, hw4⟩ : ∃ w4, w3.alloc (.cells #[.int .u64 c, .int .u64 c] 40) = w4 := ⟨_, rfl⟩
  have h : Below w3.heap.size w3 w4 := hw4 ▸ below_new w3 _
  have ho1 : OpAt w4 (.slice (some ⟨w3.heap.size, 0, none⟩) 1 1) [(c, c)] := hw4 ▸ one_op w3 c c 40 HSG.out
  replace t0 := keep_cell t0 h
  replace t1 := keep_cell t1 h
  replace t2 := keep_cell t2 h
  replace u0 := keep_free u0 HLT.out h
  replace u1 := keep_free u1 HLT.out h
  replace u2 := keep_free u2 HLT.out h
  replace HLT := Lib.hid (Nat.lt_of_lt_of_le HLT.out h.size)
  replace x0 := keep_cell x0 h
  replace x1 := keep_cell x1 h
  replace x2 := keep_cell x2 h
  replace HV1 := Lib.hid (HV1.out.call h)
  have HB4 := Lib.hid (below_call HB3.out h); clear h
  rw [hw4]
  clear hw4
  refine (KU.out KKA [(c, c)] _ _ _ ⟨HV1.out, HGA.out.1, by have := HGA.out.2; omega⟩ ho1).mono ?_
  rintro e w5 ⟨v2, rfl, hv2, h⟩
  replace t0 := keep_cell t0 h
  replace t1 := keep_cell t1 h
  replace t2 := keep_cell t2 h
  replace u0 := keep_free u0 HLT.out h
  replace u1 := keep_free u1 HLT.out h
  replace u2 := keep_free u2 HLT.out h
  replace HLT := Lib.hid (Nat.lt_of_lt_of_le HLT.out h.size)
  replace x0 := keep_cell x0 h
  replace x1 := keep_cell x1 h
  replace x2 := keep_cell x2 h
  have HV2 := Lib.hid hv2; clear hv2 ho1
  have HB5 := Lib.hid (below_call HB4.out h); clear h
  generalize orL KKA [(c, c)] = KF at *
  go_wp2_with fail
  refine (KO.out r KF _ _ ⟨HV2.out.ivs (by have := HGF.out.2; omega), HGF.out.1, sane_row HV2.out, by have := HGF.out.2; omega⟩).mono ?_
  rintro e w6 ⟨vo, rfl, hvo, hsa, hso, h⟩
  have HLQ := HLT
  replace t0 := keep_cell t0 h
  replace t1 := keep_cell t1 h
  replace t2 := keep_cell t2 h
  replace u0 := keep_free u0 HLT.out h
  replace u1 := keep_free u1 HLT.out h
  replace u2 := keep_free u2 HLT.out h
  replace HLT := Lib.hid (Nat.lt_of_lt_of_le HLT.out h.size)
  replace x0 := keep_cell x0 h
  replace x1 := keep_cell x1 h
  replace x2 := keep_cell x2 h
  obtain ⟨po, co, rfl, _⟩ := hvo.shape
  have HVO := Lib.hid (And.intro hvo hso); have HSA := Lib.hid hsa; clear hvo hso hsa
  have HB6 := Lib.hid (below_call HB5.out h); clear h
  have hn := below_new w6 (.cells #[.int .u64 (repE r KF), .int .u64 (topL KF), .slice po (holesL KF).length co] 26)
  have y0 := keep_cell t0 hn
  have y1 := keep_cell t1 hn
  have y2 := keep_cell t2 hn
  have v0 := keep_free u0 HLT.out hn
  have v1 := keep_free u1 HLT.out hn
  have v2 := keep_free u2 HLT.out hn
  have HN := Lib.hid hn; clear hn t0 t1 t2 u0 u1 u2
  go_wp2_with fail
  have hs3 := three_stored y0 y1 y2 (.int .u64 (repE r KF)) (.int .u64 (topL KF)) (.slice po (holesL KF).length co)
  refine bodyPost_ret (v := .agg #[.int .u64 (repE r KF), .int .u64 (topL KF), .slice po (holesL KF).length co]) (by simp [results, Tryd.results12, go_sem, hs3.1, hs3.2.1, hs3.2.2]) rfl ?_
  have hv0 := And.intro (HVO.out.1.call HN.out) (HVO.out.2.call HN.out)
  have hv := soft_set (o := 2) (soft_set (o := 1) (soft_set (o := 0) hv0 HLQ.out (.int .u64 (repE r KF))) HLQ.out (.int .u64 (topL KF))) HLQ.out (.slice po (holesL KF).length co)
  exact ⟨_, rfl, hv.1, HSA.out, hv.2.base (Nat.le_trans HWA.out.size (Nat.le_of_lt HLQ.out)), (((below_call HB6.out HN.out).setCell (p := ⟨wA.heap.size, 0, none⟩) HWA.out.size _).setCell (p := ⟨wA.heap.size, 1, none⟩) HWA.out.size _).setCell (p := ⟨wA.heap.size, 2, none⟩) HWA.out.size _⟩
theorem j_next (x : Int) (w : World) (h0 : 0 ≤ x) (h : x < 18446744073709551615) :
    Calls Tryd.prog 25 #[.int .u64 x] w (fun e w' => e = .returned (.tuple #[.int .u64 (x + 1), .bool true]) ∧ w = w') := by
  go_enter Tryd.func25, Tryd.ntmps25
  go_wp2
  go_ret2
  exact ⟨rfl, rfl⟩
theorem j_next_top (w : World) :
    Calls Tryd.prog 25 #[.int .u64 18446744073709551615] w (fun e w' => e = .returned (.tuple #[.int .u64 0, .bool false]) ∧ w = w') := by
  go_enter Tryd.func25, Tryd.ntmps25
  go_wp2
  go_ret2
  exact ⟨rfl, rfl⟩
set_option maxRecDepth 100000 in
set_option maxHeartbeats 2000000 in
theorem jNext_any (r m : Int) (H : List Iv) (s : Value) (w : World) (he : EntAt w s m H) :
    Calls Tryd.prog 13 #[.agg #[.int .u64 r, .int .u64 m, s]] w (IsNB8 (nextN (knownL m H)) (nextB (knownL m H)) w) := by
  obtain ⟨p, cap, rfl, _⟩ := he.any.at'.shape
  have hb := below_new w (.cells #[.int .u64 r, .int .u64 m, .slice p H.length cap] 26)
  have K := Lib.hid (eCanon_any r m H _ _ (he.call hb))
  have HGA := Lib.hid (known_good he.good)
  have HB := Lib.hid hb; clear hb he
  generalize knownL m H = KK at *
  go_enter Tryd.func13, Tryd.ntmps13
  go_wp2_with fail
  refine K.out.mono ?_
  rintro e w1 ⟨v, rfl, hv, _, _, h⟩
  obtain ⟨q, cq, rfl, _⟩ := hv.shape
  have hb1 := below_call (below_call HB.out h) (below_new w1 (.cells #[.int .u64 (repE r KK), .int .u64 (topL KK), .slice q (holesL KK).length cq] 26))
  have H1 := Lib.hid hb1; clear h hb1 hv
  by_cases hL : KK = []
  · subst hL
    have e1 : someE [] = false := rfl
    have HN : Hid (nextN [] = 0 ∧ nextB [] = true) := Lib.hid ⟨rfl, rfl⟩
    generalize nextN [] = nn at *
    generalize nextB [] = nb at *
    rw [e1]
    generalize repE r [] = rr at *
    generalize topL [] = tt at *
    generalize (holesL []).length = ll at *
    go_wp2_with fail
    go_ret2
    exact ⟨by rw [HN.out.1, HN.out.2]; rfl, H1.out⟩
  · have e1 : someE KK = true := someE_iff.2 hL
    have htr := top_range HGA.out hL
    have hn : nextN KK = if topL KK = UM then 0 else topL KK + 1 := by unfold nextN; rw [if_neg hL]
    have hnb : nextB KK = !decide (topL KK = UM) := by unfold nextB; simp [hL]
    have HN := Lib.hid (And.intro hn hnb)
    rw [e1]
    unfold UM at *
    generalize nextN KK = nn at *
    generalize nextB KK = nb at *
    generalize repE r KK = rr at *
    generalize topL KK = t at *
    generalize (holesL KK).length = ll at *
    by_cases hm : t = 18446744073709551615
    · rw [if_pos hm, show (!decide (t = 18446744073709551615)) = false from by simp [hm]] at HN
      subst hm
      clear hL htr hn hnb
      go_wp2_with fail
      refine (j_next_top _).mono ?_
      rintro e w2 ⟨rfl, rfl⟩
      go_wp2_with fail
      go_ret2
      exact ⟨by rw [HN.out.1, HN.out.2]; rfl, H1.out⟩
    · rw [if_neg hm, show (!decide (t = 18446744073709551615)) = true from by simp [hm]] at HN
      have KM := Lib.hid (fun w => j_next t w htr.1 (by have := htr.2; omega))
      clear hL htr hn hnb hm
      go_wp2_with fail
      refine (KM.out _).mono ?_
      rintro e w2 ⟨rfl, rfl⟩
      go_wp2_with fail
      go_ret2
      exact ⟨by rw [HN.out.1, HN.out.2]; rfl, H1.out⟩
theorem joinC : JoinC := ⟨jUnion_any, jMeet_any, jMinus_any, jSubset_any, jAdd_any, jNext_any⟩
end Go.Proofs.YtnlbohaealkelaaDoor
