/- What the results of layer 8 tell in every state, out of what package join says. Conditions: the contracts of package join. -/
import Derived.Test.YtnlbohaealkelaaDoorJAlive
import Derived.Test.YtnlbohaealkelaaDoorNSetC
import Derived.Deep.RegionHeld3
namespace Go.Proofs.YtnlbohaealkelaaDoor
open Go.RowKit
set_option maxRecDepth 100000 in
set_option maxHeartbeats 4000000 in
theorem lawDenotes8_any (C : JoinC) (ra ma rb mb : Int) (sa sb : Value) (c : Int) (hc : 0 ≤ c ∧ c ≤ 18446744073709551615) (w : World) (hg : ErrT w) (ha : entArg8 w ma sa) (hb : entArg8 w mb sb) :
    Calls Tryd.prog 3 #[.agg #[.int .u64 ra, .int .u64 ma, sa], .agg #[.int .u64 rb, .int .u64 mb, sb], .int .u64 c] w (IsEnd true w) := by
  have KL := Lib.hid (alive8_any C)
  have HG0 := Lib.hid hg; clear hg
  obtain ⟨pa, na, ca, rfl⟩ := ha.shape
  obtain ⟨pb, nb, cb, rfl⟩ := hb.shape
  obtain ⟨w1, hw1⟩ : ∃ w', w.alloc (.cells #[.int .u64 ra, .int .u64 ma, .slice pa na ca] 26) = w' := ⟨_, rfl⟩
  have h : Below w.heap.size w w1 := hw1 ▸ below_new w _
  have Ea_1 : E3 w1 w.heap.size ra ma (.slice pa na ca) := hw1 ▸ E3.new w _ _ _ _ _ rfl
  have B_1 := h
  clear h
  obtain ⟨w2, hw2⟩ : ∃ w', w1.alloc (.cells #[.int .u64 rb, .int .u64 mb, .slice pb nb cb] 26) = w' := ⟨_, rfl⟩
  have h : Below w1.heap.size w1 w2 := hw2 ▸ below_new w1 _
  have Ea_2 := Ea_1.call h
  have Eb_2 : E3 w2 w1.heap.size rb mb (.slice pb nb cb) := hw2 ▸ E3.new w1 _ _ _ _ _ rfl
  have B_2 := below_call B_1 h
  clear h
  have oa0 := Ea_2.1; have oa1 := Ea_2.2.1; have oa2 := Ea_2.2.2
  have ob0 := Eb_2.1; have ob1 := Eb_2.2.1; have ob2 := Eb_2.2.2
  obtain ⟨w3, hw3⟩ : ∃ w', w2.alloc (.cells #[.int .u64 ra, .int .u64 ma, .slice pa na ca, .int .u64 rb, .int .u64 mb, .slice pb nb cb] 26) = w' := ⟨_, rfl⟩
  have h : Below w2.heap.size w2 w3 := hw3 ▸ below_new w2 _
  have Ea_3 := Ea_2.call h
  have Eb_3 := Eb_2.call h
  have B_3 := below_call B_2 h
  clear h
  have hall : ∀ i, i < 2 → okE w ((pick2 (ra, ma, Value.slice pa na ca) (rb, mb, Value.slice pb nb cb)) 0).1 ((pick2 (ra, ma, Value.slice pa na ca) (rb, mb, Value.slice pb nb cb)) i) ∨ badE w ((pick2 (ra, ma, Value.slice pa na ca) (rb, mb, Value.slice pb nb cb)) 0).1 ((pick2 (ra, ma, Value.slice pa na ca) (rb, mb, Value.slice pb nb cb)) i) := fun i hi => by
    obtain rfl | rfl : i = 0 ∨ i = 1 := by omega
    · exact ha.split ra ra
    · exact hb.split rb ra
  obtain ⟨rr, hok, hKR⟩ := rightsE_any 2 w2.heap.size 2 (pick2 (ra, ma, Value.slice pa na ca) (rb, mb, Value.slice pb nb cb)) w3 w B_3 (by omega) (hw3 ▸ list_two w2 (ra, ma, Value.slice pa na ca) (rb, mb, Value.slice pb nb cb) _) hall
  obtain ⟨a0, a1, a2⟩ := Ea_3
  obtain ⟨b0, b1, b2⟩ := Eb_3
  have KR := Lib.hid hKR
  have HB_3 := Lib.hid B_3
  clear hall hKR Ea_1 Ea_2 Eb_2 B_1 B_2 B_3
  have HOK := Lib.hid hok; clear hok
  have HSa := Lib.hid ha.2.1; clear ha
  have HSb := Lib.hid hb.2.1; clear hb
  have HC := Lib.hid C; clear C
  go_enter Tryd.func3, Tryd.ntmps3
  go_wp2_with fail
  clear hw1 hw2 hw3
  clear oa0 oa1 oa2 ob0 ob1 ob2
  refine KR.out.mono ?_
  rintro e w4 ⟨rfl, h⟩
  have Ea := E3.call (⟨a0, a1, a2⟩ : E3 w3 _ ra ma (.slice pa na ca)) h; clear a0 a1 a2
  have Eb := E3.call (⟨b0, b1, b2⟩ : E3 w3 _ rb mb (.slice pb nb cb)) h; clear b0 b1 b2
  have HB_4 := Lib.hid (below_call HB_3.out h); clear h
  cases rr with
  | false =>
    clear HOK HC Ea HSa Eb HSb HG0
    go_wp2_with fail
    refine (KL.out _).mono ?_
    rintro e w5 ⟨rfl, h⟩
    have HB_5 := Lib.hid (below_call HB_4.out h)
    go_wp2_with fail
    go_ret
    exact ⟨rfl, HB_5.out⟩
  | true =>
    obtain ⟨hr0a, A, hea, hla⟩ := (HOK.out rfl 0 (by omega)).ent HSa.out; clear hr0a
    obtain ⟨hr0b, B, heb, hlb⟩ := (HOK.out rfl 1 (by omega)).ent HSb.out
    have hrb : rb = ra := hr0b; clear hr0b; subst rb
    have Ha_4 : Hid (InE w4 _ ra ma (.slice pa na ca) A) := Lib.hid ⟨Ea, hea.call HB_4.out⟩
    have Hb_4 : Hid (InE w4 _ ra mb (.slice pb nb cb) B) := Lib.hid ⟨Eb, heb.call HB_4.out⟩
    obtain ⟨Ka, hKa⟩ : ∃ K, knownL ma A = K := ⟨_, rfl⟩
    have hga : GoodL Ka := hKa ▸ known_good hea.good
    have hna : Ka.length ≤ 61 := by have := known_count hea.good; rw [hKa] at this; omega
    obtain ⟨Kb, hKb⟩ : ∃ K, knownL mb B = K := ⟨_, rfl⟩
    have hgb : GoodL Kb := hKb ▸ known_good heb.good
    have hnb : Kb.length ≤ 61 := by have := known_count heb.good; rw [hKb] at this; omega
    have C := HC.out
    have HG_4 := Lib.hid (HG0.out.here HB_4.out); clear HG0
    obtain ⟨X, hX⟩ : ∃ x, hasL Ka c = x := ⟨_, rfl⟩
    obtain ⟨Y, hY⟩ : ∃ x, hasL Kb c = x := ⟨_, rfl⟩
    obtain ⟨KU, hKU⟩ : ∃ K, orL Ka Kb = K := ⟨_, rfl⟩
    have hgU : GoodL KU := hKU ▸ orL_good hga hgb
    have hnU : KU.length ≤ 122 := by have := or_count hga hgb; rw [hKU] at this; omega
    have hhu : (someE KU && hasE (topL KU) (holesL KU) c) = (X || Y) := by
      have h1 := of_has8 hgU hc.1
      have h2 := or_has hga hgb c
      rw [hKU, hX, hY] at h2
      rw [h2] at h1
      exact h1
    have hcu : someE KU = true → (okN (topL KU) (holesL KU) && canonB (topL KU) (holesL KU)) = true := fun h => by
      have hne := someE_iff.1 h
      rw [okN_good (of_good hgU hne), of_canon hgU hne]; rfl
    have Ku : ∀ W, EntAt W (.slice pa na ca) ma A → EntAt W (.slice pb nb cb) mb B → Calls Tryd.prog 6 #[.agg #[.int .u64 ra, .int .u64 ma, .slice pa na ca], .agg #[.int .u64 ra, .int .u64 mb, .slice pb nb cb]] W (IsTE (repE ra KU) (topL KU) (holesL KU) (someE KU) W) := fun W h h' => by
      have k := C.uni ra ma mb A B _ _ W h h'
      rw [hKa, hKb, hKU] at k
      exact k.mono fun _ _ hh => eo_te hgU (by omega) hh
    obtain ⟨KM, hKM⟩ : ∃ K, andL Ka Kb = K := ⟨_, rfl⟩
    have hgM : GoodL KM := hKM ▸ andL_good hga hgb
    have hnM : KM.length ≤ 122 := by have := and_count hga hgb; rw [hKM] at this; omega
    have hhm : (someE KM && hasE (topL KM) (holesL KM) c) = (X && Y) := by
      have h1 := of_has8 hgM hc.1
      have h2 := and_has hga hgb c
      rw [hKM, hX, hY] at h2
      rw [h2] at h1
      exact h1
    have hcm : someE KM = true → (okN (topL KM) (holesL KM) && canonB (topL KM) (holesL KM)) = true := fun h => by
      have hne := someE_iff.1 h
      rw [okN_good (of_good hgM hne), of_canon hgM hne]; rfl
    have Km : ∀ W, EntAt W (.slice pa na ca) ma A → EntAt W (.slice pb nb cb) mb B → Calls Tryd.prog 7 #[.agg #[.int .u64 ra, .int .u64 ma, .slice pa na ca], .agg #[.int .u64 ra, .int .u64 mb, .slice pb nb cb]] W (IsTE (repE ra KM) (topL KM) (holesL KM) (someE KM) W) := fun W h h' => by
      have k := C.meet ra ma mb A B _ _ W h h'
      rw [hKa, hKb, hKM] at k
      exact k.mono fun _ _ hh => eo_te hgM (by omega) hh
    obtain ⟨KD, hKD⟩ : ∃ K, subL Ka Kb = K := ⟨_, rfl⟩
    have hgD : GoodL KD := hKD ▸ subL_good hga hgb
    have hnD : KD.length ≤ 122 := by have := sub_count hga hgb; rw [hKD] at this; omega
    have hhd : (someE KD && hasE (topL KD) (holesL KD) c) = (X && !Y) := by
      have h1 := of_has8 hgD hc.1
      have h2 := sub_has hga hgb c
      rw [hKD, hX, hY] at h2
      rw [h2] at h1
      exact h1
    have hcd : someE KD = true → (okN (topL KD) (holesL KD) && canonB (topL KD) (holesL KD)) = true := fun h => by
      have hne := someE_iff.1 h
      rw [okN_good (of_good hgD hne), of_canon hgD hne]; rfl
    have Kd : ∀ W, EntAt W (.slice pa na ca) ma A → EntAt W (.slice pb nb cb) mb B → Calls Tryd.prog 8 #[.agg #[.int .u64 ra, .int .u64 ma, .slice pa na ca], .agg #[.int .u64 ra, .int .u64 mb, .slice pb nb cb]] W (IsTE (repE ra KD) (topL KD) (holesL KD) (someE KD) W) := fun W h h' => by
      have k := C.minus ra ma mb A B _ _ W h h'
      rw [hKa, hKb, hKD] at k
      exact k.mono fun _ _ hh => eo_te hgD (by omega) hh
    have hxa : hasE ma A c = X := by rw [← hX, ← hKa, known_has hea.good hc.1]
    have hxb : hasE mb B c = Y := by rw [← hY, ← hKb, known_has heb.good hc.1]
    have HJa : Hid (∀ W, IvsAt W (.slice pa na ca) A → Calls Tryd.prog 10 #[.agg #[.int .u64 ra, .int .u64 ma, .slice pa na ca], .int .u64 c] W (IsEnd X W)) := Lib.hid fun W h => by
      have k := refHasE_any ra ma A _ c W h
      rw [hxa] at k
      exact k
    have HJb : Hid (∀ W, IvsAt W (.slice pb nb cb) B → Calls Tryd.prog 10 #[.agg #[.int .u64 ra, .int .u64 mb, .slice pb nb cb], .int .u64 c] W (IsEnd Y W)) := Lib.hid fun W h => by
      have k := refHasE_any ra mb B _ c W h
      rw [hxb] at k
      exact k
    have HKu := Lib.hid Ku; clear Ku
    have HKm := Lib.hid Km; clear Km
    have HKd := Lib.hid Kd; clear Kd
    clear C HC HOK KR hea heb hga hgb hna hnb hla hlb hKa hKb Ea Eb HSa HSb hX hY hxa hxb hKU hgU hnU hKM hgM hnM hKD hgD hnD
    generalize repE ra KU = ru at *
    generalize topL KU = tu at *
    generalize holesL KU = Lu at *
    generalize someE KU = bu at *
    have HCu : Hid (∀ s W, ErrT W → EntAt W s tu Lu → Calls Tryd.prog 9 #[.agg #[.int .u64 ru, .int .u64 tu, s]] W (IsEnd (okN tu Lu && canonB tu Lu) W)) := Lib.hid fun s W hg h => eCanonical_any ru tu Lu s W hg h.any
    have HJu : Hid (∀ s W, IvsAt W s Lu → Calls Tryd.prog 10 #[.agg #[.int .u64 ru, .int .u64 tu, s], .int .u64 c] W (IsEnd (hasE tu Lu c) W)) := Lib.hid fun s W h => refHasE_any ru tu Lu s c W h
    generalize (okN tu Lu && canonB tu Lu) = ku at *
    generalize hasE tu Lu c = eu at *
    generalize repE ra KM = rm at *
    generalize topL KM = tm at *
    generalize holesL KM = Lm at *
    generalize someE KM = bm at *
    have HCm : Hid (∀ s W, ErrT W → EntAt W s tm Lm → Calls Tryd.prog 9 #[.agg #[.int .u64 rm, .int .u64 tm, s]] W (IsEnd (okN tm Lm && canonB tm Lm) W)) := Lib.hid fun s W hg h => eCanonical_any rm tm Lm s W hg h.any
    have HJm : Hid (∀ s W, IvsAt W s Lm → Calls Tryd.prog 10 #[.agg #[.int .u64 rm, .int .u64 tm, s], .int .u64 c] W (IsEnd (hasE tm Lm c) W)) := Lib.hid fun s W h => refHasE_any rm tm Lm s c W h
    generalize (okN tm Lm && canonB tm Lm) = km at *
    generalize hasE tm Lm c = em at *
    generalize repE ra KD = rd at *
    generalize topL KD = td at *
    generalize holesL KD = Ld at *
    generalize someE KD = bd at *
    have HCd : Hid (∀ s W, ErrT W → EntAt W s td Ld → Calls Tryd.prog 9 #[.agg #[.int .u64 rd, .int .u64 td, s]] W (IsEnd (okN td Ld && canonB td Ld) W)) := Lib.hid fun s W hg h => eCanonical_any rd td Ld s W hg h.any
    have HJd : Hid (∀ s W, IvsAt W s Ld → Calls Tryd.prog 10 #[.agg #[.int .u64 rd, .int .u64 td, s], .int .u64 c] W (IsEnd (hasE td Ld c) W)) := Lib.hid fun s W h => refHasE_any rd td Ld s c W h
    generalize (okN td Ld && canonB td Ld) = kd at *
    generalize hasE td Ld c = ed at *
    clear Ka Kb KU KM KD
    have Zhu := Lib.hid hhu; have Zcu := Lib.hid hcu; clear hhu hcu
    have Zhm := Lib.hid hhm; have Zcm := Lib.hid hcm; clear hhm hcm
    have Zhd := Lib.hid hhd; have Zcd := Lib.hid hcd; clear hhd hcd
    obtain ⟨a0, a1, a2⟩ := Ha_4.out.e3
    obtain ⟨b0, b1, b2⟩ := Hb_4.out.e3
    go_wp2_with fail
    refine (HKu.out _ Ha_4.out.ent Hb_4.out.ent).mono ?_
    rintro e w5 ⟨vu, rfl, hv, h⟩
    obtain ⟨pu, cu, rfl, _⟩ := hv.any.at'.shape
    clear a0 a1 a2 b0 b1 b2
    have Ha_5 := Lib.hid (Ha_4.out.call h)
    have Hb_5 := Lib.hid (Hb_4.out.call h)
    have HG_5 := Lib.hid (HG_4.out.here h)
    have HB_5 := Lib.hid (below_call HB_4.out h)
    clear h
    obtain ⟨w6, hw6⟩ : ∃ w', w5.alloc (.cells #[.int .u64 ru, .int .u64 tu, .slice pu (Lu).length cu] 26) = w' := ⟨_, rfl⟩
    have h : Below w5.heap.size w5 w6 := hw6 ▸ below_new w5 _
    have Ha_6 := Lib.hid (Ha_5.out.call h)
    have Hb_6 := Lib.hid (Hb_5.out.call h)
    have HG_6 := Lib.hid (HG_5.out.here h)
    have HB_6 := Lib.hid (below_call HB_5.out h)
    clear h
    have Hu_6 := Lib.hid (InE.new hw6 hv)
    obtain ⟨a0, a1, a2⟩ := Ha_6.out.e3
    obtain ⟨b0, b1, b2⟩ := Hb_6.out.e3
    obtain ⟨u0, u1, u2⟩ := Hu_6.out.e3
    clear hv
    go_wp2_with fail
    clear hw6
    refine (HKm.out _ Ha_6.out.ent Hb_6.out.ent).mono ?_
    rintro e w7 ⟨vm, rfl, hv, h⟩
    obtain ⟨pm, cm, rfl, _⟩ := hv.any.at'.shape
    clear a0 a1 a2 b0 b1 b2 u0 u1 u2
    have Ha_7 := Lib.hid (Ha_6.out.call h)
    have Hb_7 := Lib.hid (Hb_6.out.call h)
    have Hu_7 := Lib.hid (Hu_6.out.call h)
    have HG_7 := Lib.hid (HG_6.out.here h)
    have HB_7 := Lib.hid (below_call HB_6.out h)
    clear h
    obtain ⟨w8, hw8⟩ : ∃ w', w7.alloc (.cells #[.int .u64 rm, .int .u64 tm, .slice pm (Lm).length cm] 26) = w' := ⟨_, rfl⟩
    have h : Below w7.heap.size w7 w8 := hw8 ▸ below_new w7 _
    have Ha_8 := Lib.hid (Ha_7.out.call h)
    have Hb_8 := Lib.hid (Hb_7.out.call h)
    have Hu_8 := Lib.hid (Hu_7.out.call h)
    have HG_8 := Lib.hid (HG_7.out.here h)
    have HB_8 := Lib.hid (below_call HB_7.out h)
    clear h
    have Hm_8 := Lib.hid (InE.new hw8 hv)
    obtain ⟨a0, a1, a2⟩ := Ha_8.out.e3
    obtain ⟨b0, b1, b2⟩ := Hb_8.out.e3
    obtain ⟨u0, u1, u2⟩ := Hu_8.out.e3
    obtain ⟨m0, m1, m2⟩ := Hm_8.out.e3
    clear hv
    go_wp2_with fail
    clear hw8
    refine (HKd.out _ Ha_8.out.ent Hb_8.out.ent).mono ?_
    rintro e w9 ⟨vd, rfl, hv, h⟩
    obtain ⟨pd, cd, rfl, _⟩ := hv.any.at'.shape
    clear a0 a1 a2 b0 b1 b2 u0 u1 u2 m0 m1 m2
    have Ha_9 := Lib.hid (Ha_8.out.call h)
    have Hb_9 := Lib.hid (Hb_8.out.call h)
    have Hu_9 := Lib.hid (Hu_8.out.call h)
    have Hm_9 := Lib.hid (Hm_8.out.call h)
    have HG_9 := Lib.hid (HG_8.out.here h)
    have HB_9 := Lib.hid (below_call HB_8.out h)
    clear h
    obtain ⟨w10, hw10⟩ : ∃ w', w9.alloc (.cells #[.int .u64 rd, .int .u64 td, .slice pd (Ld).length cd] 26) = w' := ⟨_, rfl⟩
    have h : Below w9.heap.size w9 w10 := hw10 ▸ below_new w9 _
    have Ha_10 := Lib.hid (Ha_9.out.call h)
    have Hb_10 := Lib.hid (Hb_9.out.call h)
    have Hu_10 := Lib.hid (Hu_9.out.call h)
    have Hm_10 := Lib.hid (Hm_9.out.call h)
    have HG_10 := Lib.hid (HG_9.out.here h)
    have HB_10 := Lib.hid (below_call HB_9.out h)
    clear h
    have Hd_10 := Lib.hid (InE.new hw10 hv)
    obtain ⟨a0, a1, a2⟩ := Ha_10.out.e3
    obtain ⟨b0, b1, b2⟩ := Hb_10.out.e3
    obtain ⟨u0, u1, u2⟩ := Hu_10.out.e3
    obtain ⟨m0, m1, m2⟩ := Hm_10.out.e3
    obtain ⟨d0, d1, d2⟩ := Hd_10.out.e3
    clear hv
    cases bu
    · have hz := KL; clear hz
      cases bm
      · have hz := KL; clear hz
        cases bd
        · have hz := KL; clear hz
          cases X
          · have hz := KL; clear hz
            cases Y
            · have hz := KL; clear hz
              clear Zhu Zcu Zhm Zcm Zhd Zcd
              go_wp2_with fail
              clear hw10
              have HS6 := Lib.hid (r6_drew ⟨Below.refl w10.heap.size w10, a0, a1, a2, b0, b1, b2⟩)
              go_region_held3 (fun w' => Below w10.heap.size w10 w' ∧ w'.cell? ⟨w.heap.size, 0, none⟩ = some (.int .u64 ra) ∧ w'.cell? ⟨w.heap.size, 1, none⟩ = some (.int .u64 ma) ∧ w'.cell? ⟨w.heap.size, 2, none⟩ = some (.slice pa na ca) ∧ w'.cell? ⟨w1.heap.size, 0, none⟩ = some (.int .u64 ra) ∧ w'.cell? ⟨w1.heap.size, 1, none⟩ = some (.int .u64 mb) ∧ w'.cell? ⟨w1.heap.size, 2, none⟩ = some (.slice pb nb cb))
                (first
                  | exact r6_call (by assumption) (by assumption)
                  | exact HS6.out
                  | exact r6_drew (by assumption)
                  | assumption)
                (first
                  | (go_at_call 10; (with_reducible change Calls _ _ #[.agg #[.int .u64 ra, .int .u64 ma, .slice pa na ca], .int .u64 c] _ _); refine (HJa.out _ (Ha_10.out.ent.any.at'.call (r6_below (by assumption)))).mono ?_; rintro en wq ⟨rfl, h'⟩; have h' := Lib.hid h')
                  | (go_at_call 10; (with_reducible change Calls _ _ #[.agg #[.int .u64 ra, .int .u64 mb, .slice pb nb cb], .int .u64 c] _ _); refine (HJb.out _ (Hb_10.out.ent.any.at'.call (r6_below (by assumption)))).mono ?_; rintro en w11 ⟨rfl, h'⟩; have h' := Lib.hid h'; have hSw := r6_call (by assumption) h'))
              have h := hSw.1; clear hSw HS6
              clear a0 a1 a2 b0 b1 b2 u0 u1 u2 m0 m1 m2 d0 d1 d2
              have Ha_11 := Lib.hid (Ha_10.out.call h)
              have Hb_11 := Lib.hid (Hb_10.out.call h)
              have Hu_11 := Lib.hid (Hu_10.out.call h)
              have Hm_11 := Lib.hid (Hm_10.out.call h)
              have Hd_11 := Lib.hid (Hd_10.out.call h)
              have HG_11 := Lib.hid (HG_10.out.here h)
              have HB_11 := Lib.hid (below_call HB_10.out h)
              obtain ⟨a0, a1, a2⟩ := Ha_11.out.e3
              obtain ⟨b0, b1, b2⟩ := Hb_11.out.e3
              obtain ⟨u0, u1, u2⟩ := Hu_11.out.e3
              obtain ⟨m0, m1, m2⟩ := Hm_11.out.e3
              obtain ⟨d0, d1, d2⟩ := Hd_11.out.e3
              go_wp2_with fail
              refine (KL.out _).mono ?_
              rintro e w12 ⟨rfl, h⟩
              clear a0 a1 a2 b0 b1 b2 u0 u1 u2 m0 m1 m2 d0 d1 d2
              have Ha_12 := Lib.hid (Ha_11.out.call h)
              have Hb_12 := Lib.hid (Hb_11.out.call h)
              have Hu_12 := Lib.hid (Hu_11.out.call h)
              have Hm_12 := Lib.hid (Hm_11.out.call h)
              have Hd_12 := Lib.hid (Hd_11.out.call h)
              have HG_12 := Lib.hid (HG_11.out.here h)
              have HB_12 := Lib.hid (below_call HB_11.out h)
              obtain ⟨a0, a1, a2⟩ := Ha_12.out.e3
              obtain ⟨b0, b1, b2⟩ := Hb_12.out.e3
              obtain ⟨u0, u1, u2⟩ := Hu_12.out.e3
              obtain ⟨m0, m1, m2⟩ := Hm_12.out.e3
              obtain ⟨d0, d1, d2⟩ := Hd_12.out.e3
              go_wp2_with fail
              go_ret
              exact ⟨rfl, HB_12.out⟩
            · have hz := KL; clear hz
              have h := Zhu.out; simp at h
          · have hz := KL; clear hz
            cases Y
            · have hz := KL; clear hz
              have h := Zhu.out; simp at h
            · have hz := KL; clear hz
              have h := Zhu.out; simp at h
        · have hz := KL; clear hz
          cases X
          · have hz := KL; clear hz
            cases Y
            · have hz := KL; clear hz
              have hed : ed = false := by have h := Zhd.out; simpa using h
              have hkd : kd = true := Zcd.out rfl
              subst hed hkd
              clear Zhu Zcu Zhm Zcm Zhd Zcd
              go_wp2_with fail
              clear hw10
              refine (HCd.out _ _ HG_10.out Hd_10.out.ent).mono ?_
              rintro e w11 ⟨rfl, h⟩
              clear a0 a1 a2 b0 b1 b2 u0 u1 u2 m0 m1 m2 d0 d1 d2
              have Ha_11 := Lib.hid (Ha_10.out.call h)
              have Hb_11 := Lib.hid (Hb_10.out.call h)
              have Hu_11 := Lib.hid (Hu_10.out.call h)
              have Hm_11 := Lib.hid (Hm_10.out.call h)
              have Hd_11 := Lib.hid (Hd_10.out.call h)
              have HG_11 := Lib.hid (HG_10.out.here h)
              have HB_11 := Lib.hid (below_call HB_10.out h)
              obtain ⟨a0, a1, a2⟩ := Ha_11.out.e3
              obtain ⟨b0, b1, b2⟩ := Hb_11.out.e3
              obtain ⟨u0, u1, u2⟩ := Hu_11.out.e3
              obtain ⟨m0, m1, m2⟩ := Hm_11.out.e3
              obtain ⟨d0, d1, d2⟩ := Hd_11.out.e3
              go_wp2_with fail
              have HS6 := Lib.hid (r6_drew ⟨Below.refl w11.heap.size w11, a0, a1, a2, b0, b1, b2⟩)
              go_region_held3 (fun w' => Below w11.heap.size w11 w' ∧ w'.cell? ⟨w.heap.size, 0, none⟩ = some (.int .u64 ra) ∧ w'.cell? ⟨w.heap.size, 1, none⟩ = some (.int .u64 ma) ∧ w'.cell? ⟨w.heap.size, 2, none⟩ = some (.slice pa na ca) ∧ w'.cell? ⟨w1.heap.size, 0, none⟩ = some (.int .u64 ra) ∧ w'.cell? ⟨w1.heap.size, 1, none⟩ = some (.int .u64 mb) ∧ w'.cell? ⟨w1.heap.size, 2, none⟩ = some (.slice pb nb cb))
                (first
                  | exact r6_call (by assumption) (by assumption)
                  | exact HS6.out
                  | exact r6_drew (by assumption)
                  | assumption)
                (first
                  | (go_at_call 10; (with_reducible change Calls _ _ #[.agg #[.int .u64 ra, .int .u64 ma, .slice pa na ca], .int .u64 c] _ _); refine (HJa.out _ (Ha_11.out.ent.any.at'.call (r6_below (by assumption)))).mono ?_; rintro en wq ⟨rfl, h'⟩; have h' := Lib.hid h')
                  | (go_at_call 10; (with_reducible change Calls _ _ #[.agg #[.int .u64 ra, .int .u64 mb, .slice pb nb cb], .int .u64 c] _ _); refine (HJb.out _ (Hb_11.out.ent.any.at'.call (r6_below (by assumption)))).mono ?_; rintro en w12 ⟨rfl, h'⟩; have h' := Lib.hid h'; have hSw := r6_call (by assumption) h'))
              have h := hSw.1; clear hSw HS6
              clear a0 a1 a2 b0 b1 b2 u0 u1 u2 m0 m1 m2 d0 d1 d2
              have Ha_12 := Lib.hid (Ha_11.out.call h)
              have Hb_12 := Lib.hid (Hb_11.out.call h)
              have Hu_12 := Lib.hid (Hu_11.out.call h)
              have Hm_12 := Lib.hid (Hm_11.out.call h)
              have Hd_12 := Lib.hid (Hd_11.out.call h)
              have HG_12 := Lib.hid (HG_11.out.here h)
              have HB_12 := Lib.hid (below_call HB_11.out h)
              obtain ⟨a0, a1, a2⟩ := Ha_12.out.e3
              obtain ⟨b0, b1, b2⟩ := Hb_12.out.e3
              obtain ⟨u0, u1, u2⟩ := Hu_12.out.e3
              obtain ⟨m0, m1, m2⟩ := Hm_12.out.e3
              obtain ⟨d0, d1, d2⟩ := Hd_12.out.e3
              go_wp2_with fail
              refine (KL.out _).mono ?_
              rintro e w13 ⟨rfl, h⟩
              clear a0 a1 a2 b0 b1 b2 u0 u1 u2 m0 m1 m2 d0 d1 d2
              have Ha_13 := Lib.hid (Ha_12.out.call h)
              have Hb_13 := Lib.hid (Hb_12.out.call h)
              have Hu_13 := Lib.hid (Hu_12.out.call h)
              have Hm_13 := Lib.hid (Hm_12.out.call h)
              have Hd_13 := Lib.hid (Hd_12.out.call h)
              have HG_13 := Lib.hid (HG_12.out.here h)
              have HB_13 := Lib.hid (below_call HB_12.out h)
              obtain ⟨a0, a1, a2⟩ := Ha_13.out.e3
              obtain ⟨b0, b1, b2⟩ := Hb_13.out.e3
              obtain ⟨u0, u1, u2⟩ := Hu_13.out.e3
              obtain ⟨m0, m1, m2⟩ := Hm_13.out.e3
              obtain ⟨d0, d1, d2⟩ := Hd_13.out.e3
              go_wp2_with fail
              refine (HJd.out _ _ Hd_13.out.ent.any.at').mono ?_
              rintro e w14 ⟨rfl, h⟩
              clear a0 a1 a2 b0 b1 b2 u0 u1 u2 m0 m1 m2 d0 d1 d2
              have Ha_14 := Lib.hid (Ha_13.out.call h)
              have Hb_14 := Lib.hid (Hb_13.out.call h)
              have Hu_14 := Lib.hid (Hu_13.out.call h)
              have Hm_14 := Lib.hid (Hm_13.out.call h)
              have Hd_14 := Lib.hid (Hd_13.out.call h)
              have HG_14 := Lib.hid (HG_13.out.here h)
              have HB_14 := Lib.hid (below_call HB_13.out h)
              obtain ⟨a0, a1, a2⟩ := Ha_14.out.e3
              obtain ⟨b0, b1, b2⟩ := Hb_14.out.e3
              obtain ⟨u0, u1, u2⟩ := Hu_14.out.e3
              obtain ⟨m0, m1, m2⟩ := Hm_14.out.e3
              obtain ⟨d0, d1, d2⟩ := Hd_14.out.e3
              go_wp2_with fail
              go_ret
              exact ⟨rfl, HB_14.out⟩
            · have hz := KL; clear hz
              have h := Zhu.out; simp at h
          · have hz := KL; clear hz
            cases Y
            · have hz := KL; clear hz
              have h := Zhu.out; simp at h
            · have hz := KL; clear hz
              have h := Zhu.out; simp at h
      · have hz := KL; clear hz
        cases bd
        · have hz := KL; clear hz
          cases X
          · have hz := KL; clear hz
            cases Y
            · have hz := KL; clear hz
              have hem : em = false := by have h := Zhm.out; simpa using h
              have hkm : km = true := Zcm.out rfl
              subst hem hkm
              clear Zhu Zcu Zhm Zcm Zhd Zcd
              go_wp2_with fail
              clear hw10
              refine (HCm.out _ _ HG_10.out Hm_10.out.ent).mono ?_
              rintro e w11 ⟨rfl, h⟩
              clear a0 a1 a2 b0 b1 b2 u0 u1 u2 m0 m1 m2 d0 d1 d2
              have Ha_11 := Lib.hid (Ha_10.out.call h)
              have Hb_11 := Lib.hid (Hb_10.out.call h)
              have Hu_11 := Lib.hid (Hu_10.out.call h)
              have Hm_11 := Lib.hid (Hm_10.out.call h)
              have Hd_11 := Lib.hid (Hd_10.out.call h)
              have HG_11 := Lib.hid (HG_10.out.here h)
              have HB_11 := Lib.hid (below_call HB_10.out h)
              obtain ⟨a0, a1, a2⟩ := Ha_11.out.e3
              obtain ⟨b0, b1, b2⟩ := Hb_11.out.e3
              obtain ⟨u0, u1, u2⟩ := Hu_11.out.e3
              obtain ⟨m0, m1, m2⟩ := Hm_11.out.e3
              obtain ⟨d0, d1, d2⟩ := Hd_11.out.e3
              go_wp2_with fail
              have HS6 := Lib.hid (r6_drew ⟨Below.refl w11.heap.size w11, a0, a1, a2, b0, b1, b2⟩)
              go_region_held3 (fun w' => Below w11.heap.size w11 w' ∧ w'.cell? ⟨w.heap.size, 0, none⟩ = some (.int .u64 ra) ∧ w'.cell? ⟨w.heap.size, 1, none⟩ = some (.int .u64 ma) ∧ w'.cell? ⟨w.heap.size, 2, none⟩ = some (.slice pa na ca) ∧ w'.cell? ⟨w1.heap.size, 0, none⟩ = some (.int .u64 ra) ∧ w'.cell? ⟨w1.heap.size, 1, none⟩ = some (.int .u64 mb) ∧ w'.cell? ⟨w1.heap.size, 2, none⟩ = some (.slice pb nb cb))
                (first
                  | exact r6_call (by assumption) (by assumption)
                  | exact HS6.out
                  | exact r6_drew (by assumption)
                  | assumption)
                (first
                  | (go_at_call 10; (with_reducible change Calls _ _ #[.agg #[.int .u64 ra, .int .u64 ma, .slice pa na ca], .int .u64 c] _ _); refine (HJa.out _ (Ha_11.out.ent.any.at'.call (r6_below (by assumption)))).mono ?_; rintro en wq ⟨rfl, h'⟩; have h' := Lib.hid h')
                  | (go_at_call 10; (with_reducible change Calls _ _ #[.agg #[.int .u64 ra, .int .u64 mb, .slice pb nb cb], .int .u64 c] _ _); refine (HJb.out _ (Hb_11.out.ent.any.at'.call (r6_below (by assumption)))).mono ?_; rintro en w12 ⟨rfl, h'⟩; have h' := Lib.hid h'; have hSw := r6_call (by assumption) h'))
              have h := hSw.1; clear hSw HS6
              clear a0 a1 a2 b0 b1 b2 u0 u1 u2 m0 m1 m2 d0 d1 d2
              have Ha_12 := Lib.hid (Ha_11.out.call h)
              have Hb_12 := Lib.hid (Hb_11.out.call h)
              have Hu_12 := Lib.hid (Hu_11.out.call h)
              have Hm_12 := Lib.hid (Hm_11.out.call h)
              have Hd_12 := Lib.hid (Hd_11.out.call h)
              have HG_12 := Lib.hid (HG_11.out.here h)
              have HB_12 := Lib.hid (below_call HB_11.out h)
              obtain ⟨a0, a1, a2⟩ := Ha_12.out.e3
              obtain ⟨b0, b1, b2⟩ := Hb_12.out.e3
              obtain ⟨u0, u1, u2⟩ := Hu_12.out.e3
              obtain ⟨m0, m1, m2⟩ := Hm_12.out.e3
              obtain ⟨d0, d1, d2⟩ := Hd_12.out.e3
              go_wp2_with fail
              refine (KL.out _).mono ?_
              rintro e w13 ⟨rfl, h⟩
              clear a0 a1 a2 b0 b1 b2 u0 u1 u2 m0 m1 m2 d0 d1 d2
              have Ha_13 := Lib.hid (Ha_12.out.call h)
              have Hb_13 := Lib.hid (Hb_12.out.call h)
              have Hu_13 := Lib.hid (Hu_12.out.call h)
              have Hm_13 := Lib.hid (Hm_12.out.call h)
              have Hd_13 := Lib.hid (Hd_12.out.call h)
              have HG_13 := Lib.hid (HG_12.out.here h)
              have HB_13 := Lib.hid (below_call HB_12.out h)
              obtain ⟨a0, a1, a2⟩ := Ha_13.out.e3
              obtain ⟨b0, b1, b2⟩ := Hb_13.out.e3
              obtain ⟨u0, u1, u2⟩ := Hu_13.out.e3
              obtain ⟨m0, m1, m2⟩ := Hm_13.out.e3
              obtain ⟨d0, d1, d2⟩ := Hd_13.out.e3
              go_wp2_with fail
              refine (HJm.out _ _ Hm_13.out.ent.any.at').mono ?_
              rintro e w14 ⟨rfl, h⟩
              clear a0 a1 a2 b0 b1 b2 u0 u1 u2 m0 m1 m2 d0 d1 d2
              have Ha_14 := Lib.hid (Ha_13.out.call h)
              have Hb_14 := Lib.hid (Hb_13.out.call h)
              have Hu_14 := Lib.hid (Hu_13.out.call h)
              have Hm_14 := Lib.hid (Hm_13.out.call h)
              have Hd_14 := Lib.hid (Hd_13.out.call h)
              have HG_14 := Lib.hid (HG_13.out.here h)
              have HB_14 := Lib.hid (below_call HB_13.out h)
              obtain ⟨a0, a1, a2⟩ := Ha_14.out.e3
              obtain ⟨b0, b1, b2⟩ := Hb_14.out.e3
              obtain ⟨u0, u1, u2⟩ := Hu_14.out.e3
              obtain ⟨m0, m1, m2⟩ := Hm_14.out.e3
              obtain ⟨d0, d1, d2⟩ := Hd_14.out.e3
              go_wp2_with fail
              go_ret
              exact ⟨rfl, HB_14.out⟩
            · have hz := KL; clear hz
              have h := Zhu.out; simp at h
          · have hz := KL; clear hz
            cases Y
            · have hz := KL; clear hz
              have h := Zhu.out; simp at h
            · have hz := KL; clear hz
              have h := Zhu.out; simp at h
        · have hz := KL; clear hz
          cases X
          · have hz := KL; clear hz
            cases Y
            · have hz := KL; clear hz
              have hem : em = false := by have h := Zhm.out; simpa using h
              have hkm : km = true := Zcm.out rfl
              subst hem hkm
              have hed : ed = false := by have h := Zhd.out; simpa using h
              have hkd : kd = true := Zcd.out rfl
              subst hed hkd
              clear Zhu Zcu Zhm Zcm Zhd Zcd
              go_wp2_with fail
              clear hw10
              refine (HCm.out _ _ HG_10.out Hm_10.out.ent).mono ?_
              rintro e w11 ⟨rfl, h⟩
              clear a0 a1 a2 b0 b1 b2 u0 u1 u2 m0 m1 m2 d0 d1 d2
              have Ha_11 := Lib.hid (Ha_10.out.call h)
              have Hb_11 := Lib.hid (Hb_10.out.call h)
              have Hu_11 := Lib.hid (Hu_10.out.call h)
              have Hm_11 := Lib.hid (Hm_10.out.call h)
              have Hd_11 := Lib.hid (Hd_10.out.call h)
              have HG_11 := Lib.hid (HG_10.out.here h)
              have HB_11 := Lib.hid (below_call HB_10.out h)
              obtain ⟨a0, a1, a2⟩ := Ha_11.out.e3
              obtain ⟨b0, b1, b2⟩ := Hb_11.out.e3
              obtain ⟨u0, u1, u2⟩ := Hu_11.out.e3
              obtain ⟨m0, m1, m2⟩ := Hm_11.out.e3
              obtain ⟨d0, d1, d2⟩ := Hd_11.out.e3
              go_wp2_with fail
              refine (HCd.out _ _ HG_11.out Hd_11.out.ent).mono ?_
              rintro e w12 ⟨rfl, h⟩
              clear a0 a1 a2 b0 b1 b2 u0 u1 u2 m0 m1 m2 d0 d1 d2
              have Ha_12 := Lib.hid (Ha_11.out.call h)
              have Hb_12 := Lib.hid (Hb_11.out.call h)
              have Hu_12 := Lib.hid (Hu_11.out.call h)
              have Hm_12 := Lib.hid (Hm_11.out.call h)
              have Hd_12 := Lib.hid (Hd_11.out.call h)
              have HG_12 := Lib.hid (HG_11.out.here h)
              have HB_12 := Lib.hid (below_call HB_11.out h)
              obtain ⟨a0, a1, a2⟩ := Ha_12.out.e3
              obtain ⟨b0, b1, b2⟩ := Hb_12.out.e3
              obtain ⟨u0, u1, u2⟩ := Hu_12.out.e3
              obtain ⟨m0, m1, m2⟩ := Hm_12.out.e3
              obtain ⟨d0, d1, d2⟩ := Hd_12.out.e3
              go_wp2_with fail
              have HS6 := Lib.hid (r6_drew ⟨Below.refl w12.heap.size w12, a0, a1, a2, b0, b1, b2⟩)
              go_region_held3 (fun w' => Below w12.heap.size w12 w' ∧ w'.cell? ⟨w.heap.size, 0, none⟩ = some (.int .u64 ra) ∧ w'.cell? ⟨w.heap.size, 1, none⟩ = some (.int .u64 ma) ∧ w'.cell? ⟨w.heap.size, 2, none⟩ = some (.slice pa na ca) ∧ w'.cell? ⟨w1.heap.size, 0, none⟩ = some (.int .u64 ra) ∧ w'.cell? ⟨w1.heap.size, 1, none⟩ = some (.int .u64 mb) ∧ w'.cell? ⟨w1.heap.size, 2, none⟩ = some (.slice pb nb cb))
                (first
                  | exact r6_call (by assumption) (by assumption)
                  | exact HS6.out
                  | exact r6_drew (by assumption)
                  | assumption)
                (first
                  | (go_at_call 10; (with_reducible change Calls _ _ #[.agg #[.int .u64 ra, .int .u64 ma, .slice pa na ca], .int .u64 c] _ _); refine (HJa.out _ (Ha_12.out.ent.any.at'.call (r6_below (by assumption)))).mono ?_; rintro en wq ⟨rfl, h'⟩; have h' := Lib.hid h')
                  | (go_at_call 10; (with_reducible change Calls _ _ #[.agg #[.int .u64 ra, .int .u64 mb, .slice pb nb cb], .int .u64 c] _ _); refine (HJb.out _ (Hb_12.out.ent.any.at'.call (r6_below (by assumption)))).mono ?_; rintro en w13 ⟨rfl, h'⟩; have h' := Lib.hid h'; have hSw := r6_call (by assumption) h'))
              have h := hSw.1; clear hSw HS6
              clear a0 a1 a2 b0 b1 b2 u0 u1 u2 m0 m1 m2 d0 d1 d2
              have Ha_13 := Lib.hid (Ha_12.out.call h)
              have Hb_13 := Lib.hid (Hb_12.out.call h)
              have Hu_13 := Lib.hid (Hu_12.out.call h)
              have Hm_13 := Lib.hid (Hm_12.out.call h)
              have Hd_13 := Lib.hid (Hd_12.out.call h)
              have HG_13 := Lib.hid (HG_12.out.here h)
              have HB_13 := Lib.hid (below_call HB_12.out h)
              obtain ⟨a0, a1, a2⟩ := Ha_13.out.e3
              obtain ⟨b0, b1, b2⟩ := Hb_13.out.e3
              obtain ⟨u0, u1, u2⟩ := Hu_13.out.e3
              obtain ⟨m0, m1, m2⟩ := Hm_13.out.e3
              obtain ⟨d0, d1, d2⟩ := Hd_13.out.e3
              go_wp2_with fail
              refine (KL.out _).mono ?_
              rintro e w14 ⟨rfl, h⟩
              clear a0 a1 a2 b0 b1 b2 u0 u1 u2 m0 m1 m2 d0 d1 d2
              have Ha_14 := Lib.hid (Ha_13.out.call h)
              have Hb_14 := Lib.hid (Hb_13.out.call h)
              have Hu_14 := Lib.hid (Hu_13.out.call h)
              have Hm_14 := Lib.hid (Hm_13.out.call h)
              have Hd_14 := Lib.hid (Hd_13.out.call h)
              have HG_14 := Lib.hid (HG_13.out.here h)
              have HB_14 := Lib.hid (below_call HB_13.out h)
              obtain ⟨a0, a1, a2⟩ := Ha_14.out.e3
              obtain ⟨b0, b1, b2⟩ := Hb_14.out.e3
              obtain ⟨u0, u1, u2⟩ := Hu_14.out.e3
              obtain ⟨m0, m1, m2⟩ := Hm_14.out.e3
              obtain ⟨d0, d1, d2⟩ := Hd_14.out.e3
              go_wp2_with fail
              refine (HJm.out _ _ Hm_14.out.ent.any.at').mono ?_
              rintro e w15 ⟨rfl, h⟩
              clear a0 a1 a2 b0 b1 b2 u0 u1 u2 m0 m1 m2 d0 d1 d2
              have Ha_15 := Lib.hid (Ha_14.out.call h)
              have Hb_15 := Lib.hid (Hb_14.out.call h)
              have Hu_15 := Lib.hid (Hu_14.out.call h)
              have Hm_15 := Lib.hid (Hm_14.out.call h)
              have Hd_15 := Lib.hid (Hd_14.out.call h)
              have HG_15 := Lib.hid (HG_14.out.here h)
              have HB_15 := Lib.hid (below_call HB_14.out h)
              obtain ⟨a0, a1, a2⟩ := Ha_15.out.e3
              obtain ⟨b0, b1, b2⟩ := Hb_15.out.e3
              obtain ⟨u0, u1, u2⟩ := Hu_15.out.e3
              obtain ⟨m0, m1, m2⟩ := Hm_15.out.e3
              obtain ⟨d0, d1, d2⟩ := Hd_15.out.e3
              go_wp2_with fail
              refine (HJd.out _ _ Hd_15.out.ent.any.at').mono ?_
              rintro e w16 ⟨rfl, h⟩
              clear a0 a1 a2 b0 b1 b2 u0 u1 u2 m0 m1 m2 d0 d1 d2
              have Ha_16 := Lib.hid (Ha_15.out.call h)
              have Hb_16 := Lib.hid (Hb_15.out.call h)
              have Hu_16 := Lib.hid (Hu_15.out.call h)
              have Hm_16 := Lib.hid (Hm_15.out.call h)
              have Hd_16 := Lib.hid (Hd_15.out.call h)
              have HG_16 := Lib.hid (HG_15.out.here h)
              have HB_16 := Lib.hid (below_call HB_15.out h)
              obtain ⟨a0, a1, a2⟩ := Ha_16.out.e3
              obtain ⟨b0, b1, b2⟩ := Hb_16.out.e3
              obtain ⟨u0, u1, u2⟩ := Hu_16.out.e3
              obtain ⟨m0, m1, m2⟩ := Hm_16.out.e3
              obtain ⟨d0, d1, d2⟩ := Hd_16.out.e3
              go_wp2_with fail
              go_ret
              exact ⟨rfl, HB_16.out⟩
            · have hz := KL; clear hz
              have h := Zhu.out; simp at h
          · have hz := KL; clear hz
            cases Y
            · have hz := KL; clear hz
              have h := Zhu.out; simp at h
            · have hz := KL; clear hz
              have h := Zhu.out; simp at h
    · have hz := KL; clear hz
      cases bm
      · have hz := KL; clear hz
        cases bd
        · have hz := KL; clear hz
          cases X
          · have hz := KL; clear hz
            cases Y
            · have hz := KL; clear hz
              have heu : eu = false := by have h := Zhu.out; simpa using h
              have hku : ku = true := Zcu.out rfl
              subst heu hku
              clear Zhu Zcu Zhm Zcm Zhd Zcd
              go_wp2_with fail
              clear hw10
              refine (HCu.out _ _ HG_10.out Hu_10.out.ent).mono ?_
              rintro e w11 ⟨rfl, h⟩
              clear a0 a1 a2 b0 b1 b2 u0 u1 u2 m0 m1 m2 d0 d1 d2
              have Ha_11 := Lib.hid (Ha_10.out.call h)
              have Hb_11 := Lib.hid (Hb_10.out.call h)
              have Hu_11 := Lib.hid (Hu_10.out.call h)
              have Hm_11 := Lib.hid (Hm_10.out.call h)
              have Hd_11 := Lib.hid (Hd_10.out.call h)
              have HG_11 := Lib.hid (HG_10.out.here h)
              have HB_11 := Lib.hid (below_call HB_10.out h)
              obtain ⟨a0, a1, a2⟩ := Ha_11.out.e3
              obtain ⟨b0, b1, b2⟩ := Hb_11.out.e3
              obtain ⟨u0, u1, u2⟩ := Hu_11.out.e3
              obtain ⟨m0, m1, m2⟩ := Hm_11.out.e3
              obtain ⟨d0, d1, d2⟩ := Hd_11.out.e3
              go_wp2_with fail
              have HS6 := Lib.hid (r6_drew ⟨Below.refl w11.heap.size w11, a0, a1, a2, b0, b1, b2⟩)
              go_region_held3 (fun w' => Below w11.heap.size w11 w' ∧ w'.cell? ⟨w.heap.size, 0, none⟩ = some (.int .u64 ra) ∧ w'.cell? ⟨w.heap.size, 1, none⟩ = some (.int .u64 ma) ∧ w'.cell? ⟨w.heap.size, 2, none⟩ = some (.slice pa na ca) ∧ w'.cell? ⟨w1.heap.size, 0, none⟩ = some (.int .u64 ra) ∧ w'.cell? ⟨w1.heap.size, 1, none⟩ = some (.int .u64 mb) ∧ w'.cell? ⟨w1.heap.size, 2, none⟩ = some (.slice pb nb cb))
                (first
                  | exact r6_call (by assumption) (by assumption)
                  | exact HS6.out
                  | exact r6_drew (by assumption)
                  | assumption)
                (first
                  | (go_at_call 10; (with_reducible change Calls _ _ #[.agg #[.int .u64 ra, .int .u64 ma, .slice pa na ca], .int .u64 c] _ _); refine (HJa.out _ (Ha_11.out.ent.any.at'.call (r6_below (by assumption)))).mono ?_; rintro en wq ⟨rfl, h'⟩; have h' := Lib.hid h')
                  | (go_at_call 10; (with_reducible change Calls _ _ #[.agg #[.int .u64 ra, .int .u64 mb, .slice pb nb cb], .int .u64 c] _ _); refine (HJb.out _ (Hb_11.out.ent.any.at'.call (r6_below (by assumption)))).mono ?_; rintro en w12 ⟨rfl, h'⟩; have h' := Lib.hid h'; have hSw := r6_call (by assumption) h'))
              have h := hSw.1; clear hSw HS6
              clear a0 a1 a2 b0 b1 b2 u0 u1 u2 m0 m1 m2 d0 d1 d2
              have Ha_12 := Lib.hid (Ha_11.out.call h)
              have Hb_12 := Lib.hid (Hb_11.out.call h)
              have Hu_12 := Lib.hid (Hu_11.out.call h)
              have Hm_12 := Lib.hid (Hm_11.out.call h)
              have Hd_12 := Lib.hid (Hd_11.out.call h)
              have HG_12 := Lib.hid (HG_11.out.here h)
              have HB_12 := Lib.hid (below_call HB_11.out h)
              obtain ⟨a0, a1, a2⟩ := Ha_12.out.e3
              obtain ⟨b0, b1, b2⟩ := Hb_12.out.e3
              obtain ⟨u0, u1, u2⟩ := Hu_12.out.e3
              obtain ⟨m0, m1, m2⟩ := Hm_12.out.e3
              obtain ⟨d0, d1, d2⟩ := Hd_12.out.e3
              go_wp2_with fail
              refine (KL.out _).mono ?_
              rintro e w13 ⟨rfl, h⟩
              clear a0 a1 a2 b0 b1 b2 u0 u1 u2 m0 m1 m2 d0 d1 d2
              have Ha_13 := Lib.hid (Ha_12.out.call h)
              have Hb_13 := Lib.hid (Hb_12.out.call h)
              have Hu_13 := Lib.hid (Hu_12.out.call h)
              have Hm_13 := Lib.hid (Hm_12.out.call h)
              have Hd_13 := Lib.hid (Hd_12.out.call h)
              have HG_13 := Lib.hid (HG_12.out.here h)
              have HB_13 := Lib.hid (below_call HB_12.out h)
              obtain ⟨a0, a1, a2⟩ := Ha_13.out.e3
              obtain ⟨b0, b1, b2⟩ := Hb_13.out.e3
              obtain ⟨u0, u1, u2⟩ := Hu_13.out.e3
              obtain ⟨m0, m1, m2⟩ := Hm_13.out.e3
              obtain ⟨d0, d1, d2⟩ := Hd_13.out.e3
              go_wp2_with fail
              refine (HJu.out _ _ Hu_13.out.ent.any.at').mono ?_
              rintro e w14 ⟨rfl, h⟩
              clear a0 a1 a2 b0 b1 b2 u0 u1 u2 m0 m1 m2 d0 d1 d2
              have Ha_14 := Lib.hid (Ha_13.out.call h)
              have Hb_14 := Lib.hid (Hb_13.out.call h)
              have Hu_14 := Lib.hid (Hu_13.out.call h)
              have Hm_14 := Lib.hid (Hm_13.out.call h)
              have Hd_14 := Lib.hid (Hd_13.out.call h)
              have HG_14 := Lib.hid (HG_13.out.here h)
              have HB_14 := Lib.hid (below_call HB_13.out h)
              obtain ⟨a0, a1, a2⟩ := Ha_14.out.e3
              obtain ⟨b0, b1, b2⟩ := Hb_14.out.e3
              obtain ⟨u0, u1, u2⟩ := Hu_14.out.e3
              obtain ⟨m0, m1, m2⟩ := Hm_14.out.e3
              obtain ⟨d0, d1, d2⟩ := Hd_14.out.e3
              go_wp2_with fail
              go_ret
              exact ⟨rfl, HB_14.out⟩
            · have hz := KL; clear hz
              have heu : eu = true := by have h := Zhu.out; simpa using h
              have hku : ku = true := Zcu.out rfl
              subst heu hku
              clear Zhu Zcu Zhm Zcm Zhd Zcd
              go_wp2_with fail
              clear hw10
              refine (HCu.out _ _ HG_10.out Hu_10.out.ent).mono ?_
              rintro e w11 ⟨rfl, h⟩
              clear a0 a1 a2 b0 b1 b2 u0 u1 u2 m0 m1 m2 d0 d1 d2
              have Ha_11 := Lib.hid (Ha_10.out.call h)
              have Hb_11 := Lib.hid (Hb_10.out.call h)
              have Hu_11 := Lib.hid (Hu_10.out.call h)
              have Hm_11 := Lib.hid (Hm_10.out.call h)
              have Hd_11 := Lib.hid (Hd_10.out.call h)
              have HG_11 := Lib.hid (HG_10.out.here h)
              have HB_11 := Lib.hid (below_call HB_10.out h)
              obtain ⟨a0, a1, a2⟩ := Ha_11.out.e3
              obtain ⟨b0, b1, b2⟩ := Hb_11.out.e3
              obtain ⟨u0, u1, u2⟩ := Hu_11.out.e3
              obtain ⟨m0, m1, m2⟩ := Hm_11.out.e3
              obtain ⟨d0, d1, d2⟩ := Hd_11.out.e3
              go_wp2_with fail
              have HS6 := Lib.hid (r6_drew ⟨Below.refl w11.heap.size w11, a0, a1, a2, b0, b1, b2⟩)
              go_region_held3 (fun w' => Below w11.heap.size w11 w' ∧ w'.cell? ⟨w.heap.size, 0, none⟩ = some (.int .u64 ra) ∧ w'.cell? ⟨w.heap.size, 1, none⟩ = some (.int .u64 ma) ∧ w'.cell? ⟨w.heap.size, 2, none⟩ = some (.slice pa na ca) ∧ w'.cell? ⟨w1.heap.size, 0, none⟩ = some (.int .u64 ra) ∧ w'.cell? ⟨w1.heap.size, 1, none⟩ = some (.int .u64 mb) ∧ w'.cell? ⟨w1.heap.size, 2, none⟩ = some (.slice pb nb cb))
                (first
                  | exact r6_call (by assumption) (by assumption)
                  | exact HS6.out
                  | exact r6_drew (by assumption)
                  | assumption)
                (first
                  | (go_at_call 10; (with_reducible change Calls _ _ #[.agg #[.int .u64 ra, .int .u64 ma, .slice pa na ca], .int .u64 c] _ _); refine (HJa.out _ (Ha_11.out.ent.any.at'.call (r6_below (by assumption)))).mono ?_; rintro en wq ⟨rfl, h'⟩; have h' := Lib.hid h')
                  | (go_at_call 10; (with_reducible change Calls _ _ #[.agg #[.int .u64 ra, .int .u64 mb, .slice pb nb cb], .int .u64 c] _ _); refine (HJb.out _ (Hb_11.out.ent.any.at'.call (r6_below (by assumption)))).mono ?_; rintro en w12 ⟨rfl, h'⟩; have h' := Lib.hid h'; have hSw := r6_call (by assumption) h'))
              have h := hSw.1; clear hSw HS6
              clear a0 a1 a2 b0 b1 b2 u0 u1 u2 m0 m1 m2 d0 d1 d2
              have Ha_12 := Lib.hid (Ha_11.out.call h)
              have Hb_12 := Lib.hid (Hb_11.out.call h)
              have Hu_12 := Lib.hid (Hu_11.out.call h)
              have Hm_12 := Lib.hid (Hm_11.out.call h)
              have Hd_12 := Lib.hid (Hd_11.out.call h)
              have HG_12 := Lib.hid (HG_11.out.here h)
              have HB_12 := Lib.hid (below_call HB_11.out h)
              obtain ⟨a0, a1, a2⟩ := Ha_12.out.e3
              obtain ⟨b0, b1, b2⟩ := Hb_12.out.e3
              obtain ⟨u0, u1, u2⟩ := Hu_12.out.e3
              obtain ⟨m0, m1, m2⟩ := Hm_12.out.e3
              obtain ⟨d0, d1, d2⟩ := Hd_12.out.e3
              go_wp2_with fail
              refine (KL.out _).mono ?_
              rintro e w13 ⟨rfl, h⟩
              clear a0 a1 a2 b0 b1 b2 u0 u1 u2 m0 m1 m2 d0 d1 d2
              have Ha_13 := Lib.hid (Ha_12.out.call h)
              have Hb_13 := Lib.hid (Hb_12.out.call h)
              have Hu_13 := Lib.hid (Hu_12.out.call h)
              have Hm_13 := Lib.hid (Hm_12.out.call h)
              have Hd_13 := Lib.hid (Hd_12.out.call h)
              have HG_13 := Lib.hid (HG_12.out.here h)
              have HB_13 := Lib.hid (below_call HB_12.out h)
              obtain ⟨a0, a1, a2⟩ := Ha_13.out.e3
              obtain ⟨b0, b1, b2⟩ := Hb_13.out.e3
              obtain ⟨u0, u1, u2⟩ := Hu_13.out.e3
              obtain ⟨m0, m1, m2⟩ := Hm_13.out.e3
              obtain ⟨d0, d1, d2⟩ := Hd_13.out.e3
              go_wp2_with fail
              refine (HJu.out _ _ Hu_13.out.ent.any.at').mono ?_
              rintro e w14 ⟨rfl, h⟩
              clear a0 a1 a2 b0 b1 b2 u0 u1 u2 m0 m1 m2 d0 d1 d2
              have Ha_14 := Lib.hid (Ha_13.out.call h)
              have Hb_14 := Lib.hid (Hb_13.out.call h)
              have Hu_14 := Lib.hid (Hu_13.out.call h)
              have Hm_14 := Lib.hid (Hm_13.out.call h)
              have Hd_14 := Lib.hid (Hd_13.out.call h)
              have HG_14 := Lib.hid (HG_13.out.here h)
              have HB_14 := Lib.hid (below_call HB_13.out h)
              obtain ⟨a0, a1, a2⟩ := Ha_14.out.e3
              obtain ⟨b0, b1, b2⟩ := Hb_14.out.e3
              obtain ⟨u0, u1, u2⟩ := Hu_14.out.e3
              obtain ⟨m0, m1, m2⟩ := Hm_14.out.e3
              obtain ⟨d0, d1, d2⟩ := Hd_14.out.e3
              go_wp2_with fail
              go_ret
              exact ⟨rfl, HB_14.out⟩
          · have hz := KL; clear hz
            cases Y
            · have hz := KL; clear hz
              have h := Zhd.out; simp at h
            · have hz := KL; clear hz
              have h := Zhm.out; simp at h
        · have hz := KL; clear hz
          cases X
          · have hz := KL; clear hz
            cases Y
            · have hz := KL; clear hz
              have heu : eu = false := by have h := Zhu.out; simpa using h
              have hku : ku = true := Zcu.out rfl
              subst heu hku
              have hed : ed = false := by have h := Zhd.out; simpa using h
              have hkd : kd = true := Zcd.out rfl
              subst hed hkd
              clear Zhu Zcu Zhm Zcm Zhd Zcd
              go_wp2_with fail
              clear hw10
              refine (HCu.out _ _ HG_10.out Hu_10.out.ent).mono ?_
              rintro e w11 ⟨rfl, h⟩
              clear a0 a1 a2 b0 b1 b2 u0 u1 u2 m0 m1 m2 d0 d1 d2
              have Ha_11 := Lib.hid (Ha_10.out.call h)
              have Hb_11 := Lib.hid (Hb_10.out.call h)
              have Hu_11 := Lib.hid (Hu_10.out.call h)
              have Hm_11 := Lib.hid (Hm_10.out.call h)
              have Hd_11 := Lib.hid (Hd_10.out.call h)
              have HG_11 := Lib.hid (HG_10.out.here h)
              have HB_11 := Lib.hid (below_call HB_10.out h)
              obtain ⟨a0, a1, a2⟩ := Ha_11.out.e3
              obtain ⟨b0, b1, b2⟩ := Hb_11.out.e3
              obtain ⟨u0, u1, u2⟩ := Hu_11.out.e3
              obtain ⟨m0, m1, m2⟩ := Hm_11.out.e3
              obtain ⟨d0, d1, d2⟩ := Hd_11.out.e3
              go_wp2_with fail
              refine (HCd.out _ _ HG_11.out Hd_11.out.ent).mono ?_
              rintro e w12 ⟨rfl, h⟩
              clear a0 a1 a2 b0 b1 b2 u0 u1 u2 m0 m1 m2 d0 d1 d2
              have Ha_12 := Lib.hid (Ha_11.out.call h)
              have Hb_12 := Lib.hid (Hb_11.out.call h)
              have Hu_12 := Lib.hid (Hu_11.out.call h)
              have Hm_12 := Lib.hid (Hm_11.out.call h)
              have Hd_12 := Lib.hid (Hd_11.out.call h)
              have HG_12 := Lib.hid (HG_11.out.here h)
              have HB_12 := Lib.hid (below_call HB_11.out h)
              obtain ⟨a0, a1, a2⟩ := Ha_12.out.e3
              obtain ⟨b0, b1, b2⟩ := Hb_12.out.e3
              obtain ⟨u0, u1, u2⟩ := Hu_12.out.e3
              obtain ⟨m0, m1, m2⟩ := Hm_12.out.e3
              obtain ⟨d0, d1, d2⟩ := Hd_12.out.e3
              go_wp2_with fail
              have HS6 := Lib.hid (r6_drew ⟨Below.refl w12.heap.size w12, a0, a1, a2, b0, b1, b2⟩)
              go_region_held3 (fun w' => Below w12.heap.size w12 w' ∧ w'.cell? ⟨w.heap.size, 0, none⟩ = some (.int .u64 ra) ∧ w'.cell? ⟨w.heap.size, 1, none⟩ = some (.int .u64 ma) ∧ w'.cell? ⟨w.heap.size, 2, none⟩ = some (.slice pa na ca) ∧ w'.cell? ⟨w1.heap.size, 0, none⟩ = some (.int .u64 ra) ∧ w'.cell? ⟨w1.heap.size, 1, none⟩ = some (.int .u64 mb) ∧ w'.cell? ⟨w1.heap.size, 2, none⟩ = some (.slice pb nb cb))
                (first
                  | exact r6_call (by assumption) (by assumption)
                  | exact HS6.out
                  | exact r6_drew (by assumption)
                  | assumption)
                (first
                  | (go_at_call 10; (with_reducible change Calls _ _ #[.agg #[.int .u64 ra, .int .u64 ma, .slice pa na ca], .int .u64 c] _ _); refine (HJa.out _ (Ha_12.out.ent.any.at'.call (r6_below (by assumption)))).mono ?_; rintro en wq ⟨rfl, h'⟩; have h' := Lib.hid h')
                  | (go_at_call 10; (with_reducible change Calls _ _ #[.agg #[.int .u64 ra, .int .u64 mb, .slice pb nb cb], .int .u64 c] _ _); refine (HJb.out _ (Hb_12.out.ent.any.at'.call (r6_below (by assumption)))).mono ?_; rintro en w13 ⟨rfl, h'⟩; have h' := Lib.hid h'; have hSw := r6_call (by assumption) h'))
              have h := hSw.1; clear hSw HS6
              clear a0 a1 a2 b0 b1 b2 u0 u1 u2 m0 m1 m2 d0 d1 d2
              have Ha_13 := Lib.hid (Ha_12.out.call h)
              have Hb_13 := Lib.hid (Hb_12.out.call h)
              have Hu_13 := Lib.hid (Hu_12.out.call h)
              have Hm_13 := Lib.hid (Hm_12.out.call h)
              have Hd_13 := Lib.hid (Hd_12.out.call h)
              have HG_13 := Lib.hid (HG_12.out.here h)
              have HB_13 := Lib.hid (below_call HB_12.out h)
              obtain ⟨a0, a1, a2⟩ := Ha_13.out.e3
              obtain ⟨b0, b1, b2⟩ := Hb_13.out.e3
              obtain ⟨u0, u1, u2⟩ := Hu_13.out.e3
              obtain ⟨m0, m1, m2⟩ := Hm_13.out.e3
              obtain ⟨d0, d1, d2⟩ := Hd_13.out.e3
              go_wp2_with fail
              refine (KL.out _).mono ?_
              rintro e w14 ⟨rfl, h⟩
              clear a0 a1 a2 b0 b1 b2 u0 u1 u2 m0 m1 m2 d0 d1 d2
              have Ha_14 := Lib.hid (Ha_13.out.call h)
              have Hb_14 := Lib.hid (Hb_13.out.call h)
              have Hu_14 := Lib.hid (Hu_13.out.call h)
              have Hm_14 := Lib.hid (Hm_13.out.call h)
              have Hd_14 := Lib.hid (Hd_13.out.call h)
              have HG_14 := Lib.hid (HG_13.out.here h)
              have HB_14 := Lib.hid (below_call HB_13.out h)
              obtain ⟨a0, a1, a2⟩ := Ha_14.out.e3
              obtain ⟨b0, b1, b2⟩ := Hb_14.out.e3
              obtain ⟨u0, u1, u2⟩ := Hu_14.out.e3
              obtain ⟨m0, m1, m2⟩ := Hm_14.out.e3
              obtain ⟨d0, d1, d2⟩ := Hd_14.out.e3
              go_wp2_with fail
              refine (HJu.out _ _ Hu_14.out.ent.any.at').mono ?_
              rintro e w15 ⟨rfl, h⟩
              clear a0 a1 a2 b0 b1 b2 u0 u1 u2 m0 m1 m2 d0 d1 d2
              have Ha_15 := Lib.hid (Ha_14.out.call h)
              have Hb_15 := Lib.hid (Hb_14.out.call h)
              have Hu_15 := Lib.hid (Hu_14.out.call h)
              have Hm_15 := Lib.hid (Hm_14.out.call h)
              have Hd_15 := Lib.hid (Hd_14.out.call h)
              have HG_15 := Lib.hid (HG_14.out.here h)
              have HB_15 := Lib.hid (below_call HB_14.out h)
              obtain ⟨a0, a1, a2⟩ := Ha_15.out.e3
              obtain ⟨b0, b1, b2⟩ := Hb_15.out.e3
              obtain ⟨u0, u1, u2⟩ := Hu_15.out.e3
              obtain ⟨m0, m1, m2⟩ := Hm_15.out.e3
              obtain ⟨d0, d1, d2⟩ := Hd_15.out.e3
              go_wp2_with fail
              refine (HJd.out _ _ Hd_15.out.ent.any.at').mono ?_
              rintro e w16 ⟨rfl, h⟩
              clear a0 a1 a2 b0 b1 b2 u0 u1 u2 m0 m1 m2 d0 d1 d2
              have Ha_16 := Lib.hid (Ha_15.out.call h)
              have Hb_16 := Lib.hid (Hb_15.out.call h)
              have Hu_16 := Lib.hid (Hu_15.out.call h)
              have Hm_16 := Lib.hid (Hm_15.out.call h)
              have Hd_16 := Lib.hid (Hd_15.out.call h)
              have HG_16 := Lib.hid (HG_15.out.here h)
              have HB_16 := Lib.hid (below_call HB_15.out h)
              obtain ⟨a0, a1, a2⟩ := Ha_16.out.e3
              obtain ⟨b0, b1, b2⟩ := Hb_16.out.e3
              obtain ⟨u0, u1, u2⟩ := Hu_16.out.e3
              obtain ⟨m0, m1, m2⟩ := Hm_16.out.e3
              obtain ⟨d0, d1, d2⟩ := Hd_16.out.e3
              go_wp2_with fail
              go_ret
              exact ⟨rfl, HB_16.out⟩
            · have hz := KL; clear hz
              have heu : eu = true := by have h := Zhu.out; simpa using h
              have hku : ku = true := Zcu.out rfl
              subst heu hku
              have hed : ed = false := by have h := Zhd.out; simpa using h
              have hkd : kd = true := Zcd.out rfl
              subst hed hkd
              clear Zhu Zcu Zhm Zcm Zhd Zcd
              go_wp2_with fail
              clear hw10
              refine (HCu.out _ _ HG_10.out Hu_10.out.ent).mono ?_
              rintro e w11 ⟨rfl, h⟩
              clear a0 a1 a2 b0 b1 b2 u0 u1 u2 m0 m1 m2 d0 d1 d2
              have Ha_11 := Lib.hid (Ha_10.out.call h)
              have Hb_11 := Lib.hid (Hb_10.out.call h)
              have Hu_11 := Lib.hid (Hu_10.out.call h)
              have Hm_11 := Lib.hid (Hm_10.out.call h)
              have Hd_11 := Lib.hid (Hd_10.out.call h)
              have HG_11 := Lib.hid (HG_10.out.here h)
              have HB_11 := Lib.hid (below_call HB_10.out h)
              obtain ⟨a0, a1, a2⟩ := Ha_11.out.e3
              obtain ⟨b0, b1, b2⟩ := Hb_11.out.e3
              obtain ⟨u0, u1, u2⟩ := Hu_11.out.e3
              obtain ⟨m0, m1, m2⟩ := Hm_11.out.e3
              obtain ⟨d0, d1, d2⟩ := Hd_11.out.e3
              go_wp2_with fail
              refine (HCd.out _ _ HG_11.out Hd_11.out.ent).mono ?_
              rintro e w12 ⟨rfl, h⟩
              clear a0 a1 a2 b0 b1 b2 u0 u1 u2 m0 m1 m2 d0 d1 d2
              have Ha_12 := Lib.hid (Ha_11.out.call h)
              have Hb_12 := Lib.hid (Hb_11.out.call h)
              have Hu_12 := Lib.hid (Hu_11.out.call h)
              have Hm_12 := Lib.hid (Hm_11.out.call h)
              have Hd_12 := Lib.hid (Hd_11.out.call h)
              have HG_12 := Lib.hid (HG_11.out.here h)
              have HB_12 := Lib.hid (below_call HB_11.out h)
              obtain ⟨a0, a1, a2⟩ := Ha_12.out.e3
              obtain ⟨b0, b1, b2⟩ := Hb_12.out.e3
              obtain ⟨u0, u1, u2⟩ := Hu_12.out.e3
              obtain ⟨m0, m1, m2⟩ := Hm_12.out.e3
              obtain ⟨d0, d1, d2⟩ := Hd_12.out.e3
              go_wp2_with fail
              have HS6 := Lib.hid (r6_drew ⟨Below.refl w12.heap.size w12, a0, a1, a2, b0, b1, b2⟩)
              go_region_held3 (fun w' => Below w12.heap.size w12 w' ∧ w'.cell? ⟨w.heap.size, 0, none⟩ = some (.int .u64 ra) ∧ w'.cell? ⟨w.heap.size, 1, none⟩ = some (.int .u64 ma) ∧ w'.cell? ⟨w.heap.size, 2, none⟩ = some (.slice pa na ca) ∧ w'.cell? ⟨w1.heap.size, 0, none⟩ = some (.int .u64 ra) ∧ w'.cell? ⟨w1.heap.size, 1, none⟩ = some (.int .u64 mb) ∧ w'.cell? ⟨w1.heap.size, 2, none⟩ = some (.slice pb nb cb))
                (first
                  | exact r6_call (by assumption) (by assumption)
                  | exact HS6.out
                  | exact r6_drew (by assumption)
                  | assumption)
                (first
                  | (go_at_call 10; (with_reducible change Calls _ _ #[.agg #[.int .u64 ra, .int .u64 ma, .slice pa na ca], .int .u64 c] _ _); refine (HJa.out _ (Ha_12.out.ent.any.at'.call (r6_below (by assumption)))).mono ?_; rintro en wq ⟨rfl, h'⟩; have h' := Lib.hid h')
                  | (go_at_call 10; (with_reducible change Calls _ _ #[.agg #[.int .u64 ra, .int .u64 mb, .slice pb nb cb], .int .u64 c] _ _); refine (HJb.out _ (Hb_12.out.ent.any.at'.call (r6_below (by assumption)))).mono ?_; rintro en w13 ⟨rfl, h'⟩; have h' := Lib.hid h'; have hSw := r6_call (by assumption) h'))
              have h := hSw.1; clear hSw HS6
              clear a0 a1 a2 b0 b1 b2 u0 u1 u2 m0 m1 m2 d0 d1 d2
              have Ha_13 := Lib.hid (Ha_12.out.call h)
              have Hb_13 := Lib.hid (Hb_12.out.call h)
              have Hu_13 := Lib.hid (Hu_12.out.call h)
              have Hm_13 := Lib.hid (Hm_12.out.call h)
              have Hd_13 := Lib.hid (Hd_12.out.call h)
              have HG_13 := Lib.hid (HG_12.out.here h)
              have HB_13 := Lib.hid (below_call HB_12.out h)
              obtain ⟨a0, a1, a2⟩ := Ha_13.out.e3
              obtain ⟨b0, b1, b2⟩ := Hb_13.out.e3
              obtain ⟨u0, u1, u2⟩ := Hu_13.out.e3
              obtain ⟨m0, m1, m2⟩ := Hm_13.out.e3
              obtain ⟨d0, d1, d2⟩ := Hd_13.out.e3
              go_wp2_with fail
              refine (KL.out _).mono ?_
              rintro e w14 ⟨rfl, h⟩
              clear a0 a1 a2 b0 b1 b2 u0 u1 u2 m0 m1 m2 d0 d1 d2
              have Ha_14 := Lib.hid (Ha_13.out.call h)
              have Hb_14 := Lib.hid (Hb_13.out.call h)
              have Hu_14 := Lib.hid (Hu_13.out.call h)
              have Hm_14 := Lib.hid (Hm_13.out.call h)
              have Hd_14 := Lib.hid (Hd_13.out.call h)
              have HG_14 := Lib.hid (HG_13.out.here h)
              have HB_14 := Lib.hid (below_call HB_13.out h)
              obtain ⟨a0, a1, a2⟩ := Ha_14.out.e3
              obtain ⟨b0, b1, b2⟩ := Hb_14.out.e3
              obtain ⟨u0, u1, u2⟩ := Hu_14.out.e3
              obtain ⟨m0, m1, m2⟩ := Hm_14.out.e3
              obtain ⟨d0, d1, d2⟩ := Hd_14.out.e3
              go_wp2_with fail
              refine (HJu.out _ _ Hu_14.out.ent.any.at').mono ?_
              rintro e w15 ⟨rfl, h⟩
              clear a0 a1 a2 b0 b1 b2 u0 u1 u2 m0 m1 m2 d0 d1 d2
              have Ha_15 := Lib.hid (Ha_14.out.call h)
              have Hb_15 := Lib.hid (Hb_14.out.call h)
              have Hu_15 := Lib.hid (Hu_14.out.call h)
              have Hm_15 := Lib.hid (Hm_14.out.call h)
              have Hd_15 := Lib.hid (Hd_14.out.call h)
              have HG_15 := Lib.hid (HG_14.out.here h)
              have HB_15 := Lib.hid (below_call HB_14.out h)
              obtain ⟨a0, a1, a2⟩ := Ha_15.out.e3
              obtain ⟨b0, b1, b2⟩ := Hb_15.out.e3
              obtain ⟨u0, u1, u2⟩ := Hu_15.out.e3
              obtain ⟨m0, m1, m2⟩ := Hm_15.out.e3
              obtain ⟨d0, d1, d2⟩ := Hd_15.out.e3
              go_wp2_with fail
              refine (HJd.out _ _ Hd_15.out.ent.any.at').mono ?_
              rintro e w16 ⟨rfl, h⟩
              clear a0 a1 a2 b0 b1 b2 u0 u1 u2 m0 m1 m2 d0 d1 d2
              have Ha_16 := Lib.hid (Ha_15.out.call h)
              have Hb_16 := Lib.hid (Hb_15.out.call h)
              have Hu_16 := Lib.hid (Hu_15.out.call h)
              have Hm_16 := Lib.hid (Hm_15.out.call h)
              have Hd_16 := Lib.hid (Hd_15.out.call h)
              have HG_16 := Lib.hid (HG_15.out.here h)
              have HB_16 := Lib.hid (below_call HB_15.out h)
              obtain ⟨a0, a1, a2⟩ := Ha_16.out.e3
              obtain ⟨b0, b1, b2⟩ := Hb_16.out.e3
              obtain ⟨u0, u1, u2⟩ := Hu_16.out.e3
              obtain ⟨m0, m1, m2⟩ := Hm_16.out.e3
              obtain ⟨d0, d1, d2⟩ := Hd_16.out.e3
              go_wp2_with fail
              go_ret
              exact ⟨rfl, HB_16.out⟩
          · have hz := KL; clear hz
            cases Y
            · have hz := KL; clear hz
              have heu : eu = true := by have h := Zhu.out; simpa using h
              have hku : ku = true := Zcu.out rfl
              subst heu hku
              have hed : ed = true := by have h := Zhd.out; simpa using h
              have hkd : kd = true := Zcd.out rfl
              subst hed hkd
              clear Zhu Zcu Zhm Zcm Zhd Zcd
              go_wp2_with fail
              clear hw10
              refine (HCu.out _ _ HG_10.out Hu_10.out.ent).mono ?_
              rintro e w11 ⟨rfl, h⟩
              clear a0 a1 a2 b0 b1 b2 u0 u1 u2 m0 m1 m2 d0 d1 d2
              have Ha_11 := Lib.hid (Ha_10.out.call h)
              have Hb_11 := Lib.hid (Hb_10.out.call h)
              have Hu_11 := Lib.hid (Hu_10.out.call h)
              have Hm_11 := Lib.hid (Hm_10.out.call h)
              have Hd_11 := Lib.hid (Hd_10.out.call h)
              have HG_11 := Lib.hid (HG_10.out.here h)
              have HB_11 := Lib.hid (below_call HB_10.out h)
              obtain ⟨a0, a1, a2⟩ := Ha_11.out.e3
              obtain ⟨b0, b1, b2⟩ := Hb_11.out.e3
              obtain ⟨u0, u1, u2⟩ := Hu_11.out.e3
              obtain ⟨m0, m1, m2⟩ := Hm_11.out.e3
              obtain ⟨d0, d1, d2⟩ := Hd_11.out.e3
              go_wp2_with fail
              refine (HCd.out _ _ HG_11.out Hd_11.out.ent).mono ?_
              rintro e w12 ⟨rfl, h⟩
              clear a0 a1 a2 b0 b1 b2 u0 u1 u2 m0 m1 m2 d0 d1 d2
              have Ha_12 := Lib.hid (Ha_11.out.call h)
              have Hb_12 := Lib.hid (Hb_11.out.call h)
              have Hu_12 := Lib.hid (Hu_11.out.call h)
              have Hm_12 := Lib.hid (Hm_11.out.call h)
              have Hd_12 := Lib.hid (Hd_11.out.call h)
              have HG_12 := Lib.hid (HG_11.out.here h)
              have HB_12 := Lib.hid (below_call HB_11.out h)
              obtain ⟨a0, a1, a2⟩ := Ha_12.out.e3
              obtain ⟨b0, b1, b2⟩ := Hb_12.out.e3
              obtain ⟨u0, u1, u2⟩ := Hu_12.out.e3
              obtain ⟨m0, m1, m2⟩ := Hm_12.out.e3
              obtain ⟨d0, d1, d2⟩ := Hd_12.out.e3
              go_wp2_with fail
              have HS6 := Lib.hid (r6_drew ⟨Below.refl w12.heap.size w12, a0, a1, a2, b0, b1, b2⟩)
              go_region_held3 (fun w' => Below w12.heap.size w12 w' ∧ w'.cell? ⟨w.heap.size, 0, none⟩ = some (.int .u64 ra) ∧ w'.cell? ⟨w.heap.size, 1, none⟩ = some (.int .u64 ma) ∧ w'.cell? ⟨w.heap.size, 2, none⟩ = some (.slice pa na ca) ∧ w'.cell? ⟨w1.heap.size, 0, none⟩ = some (.int .u64 ra) ∧ w'.cell? ⟨w1.heap.size, 1, none⟩ = some (.int .u64 mb) ∧ w'.cell? ⟨w1.heap.size, 2, none⟩ = some (.slice pb nb cb))
                (first
                  | exact r6_call (by assumption) (by assumption)
                  | exact HS6.out
                  | exact r6_drew (by assumption)
                  | assumption)
                (first
                  | (go_at_call 10; (with_reducible change Calls _ _ #[.agg #[.int .u64 ra, .int .u64 ma, .slice pa na ca], .int .u64 c] _ _); refine (HJa.out _ (Ha_12.out.ent.any.at'.call (r6_below (by assumption)))).mono ?_; rintro en wq ⟨rfl, h'⟩; have h' := Lib.hid h')
                  | (go_at_call 10; (with_reducible change Calls _ _ #[.agg #[.int .u64 ra, .int .u64 mb, .slice pb nb cb], .int .u64 c] _ _); refine (HJb.out _ (Hb_12.out.ent.any.at'.call (r6_below (by assumption)))).mono ?_; rintro en w13 ⟨rfl, h'⟩; have h' := Lib.hid h'; have hSw := r6_call (by assumption) h'))
              have h := hSw.1; clear hSw HS6
              clear a0 a1 a2 b0 b1 b2 u0 u1 u2 m0 m1 m2 d0 d1 d2
              have Ha_13 := Lib.hid (Ha_12.out.call h)
              have Hb_13 := Lib.hid (Hb_12.out.call h)
              have Hu_13 := Lib.hid (Hu_12.out.call h)
              have Hm_13 := Lib.hid (Hm_12.out.call h)
              have Hd_13 := Lib.hid (Hd_12.out.call h)
              have HG_13 := Lib.hid (HG_12.out.here h)
              have HB_13 := Lib.hid (below_call HB_12.out h)
              obtain ⟨a0, a1, a2⟩ := Ha_13.out.e3
              obtain ⟨b0, b1, b2⟩ := Hb_13.out.e3
              obtain ⟨u0, u1, u2⟩ := Hu_13.out.e3
              obtain ⟨m0, m1, m2⟩ := Hm_13.out.e3
              obtain ⟨d0, d1, d2⟩ := Hd_13.out.e3
              go_wp2_with fail
              refine (KL.out _).mono ?_
              rintro e w14 ⟨rfl, h⟩
              clear a0 a1 a2 b0 b1 b2 u0 u1 u2 m0 m1 m2 d0 d1 d2
              have Ha_14 := Lib.hid (Ha_13.out.call h)
              have Hb_14 := Lib.hid (Hb_13.out.call h)
              have Hu_14 := Lib.hid (Hu_13.out.call h)
              have Hm_14 := Lib.hid (Hm_13.out.call h)
              have Hd_14 := Lib.hid (Hd_13.out.call h)
              have HG_14 := Lib.hid (HG_13.out.here h)
              have HB_14 := Lib.hid (below_call HB_13.out h)
              obtain ⟨a0, a1, a2⟩ := Ha_14.out.e3
              obtain ⟨b0, b1, b2⟩ := Hb_14.out.e3
              obtain ⟨u0, u1, u2⟩ := Hu_14.out.e3
              obtain ⟨m0, m1, m2⟩ := Hm_14.out.e3
              obtain ⟨d0, d1, d2⟩ := Hd_14.out.e3
              go_wp2_with fail
              refine (HJu.out _ _ Hu_14.out.ent.any.at').mono ?_
              rintro e w15 ⟨rfl, h⟩
              clear a0 a1 a2 b0 b1 b2 u0 u1 u2 m0 m1 m2 d0 d1 d2
              have Ha_15 := Lib.hid (Ha_14.out.call h)
              have Hb_15 := Lib.hid (Hb_14.out.call h)
              have Hu_15 := Lib.hid (Hu_14.out.call h)
              have Hm_15 := Lib.hid (Hm_14.out.call h)
              have Hd_15 := Lib.hid (Hd_14.out.call h)
              have HG_15 := Lib.hid (HG_14.out.here h)
              have HB_15 := Lib.hid (below_call HB_14.out h)
              obtain ⟨a0, a1, a2⟩ := Ha_15.out.e3
              obtain ⟨b0, b1, b2⟩ := Hb_15.out.e3
              obtain ⟨u0, u1, u2⟩ := Hu_15.out.e3
              obtain ⟨m0, m1, m2⟩ := Hm_15.out.e3
              obtain ⟨d0, d1, d2⟩ := Hd_15.out.e3
              go_wp2_with fail
              refine (HJd.out _ _ Hd_15.out.ent.any.at').mono ?_
              rintro e w16 ⟨rfl, h⟩
              clear a0 a1 a2 b0 b1 b2 u0 u1 u2 m0 m1 m2 d0 d1 d2
              have Ha_16 := Lib.hid (Ha_15.out.call h)
              have Hb_16 := Lib.hid (Hb_15.out.call h)
              have Hu_16 := Lib.hid (Hu_15.out.call h)
              have Hm_16 := Lib.hid (Hm_15.out.call h)
              have Hd_16 := Lib.hid (Hd_15.out.call h)
              have HG_16 := Lib.hid (HG_15.out.here h)
              have HB_16 := Lib.hid (below_call HB_15.out h)
              obtain ⟨a0, a1, a2⟩ := Ha_16.out.e3
              obtain ⟨b0, b1, b2⟩ := Hb_16.out.e3
              obtain ⟨u0, u1, u2⟩ := Hu_16.out.e3
              obtain ⟨m0, m1, m2⟩ := Hm_16.out.e3
              obtain ⟨d0, d1, d2⟩ := Hd_16.out.e3
              go_wp2_with fail
              go_ret
              exact ⟨rfl, HB_16.out⟩
            · have hz := KL; clear hz
              have h := Zhm.out; simp at h
      · have hz := KL; clear hz
        cases bd
        · have hz := KL; clear hz
          cases X
          · have hz := KL; clear hz
            cases Y
            · have hz := KL; clear hz
              have heu : eu = false := by have h := Zhu.out; simpa using h
              have hku : ku = true := Zcu.out rfl
              subst heu hku
              have hem : em = false := by have h := Zhm.out; simpa using h
              have hkm : km = true := Zcm.out rfl
              subst hem hkm
              clear Zhu Zcu Zhm Zcm Zhd Zcd
              go_wp2_with fail
              clear hw10
              refine (HCu.out _ _ HG_10.out Hu_10.out.ent).mono ?_
              rintro e w11 ⟨rfl, h⟩
              clear a0 a1 a2 b0 b1 b2 u0 u1 u2 m0 m1 m2 d0 d1 d2
              have Ha_11 := Lib.hid (Ha_10.out.call h)
              have Hb_11 := Lib.hid (Hb_10.out.call h)
              have Hu_11 := Lib.hid (Hu_10.out.call h)
              have Hm_11 := Lib.hid (Hm_10.out.call h)
              have Hd_11 := Lib.hid (Hd_10.out.call h)
              have HG_11 := Lib.hid (HG_10.out.here h)
              have HB_11 := Lib.hid (below_call HB_10.out h)
              obtain ⟨a0, a1, a2⟩ := Ha_11.out.e3
              obtain ⟨b0, b1, b2⟩ := Hb_11.out.e3
              obtain ⟨u0, u1, u2⟩ := Hu_11.out.e3
              obtain ⟨m0, m1, m2⟩ := Hm_11.out.e3
              obtain ⟨d0, d1, d2⟩ := Hd_11.out.e3
              go_wp2_with fail
              refine (HCm.out _ _ HG_11.out Hm_11.out.ent).mono ?_
              rintro e w12 ⟨rfl, h⟩
              clear a0 a1 a2 b0 b1 b2 u0 u1 u2 m0 m1 m2 d0 d1 d2
              have Ha_12 := Lib.hid (Ha_11.out.call h)
              have Hb_12 := Lib.hid (Hb_11.out.call h)
              have Hu_12 := Lib.hid (Hu_11.out.call h)
              have Hm_12 := Lib.hid (Hm_11.out.call h)
              have Hd_12 := Lib.hid (Hd_11.out.call h)
              have HG_12 := Lib.hid (HG_11.out.here h)
              have HB_12 := Lib.hid (below_call HB_11.out h)
              obtain ⟨a0, a1, a2⟩ := Ha_12.out.e3
              obtain ⟨b0, b1, b2⟩ := Hb_12.out.e3
              obtain ⟨u0, u1, u2⟩ := Hu_12.out.e3
              obtain ⟨m0, m1, m2⟩ := Hm_12.out.e3
              obtain ⟨d0, d1, d2⟩ := Hd_12.out.e3
              go_wp2_with fail
              have HS6 := Lib.hid (r6_drew ⟨Below.refl w12.heap.size w12, a0, a1, a2, b0, b1, b2⟩)
              go_region_held3 (fun w' => Below w12.heap.size w12 w' ∧ w'.cell? ⟨w.heap.size, 0, none⟩ = some (.int .u64 ra) ∧ w'.cell? ⟨w.heap.size, 1, none⟩ = some (.int .u64 ma) ∧ w'.cell? ⟨w.heap.size, 2, none⟩ = some (.slice pa na ca) ∧ w'.cell? ⟨w1.heap.size, 0, none⟩ = some (.int .u64 ra) ∧ w'.cell? ⟨w1.heap.size, 1, none⟩ = some (.int .u64 mb) ∧ w'.cell? ⟨w1.heap.size, 2, none⟩ = some (.slice pb nb cb))
                (first
                  | exact r6_call (by assumption) (by assumption)
                  | exact HS6.out
                  | exact r6_drew (by assumption)
                  | assumption)
                (first
                  | (go_at_call 10; (with_reducible change Calls _ _ #[.agg #[.int .u64 ra, .int .u64 ma, .slice pa na ca], .int .u64 c] _ _); refine (HJa.out _ (Ha_12.out.ent.any.at'.call (r6_below (by assumption)))).mono ?_; rintro en wq ⟨rfl, h'⟩; have h' := Lib.hid h')
                  | (go_at_call 10; (with_reducible change Calls _ _ #[.agg #[.int .u64 ra, .int .u64 mb, .slice pb nb cb], .int .u64 c] _ _); refine (HJb.out _ (Hb_12.out.ent.any.at'.call (r6_below (by assumption)))).mono ?_; rintro en w13 ⟨rfl, h'⟩; have h' := Lib.hid h'; have hSw := r6_call (by assumption) h'))
              have h := hSw.1; clear hSw HS6
              clear a0 a1 a2 b0 b1 b2 u0 u1 u2 m0 m1 m2 d0 d1 d2
              have Ha_13 := Lib.hid (Ha_12.out.call h)
              have Hb_13 := Lib.hid (Hb_12.out.call h)
              have Hu_13 := Lib.hid (Hu_12.out.call h)
              have Hm_13 := Lib.hid (Hm_12.out.call h)
              have Hd_13 := Lib.hid (Hd_12.out.call h)
              have HG_13 := Lib.hid (HG_12.out.here h)
              have HB_13 := Lib.hid (below_call HB_12.out h)
              obtain ⟨a0, a1, a2⟩ := Ha_13.out.e3
              obtain ⟨b0, b1, b2⟩ := Hb_13.out.e3
              obtain ⟨u0, u1, u2⟩ := Hu_13.out.e3
              obtain ⟨m0, m1, m2⟩ := Hm_13.out.e3
              obtain ⟨d0, d1, d2⟩ := Hd_13.out.e3
              go_wp2_with fail
              refine (KL.out _).mono ?_
              rintro e w14 ⟨rfl, h⟩
              clear a0 a1 a2 b0 b1 b2 u0 u1 u2 m0 m1 m2 d0 d1 d2
              have Ha_14 := Lib.hid (Ha_13.out.call h)
              have Hb_14 := Lib.hid (Hb_13.out.call h)
              have Hu_14 := Lib.hid (Hu_13.out.call h)
              have Hm_14 := Lib.hid (Hm_13.out.call h)
              have Hd_14 := Lib.hid (Hd_13.out.call h)
              have HG_14 := Lib.hid (HG_13.out.here h)
              have HB_14 := Lib.hid (below_call HB_13.out h)
              obtain ⟨a0, a1, a2⟩ := Ha_14.out.e3
              obtain ⟨b0, b1, b2⟩ := Hb_14.out.e3
              obtain ⟨u0, u1, u2⟩ := Hu_14.out.e3
              obtain ⟨m0, m1, m2⟩ := Hm_14.out.e3
              obtain ⟨d0, d1, d2⟩ := Hd_14.out.e3
              go_wp2_with fail
              refine (HJu.out _ _ Hu_14.out.ent.any.at').mono ?_
              rintro e w15 ⟨rfl, h⟩
              clear a0 a1 a2 b0 b1 b2 u0 u1 u2 m0 m1 m2 d0 d1 d2
              have Ha_15 := Lib.hid (Ha_14.out.call h)
              have Hb_15 := Lib.hid (Hb_14.out.call h)
              have Hu_15 := Lib.hid (Hu_14.out.call h)
              have Hm_15 := Lib.hid (Hm_14.out.call h)
              have Hd_15 := Lib.hid (Hd_14.out.call h)
              have HG_15 := Lib.hid (HG_14.out.here h)
              have HB_15 := Lib.hid (below_call HB_14.out h)
              obtain ⟨a0, a1, a2⟩ := Ha_15.out.e3
              obtain ⟨b0, b1, b2⟩ := Hb_15.out.e3
              obtain ⟨u0, u1, u2⟩ := Hu_15.out.e3
              obtain ⟨m0, m1, m2⟩ := Hm_15.out.e3
              obtain ⟨d0, d1, d2⟩ := Hd_15.out.e3
              go_wp2_with fail
              refine (HJm.out _ _ Hm_15.out.ent.any.at').mono ?_
              rintro e w16 ⟨rfl, h⟩
              clear a0 a1 a2 b0 b1 b2 u0 u1 u2 m0 m1 m2 d0 d1 d2
              have Ha_16 := Lib.hid (Ha_15.out.call h)
              have Hb_16 := Lib.hid (Hb_15.out.call h)
              have Hu_16 := Lib.hid (Hu_15.out.call h)
              have Hm_16 := Lib.hid (Hm_15.out.call h)
              have Hd_16 := Lib.hid (Hd_15.out.call h)
              have HG_16 := Lib.hid (HG_15.out.here h)
              have HB_16 := Lib.hid (below_call HB_15.out h)
              obtain ⟨a0, a1, a2⟩ := Ha_16.out.e3
              obtain ⟨b0, b1, b2⟩ := Hb_16.out.e3
              obtain ⟨u0, u1, u2⟩ := Hu_16.out.e3
              obtain ⟨m0, m1, m2⟩ := Hm_16.out.e3
              obtain ⟨d0, d1, d2⟩ := Hd_16.out.e3
              go_wp2_with fail
              go_ret
              exact ⟨rfl, HB_16.out⟩
            · have hz := KL; clear hz
              have heu : eu = true := by have h := Zhu.out; simpa using h
              have hku : ku = true := Zcu.out rfl
              subst heu hku
              have hem : em = false := by have h := Zhm.out; simpa using h
              have hkm : km = true := Zcm.out rfl
              subst hem hkm
              clear Zhu Zcu Zhm Zcm Zhd Zcd
              go_wp2_with fail
              clear hw10
              refine (HCu.out _ _ HG_10.out Hu_10.out.ent).mono ?_
              rintro e w11 ⟨rfl, h⟩
              clear a0 a1 a2 b0 b1 b2 u0 u1 u2 m0 m1 m2 d0 d1 d2
              have Ha_11 := Lib.hid (Ha_10.out.call h)
              have Hb_11 := Lib.hid (Hb_10.out.call h)
              have Hu_11 := Lib.hid (Hu_10.out.call h)
              have Hm_11 := Lib.hid (Hm_10.out.call h)
              have Hd_11 := Lib.hid (Hd_10.out.call h)
              have HG_11 := Lib.hid (HG_10.out.here h)
              have HB_11 := Lib.hid (below_call HB_10.out h)
              obtain ⟨a0, a1, a2⟩ := Ha_11.out.e3
              obtain ⟨b0, b1, b2⟩ := Hb_11.out.e3
              obtain ⟨u0, u1, u2⟩ := Hu_11.out.e3
              obtain ⟨m0, m1, m2⟩ := Hm_11.out.e3
              obtain ⟨d0, d1, d2⟩ := Hd_11.out.e3
              go_wp2_with fail
              refine (HCm.out _ _ HG_11.out Hm_11.out.ent).mono ?_
              rintro e w12 ⟨rfl, h⟩
              clear a0 a1 a2 b0 b1 b2 u0 u1 u2 m0 m1 m2 d0 d1 d2
              have Ha_12 := Lib.hid (Ha_11.out.call h)
              have Hb_12 := Lib.hid (Hb_11.out.call h)
              have Hu_12 := Lib.hid (Hu_11.out.call h)
              have Hm_12 := Lib.hid (Hm_11.out.call h)
              have Hd_12 := Lib.hid (Hd_11.out.call h)
              have HG_12 := Lib.hid (HG_11.out.here h)
              have HB_12 := Lib.hid (below_call HB_11.out h)
              obtain ⟨a0, a1, a2⟩ := Ha_12.out.e3
              obtain ⟨b0, b1, b2⟩ := Hb_12.out.e3
              obtain ⟨u0, u1, u2⟩ := Hu_12.out.e3
              obtain ⟨m0, m1, m2⟩ := Hm_12.out.e3
              obtain ⟨d0, d1, d2⟩ := Hd_12.out.e3
              go_wp2_with fail
              have HS6 := Lib.hid (r6_drew ⟨Below.refl w12.heap.size w12, a0, a1, a2, b0, b1, b2⟩)
              go_region_held3 (fun w' => Below w12.heap.size w12 w' ∧ w'.cell? ⟨w.heap.size, 0, none⟩ = some (.int .u64 ra) ∧ w'.cell? ⟨w.heap.size, 1, none⟩ = some (.int .u64 ma) ∧ w'.cell? ⟨w.heap.size, 2, none⟩ = some (.slice pa na ca) ∧ w'.cell? ⟨w1.heap.size, 0, none⟩ = some (.int .u64 ra) ∧ w'.cell? ⟨w1.heap.size, 1, none⟩ = some (.int .u64 mb) ∧ w'.cell? ⟨w1.heap.size, 2, none⟩ = some (.slice pb nb cb))
                (first
                  | exact r6_call (by assumption) (by assumption)
                  | exact HS6.out
                  | exact r6_drew (by assumption)
                  | assumption)
                (first
                  | (go_at_call 10; (with_reducible change Calls _ _ #[.agg #[.int .u64 ra, .int .u64 ma, .slice pa na ca], .int .u64 c] _ _); refine (HJa.out _ (Ha_12.out.ent.any.at'.call (r6_below (by assumption)))).mono ?_; rintro en wq ⟨rfl, h'⟩; have h' := Lib.hid h')
                  | (go_at_call 10; (with_reducible change Calls _ _ #[.agg #[.int .u64 ra, .int .u64 mb, .slice pb nb cb], .int .u64 c] _ _); refine (HJb.out _ (Hb_12.out.ent.any.at'.call (r6_below (by assumption)))).mono ?_; rintro en w13 ⟨rfl, h'⟩; have h' := Lib.hid h'; have hSw := r6_call (by assumption) h'))
              have h := hSw.1; clear hSw HS6
              clear a0 a1 a2 b0 b1 b2 u0 u1 u2 m0 m1 m2 d0 d1 d2
              have Ha_13 := Lib.hid (Ha_12.out.call h)
              have Hb_13 := Lib.hid (Hb_12.out.call h)
              have Hu_13 := Lib.hid (Hu_12.out.call h)
              have Hm_13 := Lib.hid (Hm_12.out.call h)
              have Hd_13 := Lib.hid (Hd_12.out.call h)
              have HG_13 := Lib.hid (HG_12.out.here h)
              have HB_13 := Lib.hid (below_call HB_12.out h)
              obtain ⟨a0, a1, a2⟩ := Ha_13.out.e3
              obtain ⟨b0, b1, b2⟩ := Hb_13.out.e3
              obtain ⟨u0, u1, u2⟩ := Hu_13.out.e3
              obtain ⟨m0, m1, m2⟩ := Hm_13.out.e3
              obtain ⟨d0, d1, d2⟩ := Hd_13.out.e3
              go_wp2_with fail
              refine (KL.out _).mono ?_
              rintro e w14 ⟨rfl, h⟩
              clear a0 a1 a2 b0 b1 b2 u0 u1 u2 m0 m1 m2 d0 d1 d2
              have Ha_14 := Lib.hid (Ha_13.out.call h)
              have Hb_14 := Lib.hid (Hb_13.out.call h)
              have Hu_14 := Lib.hid (Hu_13.out.call h)
              have Hm_14 := Lib.hid (Hm_13.out.call h)
              have Hd_14 := Lib.hid (Hd_13.out.call h)
              have HG_14 := Lib.hid (HG_13.out.here h)
              have HB_14 := Lib.hid (below_call HB_13.out h)
              obtain ⟨a0, a1, a2⟩ := Ha_14.out.e3
              obtain ⟨b0, b1, b2⟩ := Hb_14.out.e3
              obtain ⟨u0, u1, u2⟩ := Hu_14.out.e3
              obtain ⟨m0, m1, m2⟩ := Hm_14.out.e3
              obtain ⟨d0, d1, d2⟩ := Hd_14.out.e3
              go_wp2_with fail
              refine (HJu.out _ _ Hu_14.out.ent.any.at').mono ?_
              rintro e w15 ⟨rfl, h⟩
              clear a0 a1 a2 b0 b1 b2 u0 u1 u2 m0 m1 m2 d0 d1 d2
              have Ha_15 := Lib.hid (Ha_14.out.call h)
              have Hb_15 := Lib.hid (Hb_14.out.call h)
              have Hu_15 := Lib.hid (Hu_14.out.call h)
              have Hm_15 := Lib.hid (Hm_14.out.call h)
              have Hd_15 := Lib.hid (Hd_14.out.call h)
              have HG_15 := Lib.hid (HG_14.out.here h)
              have HB_15 := Lib.hid (below_call HB_14.out h)
              obtain ⟨a0, a1, a2⟩ := Ha_15.out.e3
              obtain ⟨b0, b1, b2⟩ := Hb_15.out.e3
              obtain ⟨u0, u1, u2⟩ := Hu_15.out.e3
              obtain ⟨m0, m1, m2⟩ := Hm_15.out.e3
              obtain ⟨d0, d1, d2⟩ := Hd_15.out.e3
              go_wp2_with fail
              refine (HJm.out _ _ Hm_15.out.ent.any.at').mono ?_
              rintro e w16 ⟨rfl, h⟩
              clear a0 a1 a2 b0 b1 b2 u0 u1 u2 m0 m1 m2 d0 d1 d2
              have Ha_16 := Lib.hid (Ha_15.out.call h)
              have Hb_16 := Lib.hid (Hb_15.out.call h)
              have Hu_16 := Lib.hid (Hu_15.out.call h)
              have Hm_16 := Lib.hid (Hm_15.out.call h)
              have Hd_16 := Lib.hid (Hd_15.out.call h)
              have HG_16 := Lib.hid (HG_15.out.here h)
              have HB_16 := Lib.hid (below_call HB_15.out h)
              obtain ⟨a0, a1, a2⟩ := Ha_16.out.e3
              obtain ⟨b0, b1, b2⟩ := Hb_16.out.e3
              obtain ⟨u0, u1, u2⟩ := Hu_16.out.e3
              obtain ⟨m0, m1, m2⟩ := Hm_16.out.e3
              obtain ⟨d0, d1, d2⟩ := Hd_16.out.e3
              go_wp2_with fail
              go_ret
              exact ⟨rfl, HB_16.out⟩
          · have hz := KL; clear hz
            cases Y
            · have hz := KL; clear hz
              have h := Zhd.out; simp at h
            · have hz := KL; clear hz
              have heu : eu = true := by have h := Zhu.out; simpa using h
              have hku : ku = true := Zcu.out rfl
              subst heu hku
              have hem : em = true := by have h := Zhm.out; simpa using h
              have hkm : km = true := Zcm.out rfl
              subst hem hkm
              clear Zhu Zcu Zhm Zcm Zhd Zcd
              go_wp2_with fail
              clear hw10
              refine (HCu.out _ _ HG_10.out Hu_10.out.ent).mono ?_
              rintro e w11 ⟨rfl, h⟩
              clear a0 a1 a2 b0 b1 b2 u0 u1 u2 m0 m1 m2 d0 d1 d2
              have Ha_11 := Lib.hid (Ha_10.out.call h)
              have Hb_11 := Lib.hid (Hb_10.out.call h)
              have Hu_11 := Lib.hid (Hu_10.out.call h)
              have Hm_11 := Lib.hid (Hm_10.out.call h)
              have Hd_11 := Lib.hid (Hd_10.out.call h)
              have HG_11 := Lib.hid (HG_10.out.here h)
              have HB_11 := Lib.hid (below_call HB_10.out h)
              obtain ⟨a0, a1, a2⟩ := Ha_11.out.e3
              obtain ⟨b0, b1, b2⟩ := Hb_11.out.e3
              obtain ⟨u0, u1, u2⟩ := Hu_11.out.e3
              obtain ⟨m0, m1, m2⟩ := Hm_11.out.e3
              obtain ⟨d0, d1, d2⟩ := Hd_11.out.e3
              go_wp2_with fail
              refine (HCm.out _ _ HG_11.out Hm_11.out.ent).mono ?_
              rintro e w12 ⟨rfl, h⟩
              clear a0 a1 a2 b0 b1 b2 u0 u1 u2 m0 m1 m2 d0 d1 d2
              have Ha_12 := Lib.hid (Ha_11.out.call h)
              have Hb_12 := Lib.hid (Hb_11.out.call h)
              have Hu_12 := Lib.hid (Hu_11.out.call h)
              have Hm_12 := Lib.hid (Hm_11.out.call h)
              have Hd_12 := Lib.hid (Hd_11.out.call h)
              have HG_12 := Lib.hid (HG_11.out.here h)
              have HB_12 := Lib.hid (below_call HB_11.out h)
              obtain ⟨a0, a1, a2⟩ := Ha_12.out.e3
              obtain ⟨b0, b1, b2⟩ := Hb_12.out.e3
              obtain ⟨u0, u1, u2⟩ := Hu_12.out.e3
              obtain ⟨m0, m1, m2⟩ := Hm_12.out.e3
              obtain ⟨d0, d1, d2⟩ := Hd_12.out.e3
              go_wp2_with fail
              have HS6 := Lib.hid (r6_drew ⟨Below.refl w12.heap.size w12, a0, a1, a2, b0, b1, b2⟩)
              go_region_held3 (fun w' => Below w12.heap.size w12 w' ∧ w'.cell? ⟨w.heap.size, 0, none⟩ = some (.int .u64 ra) ∧ w'.cell? ⟨w.heap.size, 1, none⟩ = some (.int .u64 ma) ∧ w'.cell? ⟨w.heap.size, 2, none⟩ = some (.slice pa na ca) ∧ w'.cell? ⟨w1.heap.size, 0, none⟩ = some (.int .u64 ra) ∧ w'.cell? ⟨w1.heap.size, 1, none⟩ = some (.int .u64 mb) ∧ w'.cell? ⟨w1.heap.size, 2, none⟩ = some (.slice pb nb cb))
                (first
                  | exact r6_call (by assumption) (by assumption)
                  | exact HS6.out
                  | exact r6_drew (by assumption)
                  | assumption)
                (first
                  | (go_at_call 10; (with_reducible change Calls _ _ #[.agg #[.int .u64 ra, .int .u64 ma, .slice pa na ca], .int .u64 c] _ _); refine (HJa.out _ (Ha_12.out.ent.any.at'.call (r6_below (by assumption)))).mono ?_; rintro en wq ⟨rfl, h'⟩; have h' := Lib.hid h')
                  | (go_at_call 10; (with_reducible change Calls _ _ #[.agg #[.int .u64 ra, .int .u64 mb, .slice pb nb cb], .int .u64 c] _ _); refine (HJb.out _ (Hb_12.out.ent.any.at'.call (r6_below (by assumption)))).mono ?_; rintro en w13 ⟨rfl, h'⟩; have h' := Lib.hid h'; have hSw := r6_call (by assumption) h'))
              have h := hSw.1; clear hSw HS6
              clear a0 a1 a2 b0 b1 b2 u0 u1 u2 m0 m1 m2 d0 d1 d2
              have Ha_13 := Lib.hid (Ha_12.out.call h)
              have Hb_13 := Lib.hid (Hb_12.out.call h)
              have Hu_13 := Lib.hid (Hu_12.out.call h)
              have Hm_13 := Lib.hid (Hm_12.out.call h)
              have Hd_13 := Lib.hid (Hd_12.out.call h)
              have HG_13 := Lib.hid (HG_12.out.here h)
              have HB_13 := Lib.hid (below_call HB_12.out h)
              obtain ⟨a0, a1, a2⟩ := Ha_13.out.e3
              obtain ⟨b0, b1, b2⟩ := Hb_13.out.e3
              obtain ⟨u0, u1, u2⟩ := Hu_13.out.e3
              obtain ⟨m0, m1, m2⟩ := Hm_13.out.e3
              obtain ⟨d0, d1, d2⟩ := Hd_13.out.e3
              go_wp2_with fail
              refine (KL.out _).mono ?_
              rintro e w14 ⟨rfl, h⟩
              clear a0 a1 a2 b0 b1 b2 u0 u1 u2 m0 m1 m2 d0 d1 d2
              have Ha_14 := Lib.hid (Ha_13.out.call h)
              have Hb_14 := Lib.hid (Hb_13.out.call h)
              have Hu_14 := Lib.hid (Hu_13.out.call h)
              have Hm_14 := Lib.hid (Hm_13.out.call h)
              have Hd_14 := Lib.hid (Hd_13.out.call h)
              have HG_14 := Lib.hid (HG_13.out.here h)
              have HB_14 := Lib.hid (below_call HB_13.out h)
              obtain ⟨a0, a1, a2⟩ := Ha_14.out.e3
              obtain ⟨b0, b1, b2⟩ := Hb_14.out.e3
              obtain ⟨u0, u1, u2⟩ := Hu_14.out.e3
              obtain ⟨m0, m1, m2⟩ := Hm_14.out.e3
              obtain ⟨d0, d1, d2⟩ := Hd_14.out.e3
              go_wp2_with fail
              refine (HJu.out _ _ Hu_14.out.ent.any.at').mono ?_
              rintro e w15 ⟨rfl, h⟩
              clear a0 a1 a2 b0 b1 b2 u0 u1 u2 m0 m1 m2 d0 d1 d2
              have Ha_15 := Lib.hid (Ha_14.out.call h)
              have Hb_15 := Lib.hid (Hb_14.out.call h)
              have Hu_15 := Lib.hid (Hu_14.out.call h)
              have Hm_15 := Lib.hid (Hm_14.out.call h)
              have Hd_15 := Lib.hid (Hd_14.out.call h)
              have HG_15 := Lib.hid (HG_14.out.here h)
              have HB_15 := Lib.hid (below_call HB_14.out h)
              obtain ⟨a0, a1, a2⟩ := Ha_15.out.e3
              obtain ⟨b0, b1, b2⟩ := Hb_15.out.e3
              obtain ⟨u0, u1, u2⟩ := Hu_15.out.e3
              obtain ⟨m0, m1, m2⟩ := Hm_15.out.e3
              obtain ⟨d0, d1, d2⟩ := Hd_15.out.e3
              go_wp2_with fail
              refine (HJm.out _ _ Hm_15.out.ent.any.at').mono ?_
              rintro e w16 ⟨rfl, h⟩
              clear a0 a1 a2 b0 b1 b2 u0 u1 u2 m0 m1 m2 d0 d1 d2
              have Ha_16 := Lib.hid (Ha_15.out.call h)
              have Hb_16 := Lib.hid (Hb_15.out.call h)
              have Hu_16 := Lib.hid (Hu_15.out.call h)
              have Hm_16 := Lib.hid (Hm_15.out.call h)
              have Hd_16 := Lib.hid (Hd_15.out.call h)
              have HG_16 := Lib.hid (HG_15.out.here h)
              have HB_16 := Lib.hid (below_call HB_15.out h)
              obtain ⟨a0, a1, a2⟩ := Ha_16.out.e3
              obtain ⟨b0, b1, b2⟩ := Hb_16.out.e3
              obtain ⟨u0, u1, u2⟩ := Hu_16.out.e3
              obtain ⟨m0, m1, m2⟩ := Hm_16.out.e3
              obtain ⟨d0, d1, d2⟩ := Hd_16.out.e3
              go_wp2_with fail
              go_ret
              exact ⟨rfl, HB_16.out⟩
        · have hz := KL; clear hz
          cases X
          · have hz := KL; clear hz
            cases Y
            · have hz := KL; clear hz
              have heu : eu = false := by have h := Zhu.out; simpa using h
              have hku : ku = true := Zcu.out rfl
              subst heu hku
              have hem : em = false := by have h := Zhm.out; simpa using h
              have hkm : km = true := Zcm.out rfl
              subst hem hkm
              have hed : ed = false := by have h := Zhd.out; simpa using h
              have hkd : kd = true := Zcd.out rfl
              subst hed hkd
              clear Zhu Zcu Zhm Zcm Zhd Zcd
              go_wp2_with fail
              clear hw10
              refine (HCu.out _ _ HG_10.out Hu_10.out.ent).mono ?_
              rintro e w11 ⟨rfl, h⟩
              clear a0 a1 a2 b0 b1 b2 u0 u1 u2 m0 m1 m2 d0 d1 d2
              have Ha_11 := Lib.hid (Ha_10.out.call h)
              have Hb_11 := Lib.hid (Hb_10.out.call h)
              have Hu_11 := Lib.hid (Hu_10.out.call h)
              have Hm_11 := Lib.hid (Hm_10.out.call h)
              have Hd_11 := Lib.hid (Hd_10.out.call h)
              have HG_11 := Lib.hid (HG_10.out.here h)
              have HB_11 := Lib.hid (below_call HB_10.out h)
              obtain ⟨a0, a1, a2⟩ := Ha_11.out.e3
              obtain ⟨b0, b1, b2⟩ := Hb_11.out.e3
              obtain ⟨u0, u1, u2⟩ := Hu_11.out.e3
              obtain ⟨m0, m1, m2⟩ := Hm_11.out.e3
              obtain ⟨d0, d1, d2⟩ := Hd_11.out.e3
              go_wp2_with fail
              refine (HCm.out _ _ HG_11.out Hm_11.out.ent).mono ?_
              rintro e w12 ⟨rfl, h⟩
              clear a0 a1 a2 b0 b1 b2 u0 u1 u2 m0 m1 m2 d0 d1 d2
              have Ha_12 := Lib.hid (Ha_11.out.call h)
              have Hb_12 := Lib.hid (Hb_11.out.call h)
              have Hu_12 := Lib.hid (Hu_11.out.call h)
              have Hm_12 := Lib.hid (Hm_11.out.call h)
              have Hd_12 := Lib.hid (Hd_11.out.call h)
              have HG_12 := Lib.hid (HG_11.out.here h)
              have HB_12 := Lib.hid (below_call HB_11.out h)
              obtain ⟨a0, a1, a2⟩ := Ha_12.out.e3
              obtain ⟨b0, b1, b2⟩ := Hb_12.out.e3
              obtain ⟨u0, u1, u2⟩ := Hu_12.out.e3
              obtain ⟨m0, m1, m2⟩ := Hm_12.out.e3
              obtain ⟨d0, d1, d2⟩ := Hd_12.out.e3
              go_wp2_with fail
              refine (HCd.out _ _ HG_12.out Hd_12.out.ent).mono ?_
              rintro e w13 ⟨rfl, h⟩
              clear a0 a1 a2 b0 b1 b2 u0 u1 u2 m0 m1 m2 d0 d1 d2
              have Ha_13 := Lib.hid (Ha_12.out.call h)
              have Hb_13 := Lib.hid (Hb_12.out.call h)
              have Hu_13 := Lib.hid (Hu_12.out.call h)
              have Hm_13 := Lib.hid (Hm_12.out.call h)
              have Hd_13 := Lib.hid (Hd_12.out.call h)
              have HG_13 := Lib.hid (HG_12.out.here h)
              have HB_13 := Lib.hid (below_call HB_12.out h)
              obtain ⟨a0, a1, a2⟩ := Ha_13.out.e3
              obtain ⟨b0, b1, b2⟩ := Hb_13.out.e3
              obtain ⟨u0, u1, u2⟩ := Hu_13.out.e3
              obtain ⟨m0, m1, m2⟩ := Hm_13.out.e3
              obtain ⟨d0, d1, d2⟩ := Hd_13.out.e3
              go_wp2_with fail
              have HS6 := Lib.hid (r6_drew ⟨Below.refl w13.heap.size w13, a0, a1, a2, b0, b1, b2⟩)
              go_region_held3 (fun w' => Below w13.heap.size w13 w' ∧ w'.cell? ⟨w.heap.size, 0, none⟩ = some (.int .u64 ra) ∧ w'.cell? ⟨w.heap.size, 1, none⟩ = some (.int .u64 ma) ∧ w'.cell? ⟨w.heap.size, 2, none⟩ = some (.slice pa na ca) ∧ w'.cell? ⟨w1.heap.size, 0, none⟩ = some (.int .u64 ra) ∧ w'.cell? ⟨w1.heap.size, 1, none⟩ = some (.int .u64 mb) ∧ w'.cell? ⟨w1.heap.size, 2, none⟩ = some (.slice pb nb cb))
                (first
                  | exact r6_call (by assumption) (by assumption)
                  | exact HS6.out
                  | exact r6_drew (by assumption)
                  | assumption)
                (first
                  | (go_at_call 10; (with_reducible change Calls _ _ #[.agg #[.int .u64 ra, .int .u64 ma, .slice pa na ca], .int .u64 c] _ _); refine (HJa.out _ (Ha_13.out.ent.any.at'.call (r6_below (by assumption)))).mono ?_; rintro en wq ⟨rfl, h'⟩; have h' := Lib.hid h')
                  | (go_at_call 10; (with_reducible change Calls _ _ #[.agg #[.int .u64 ra, .int .u64 mb, .slice pb nb cb], .int .u64 c] _ _); refine (HJb.out _ (Hb_13.out.ent.any.at'.call (r6_below (by assumption)))).mono ?_; rintro en w14 ⟨rfl, h'⟩; have h' := Lib.hid h'; have hSw := r6_call (by assumption) h'))
              have h := hSw.1; clear hSw HS6
              clear a0 a1 a2 b0 b1 b2 u0 u1 u2 m0 m1 m2 d0 d1 d2
              have Ha_14 := Lib.hid (Ha_13.out.call h)
              have Hb_14 := Lib.hid (Hb_13.out.call h)
              have Hu_14 := Lib.hid (Hu_13.out.call h)
              have Hm_14 := Lib.hid (Hm_13.out.call h)
              have Hd_14 := Lib.hid (Hd_13.out.call h)
              have HG_14 := Lib.hid (HG_13.out.here h)
              have HB_14 := Lib.hid (below_call HB_13.out h)
              obtain ⟨a0, a1, a2⟩ := Ha_14.out.e3
              obtain ⟨b0, b1, b2⟩ := Hb_14.out.e3
              obtain ⟨u0, u1, u2⟩ := Hu_14.out.e3
              obtain ⟨m0, m1, m2⟩ := Hm_14.out.e3
              obtain ⟨d0, d1, d2⟩ := Hd_14.out.e3
              go_wp2_with fail
              refine (KL.out _).mono ?_
              rintro e w15 ⟨rfl, h⟩
              clear a0 a1 a2 b0 b1 b2 u0 u1 u2 m0 m1 m2 d0 d1 d2
              have Ha_15 := Lib.hid (Ha_14.out.call h)
              have Hb_15 := Lib.hid (Hb_14.out.call h)
              have Hu_15 := Lib.hid (Hu_14.out.call h)
              have Hm_15 := Lib.hid (Hm_14.out.call h)
              have Hd_15 := Lib.hid (Hd_14.out.call h)
              have HG_15 := Lib.hid (HG_14.out.here h)
              have HB_15 := Lib.hid (below_call HB_14.out h)
              obtain ⟨a0, a1, a2⟩ := Ha_15.out.e3
              obtain ⟨b0, b1, b2⟩ := Hb_15.out.e3
              obtain ⟨u0, u1, u2⟩ := Hu_15.out.e3
              obtain ⟨m0, m1, m2⟩ := Hm_15.out.e3
              obtain ⟨d0, d1, d2⟩ := Hd_15.out.e3
              go_wp2_with fail
              refine (HJu.out _ _ Hu_15.out.ent.any.at').mono ?_
              rintro e w16 ⟨rfl, h⟩
              clear a0 a1 a2 b0 b1 b2 u0 u1 u2 m0 m1 m2 d0 d1 d2
              have Ha_16 := Lib.hid (Ha_15.out.call h)
              have Hb_16 := Lib.hid (Hb_15.out.call h)
              have Hu_16 := Lib.hid (Hu_15.out.call h)
              have Hm_16 := Lib.hid (Hm_15.out.call h)
              have Hd_16 := Lib.hid (Hd_15.out.call h)
              have HG_16 := Lib.hid (HG_15.out.here h)
              have HB_16 := Lib.hid (below_call HB_15.out h)
              obtain ⟨a0, a1, a2⟩ := Ha_16.out.e3
              obtain ⟨b0, b1, b2⟩ := Hb_16.out.e3
              obtain ⟨u0, u1, u2⟩ := Hu_16.out.e3
              obtain ⟨m0, m1, m2⟩ := Hm_16.out.e3
              obtain ⟨d0, d1, d2⟩ := Hd_16.out.e3
              go_wp2_with fail
              refine (HJm.out _ _ Hm_16.out.ent.any.at').mono ?_
              rintro e w17 ⟨rfl, h⟩
              clear a0 a1 a2 b0 b1 b2 u0 u1 u2 m0 m1 m2 d0 d1 d2
              have Ha_17 := Lib.hid (Ha_16.out.call h)
              have Hb_17 := Lib.hid (Hb_16.out.call h)
              have Hu_17 := Lib.hid (Hu_16.out.call h)
              have Hm_17 := Lib.hid (Hm_16.out.call h)
              have Hd_17 := Lib.hid (Hd_16.out.call h)
              have HG_17 := Lib.hid (HG_16.out.here h)
              have HB_17 := Lib.hid (below_call HB_16.out h)
              obtain ⟨a0, a1, a2⟩ := Ha_17.out.e3
              obtain ⟨b0, b1, b2⟩ := Hb_17.out.e3
              obtain ⟨u0, u1, u2⟩ := Hu_17.out.e3
              obtain ⟨m0, m1, m2⟩ := Hm_17.out.e3
              obtain ⟨d0, d1, d2⟩ := Hd_17.out.e3
              go_wp2_with fail
              refine (HJd.out _ _ Hd_17.out.ent.any.at').mono ?_
              rintro e w18 ⟨rfl, h⟩
              clear a0 a1 a2 b0 b1 b2 u0 u1 u2 m0 m1 m2 d0 d1 d2
              have Ha_18 := Lib.hid (Ha_17.out.call h)
              have Hb_18 := Lib.hid (Hb_17.out.call h)
              have Hu_18 := Lib.hid (Hu_17.out.call h)
              have Hm_18 := Lib.hid (Hm_17.out.call h)
              have Hd_18 := Lib.hid (Hd_17.out.call h)
              have HG_18 := Lib.hid (HG_17.out.here h)
              have HB_18 := Lib.hid (below_call HB_17.out h)
              obtain ⟨a0, a1, a2⟩ := Ha_18.out.e3
              obtain ⟨b0, b1, b2⟩ := Hb_18.out.e3
              obtain ⟨u0, u1, u2⟩ := Hu_18.out.e3
              obtain ⟨m0, m1, m2⟩ := Hm_18.out.e3
              obtain ⟨d0, d1, d2⟩ := Hd_18.out.e3
              go_wp2_with fail
              go_ret
              exact ⟨rfl, HB_18.out⟩
            · have hz := KL; clear hz
              have heu : eu = true := by have h := Zhu.out; simpa using h
              have hku : ku = true := Zcu.out rfl
              subst heu hku
              have hem : em = false := by have h := Zhm.out; simpa using h
              have hkm : km = true := Zcm.out rfl
              subst hem hkm
              have hed : ed = false := by have h := Zhd.out; simpa using h
              have hkd : kd = true := Zcd.out rfl
              subst hed hkd
              clear Zhu Zcu Zhm Zcm Zhd Zcd
              go_wp2_with fail
              clear hw10
              refine (HCu.out _ _ HG_10.out Hu_10.out.ent).mono ?_
              rintro e w11 ⟨rfl, h⟩
              clear a0 a1 a2 b0 b1 b2 u0 u1 u2 m0 m1 m2 d0 d1 d2
              have Ha_11 := Lib.hid (Ha_10.out.call h)
              have Hb_11 := Lib.hid (Hb_10.out.call h)
              have Hu_11 := Lib.hid (Hu_10.out.call h)
              have Hm_11 := Lib.hid (Hm_10.out.call h)
              have Hd_11 := Lib.hid (Hd_10.out.call h)
              have HG_11 := Lib.hid (HG_10.out.here h)
              have HB_11 := Lib.hid (below_call HB_10.out h)
              obtain ⟨a0, a1, a2⟩ := Ha_11.out.e3
              obtain ⟨b0, b1, b2⟩ := Hb_11.out.e3
              obtain ⟨u0, u1, u2⟩ := Hu_11.out.e3
              obtain ⟨m0, m1, m2⟩ := Hm_11.out.e3
              obtain ⟨d0, d1, d2⟩ := Hd_11.out.e3
              go_wp2_with fail
              refine (HCm.out _ _ HG_11.out Hm_11.out.ent).mono ?_
              rintro e w12 ⟨rfl, h⟩
              clear a0 a1 a2 b0 b1 b2 u0 u1 u2 m0 m1 m2 d0 d1 d2
              have Ha_12 := Lib.hid (Ha_11.out.call h)
              have Hb_12 := Lib.hid (Hb_11.out.call h)
              have Hu_12 := Lib.hid (Hu_11.out.call h)
              have Hm_12 := Lib.hid (Hm_11.out.call h)
              have Hd_12 := Lib.hid (Hd_11.out.call h)
              have HG_12 := Lib.hid (HG_11.out.here h)
              have HB_12 := Lib.hid (below_call HB_11.out h)
              obtain ⟨a0, a1, a2⟩ := Ha_12.out.e3
              obtain ⟨b0, b1, b2⟩ := Hb_12.out.e3
              obtain ⟨u0, u1, u2⟩ := Hu_12.out.e3
              obtain ⟨m0, m1, m2⟩ := Hm_12.out.e3
              obtain ⟨d0, d1, d2⟩ := Hd_12.out.e3
              go_wp2_with fail
              refine (HCd.out _ _ HG_12.out Hd_12.out.ent).mono ?_
              rintro e w13 ⟨rfl, h⟩
              clear a0 a1 a2 b0 b1 b2 u0 u1 u2 m0 m1 m2 d0 d1 d2
              have Ha_13 := Lib.hid (Ha_12.out.call h)
              have Hb_13 := Lib.hid (Hb_12.out.call h)
              have Hu_13 := Lib.hid (Hu_12.out.call h)
              have Hm_13 := Lib.hid (Hm_12.out.call h)
              have Hd_13 := Lib.hid (Hd_12.out.call h)
              have HG_13 := Lib.hid (HG_12.out.here h)
              have HB_13 := Lib.hid (below_call HB_12.out h)
              obtain ⟨a0, a1, a2⟩ := Ha_13.out.e3
              obtain ⟨b0, b1, b2⟩ := Hb_13.out.e3
              obtain ⟨u0, u1, u2⟩ := Hu_13.out.e3
              obtain ⟨m0, m1, m2⟩ := Hm_13.out.e3
              obtain ⟨d0, d1, d2⟩ := Hd_13.out.e3
              go_wp2_with fail
              have HS6 := Lib.hid (r6_drew ⟨Below.refl w13.heap.size w13, a0, a1, a2, b0, b1, b2⟩)
              go_region_held3 (fun w' => Below w13.heap.size w13 w' ∧ w'.cell? ⟨w.heap.size, 0, none⟩ = some (.int .u64 ra) ∧ w'.cell? ⟨w.heap.size, 1, none⟩ = some (.int .u64 ma) ∧ w'.cell? ⟨w.heap.size, 2, none⟩ = some (.slice pa na ca) ∧ w'.cell? ⟨w1.heap.size, 0, none⟩ = some (.int .u64 ra) ∧ w'.cell? ⟨w1.heap.size, 1, none⟩ = some (.int .u64 mb) ∧ w'.cell? ⟨w1.heap.size, 2, none⟩ = some (.slice pb nb cb))
                (first
                  | exact r6_call (by assumption) (by assumption)
                  | exact HS6.out
                  | exact r6_drew (by assumption)
                  | assumption)
                (first
                  | (go_at_call 10; (with_reducible change Calls _ _ #[.agg #[.int .u64 ra, .int .u64 ma, .slice pa na ca], .int .u64 c] _ _); refine (HJa.out _ (Ha_13.out.ent.any.at'.call (r6_below (by assumption)))).mono ?_; rintro en wq ⟨rfl, h'⟩; have h' := Lib.hid h')
                  | (go_at_call 10; (with_reducible change Calls _ _ #[.agg #[.int .u64 ra, .int .u64 mb, .slice pb nb cb], .int .u64 c] _ _); refine (HJb.out _ (Hb_13.out.ent.any.at'.call (r6_below (by assumption)))).mono ?_; rintro en w14 ⟨rfl, h'⟩; have h' := Lib.hid h'; have hSw := r6_call (by assumption) h'))
              have h := hSw.1; clear hSw HS6
              clear a0 a1 a2 b0 b1 b2 u0 u1 u2 m0 m1 m2 d0 d1 d2
              have Ha_14 := Lib.hid (Ha_13.out.call h)
              have Hb_14 := Lib.hid (Hb_13.out.call h)
              have Hu_14 := Lib.hid (Hu_13.out.call h)
              have Hm_14 := Lib.hid (Hm_13.out.call h)
              have Hd_14 := Lib.hid (Hd_13.out.call h)
              have HG_14 := Lib.hid (HG_13.out.here h)
              have HB_14 := Lib.hid (below_call HB_13.out h)
              obtain ⟨a0, a1, a2⟩ := Ha_14.out.e3
              obtain ⟨b0, b1, b2⟩ := Hb_14.out.e3
              obtain ⟨u0, u1, u2⟩ := Hu_14.out.e3
              obtain ⟨m0, m1, m2⟩ := Hm_14.out.e3
              obtain ⟨d0, d1, d2⟩ := Hd_14.out.e3
              go_wp2_with fail
              refine (KL.out _).mono ?_
              rintro e w15 ⟨rfl, h⟩
              clear a0 a1 a2 b0 b1 b2 u0 u1 u2 m0 m1 m2 d0 d1 d2
              have Ha_15 := Lib.hid (Ha_14.out.call h)
              have Hb_15 := Lib.hid (Hb_14.out.call h)
              have Hu_15 := Lib.hid (Hu_14.out.call h)
              have Hm_15 := Lib.hid (Hm_14.out.call h)
              have Hd_15 := Lib.hid (Hd_14.out.call h)
              have HG_15 := Lib.hid (HG_14.out.here h)
              have HB_15 := Lib.hid (below_call HB_14.out h)
              obtain ⟨a0, a1, a2⟩ := Ha_15.out.e3
              obtain ⟨b0, b1, b2⟩ := Hb_15.out.e3
              obtain ⟨u0, u1, u2⟩ := Hu_15.out.e3
              obtain ⟨m0, m1, m2⟩ := Hm_15.out.e3
              obtain ⟨d0, d1, d2⟩ := Hd_15.out.e3
              go_wp2_with fail
              refine (HJu.out _ _ Hu_15.out.ent.any.at').mono ?_
              rintro e w16 ⟨rfl, h⟩
              clear a0 a1 a2 b0 b1 b2 u0 u1 u2 m0 m1 m2 d0 d1 d2
              have Ha_16 := Lib.hid (Ha_15.out.call h)
              have Hb_16 := Lib.hid (Hb_15.out.call h)
              have Hu_16 := Lib.hid (Hu_15.out.call h)
              have Hm_16 := Lib.hid (Hm_15.out.call h)
              have Hd_16 := Lib.hid (Hd_15.out.call h)
              have HG_16 := Lib.hid (HG_15.out.here h)
              have HB_16 := Lib.hid (below_call HB_15.out h)
              obtain ⟨a0, a1, a2⟩ := Ha_16.out.e3
              obtain ⟨b0, b1, b2⟩ := Hb_16.out.e3
              obtain ⟨u0, u1, u2⟩ := Hu_16.out.e3
              obtain ⟨m0, m1, m2⟩ := Hm_16.out.e3
              obtain ⟨d0, d1, d2⟩ := Hd_16.out.e3
              go_wp2_with fail
              refine (HJm.out _ _ Hm_16.out.ent.any.at').mono ?_
              rintro e w17 ⟨rfl, h⟩
              clear a0 a1 a2 b0 b1 b2 u0 u1 u2 m0 m1 m2 d0 d1 d2
              have Ha_17 := Lib.hid (Ha_16.out.call h)
              have Hb_17 := Lib.hid (Hb_16.out.call h)
              have Hu_17 := Lib.hid (Hu_16.out.call h)
              have Hm_17 := Lib.hid (Hm_16.out.call h)
              have Hd_17 := Lib.hid (Hd_16.out.call h)
              have HG_17 := Lib.hid (HG_16.out.here h)
              have HB_17 := Lib.hid (below_call HB_16.out h)
              obtain ⟨a0, a1, a2⟩ := Ha_17.out.e3
              obtain ⟨b0, b1, b2⟩ := Hb_17.out.e3
              obtain ⟨u0, u1, u2⟩ := Hu_17.out.e3
              obtain ⟨m0, m1, m2⟩ := Hm_17.out.e3
              obtain ⟨d0, d1, d2⟩ := Hd_17.out.e3
              go_wp2_with fail
              refine (HJd.out _ _ Hd_17.out.ent.any.at').mono ?_
              rintro e w18 ⟨rfl, h⟩
              clear a0 a1 a2 b0 b1 b2 u0 u1 u2 m0 m1 m2 d0 d1 d2
              have Ha_18 := Lib.hid (Ha_17.out.call h)
              have Hb_18 := Lib.hid (Hb_17.out.call h)
              have Hu_18 := Lib.hid (Hu_17.out.call h)
              have Hm_18 := Lib.hid (Hm_17.out.call h)
              have Hd_18 := Lib.hid (Hd_17.out.call h)
              have HG_18 := Lib.hid (HG_17.out.here h)
              have HB_18 := Lib.hid (below_call HB_17.out h)
              obtain ⟨a0, a1, a2⟩ := Ha_18.out.e3
              obtain ⟨b0, b1, b2⟩ := Hb_18.out.e3
              obtain ⟨u0, u1, u2⟩ := Hu_18.out.e3
              obtain ⟨m0, m1, m2⟩ := Hm_18.out.e3
              obtain ⟨d0, d1, d2⟩ := Hd_18.out.e3
              go_wp2_with fail
              go_ret
              exact ⟨rfl, HB_18.out⟩
          · have hz := KL; clear hz
            cases Y
            · have hz := KL; clear hz
              have heu : eu = true := by have h := Zhu.out; simpa using h
              have hku : ku = true := Zcu.out rfl
              subst heu hku
              have hem : em = false := by have h := Zhm.out; simpa using h
              have hkm : km = true := Zcm.out rfl
              subst hem hkm
              have hed : ed = true := by have h := Zhd.out; simpa using h
              have hkd : kd = true := Zcd.out rfl
              subst hed hkd
              clear Zhu Zcu Zhm Zcm Zhd Zcd
              go_wp2_with fail
              clear hw10
              refine (HCu.out _ _ HG_10.out Hu_10.out.ent).mono ?_
              rintro e w11 ⟨rfl, h⟩
              clear a0 a1 a2 b0 b1 b2 u0 u1 u2 m0 m1 m2 d0 d1 d2
              have Ha_11 := Lib.hid (Ha_10.out.call h)
              have Hb_11 := Lib.hid (Hb_10.out.call h)
              have Hu_11 := Lib.hid (Hu_10.out.call h)
              have Hm_11 := Lib.hid (Hm_10.out.call h)
              have Hd_11 := Lib.hid (Hd_10.out.call h)
              have HG_11 := Lib.hid (HG_10.out.here h)
              have HB_11 := Lib.hid (below_call HB_10.out h)
              obtain ⟨a0, a1, a2⟩ := Ha_11.out.e3
              obtain ⟨b0, b1, b2⟩ := Hb_11.out.e3
              obtain ⟨u0, u1, u2⟩ := Hu_11.out.e3
              obtain ⟨m0, m1, m2⟩ := Hm_11.out.e3
              obtain ⟨d0, d1, d2⟩ := Hd_11.out.e3
              go_wp2_with fail
              refine (HCm.out _ _ HG_11.out Hm_11.out.ent).mono ?_
              rintro e w12 ⟨rfl, h⟩
              clear a0 a1 a2 b0 b1 b2 u0 u1 u2 m0 m1 m2 d0 d1 d2
              have Ha_12 := Lib.hid (Ha_11.out.call h)
              have Hb_12 := Lib.hid (Hb_11.out.call h)
              have Hu_12 := Lib.hid (Hu_11.out.call h)
              have Hm_12 := Lib.hid (Hm_11.out.call h)
              have Hd_12 := Lib.hid (Hd_11.out.call h)
              have HG_12 := Lib.hid (HG_11.out.here h)
              have HB_12 := Lib.hid (below_call HB_11.out h)
              obtain ⟨a0, a1, a2⟩ := Ha_12.out.e3
              obtain ⟨b0, b1, b2⟩ := Hb_12.out.e3
              obtain ⟨u0, u1, u2⟩ := Hu_12.out.e3
              obtain ⟨m0, m1, m2⟩ := Hm_12.out.e3
              obtain ⟨d0, d1, d2⟩ := Hd_12.out.e3
              go_wp2_with fail
              refine (HCd.out _ _ HG_12.out Hd_12.out.ent).mono ?_
              rintro e w13 ⟨rfl, h⟩
              clear a0 a1 a2 b0 b1 b2 u0 u1 u2 m0 m1 m2 d0 d1 d2
              have Ha_13 := Lib.hid (Ha_12.out.call h)
              have Hb_13 := Lib.hid (Hb_12.out.call h)
              have Hu_13 := Lib.hid (Hu_12.out.call h)
              have Hm_13 := Lib.hid (Hm_12.out.call h)
              have Hd_13 := Lib.hid (Hd_12.out.call h)
              have HG_13 := Lib.hid (HG_12.out.here h)
              have HB_13 := Lib.hid (below_call HB_12.out h)
              obtain ⟨a0, a1, a2⟩ := Ha_13.out.e3
              obtain ⟨b0, b1, b2⟩ := Hb_13.out.e3
              obtain ⟨u0, u1, u2⟩ := Hu_13.out.e3
              obtain ⟨m0, m1, m2⟩ := Hm_13.out.e3
              obtain ⟨d0, d1, d2⟩ := Hd_13.out.e3
              go_wp2_with fail
              have HS6 := Lib.hid (r6_drew ⟨Below.refl w13.heap.size w13, a0, a1, a2, b0, b1, b2⟩)
              go_region_held3 (fun w' => Below w13.heap.size w13 w' ∧ w'.cell? ⟨w.heap.size, 0, none⟩ = some (.int .u64 ra) ∧ w'.cell? ⟨w.heap.size, 1, none⟩ = some (.int .u64 ma) ∧ w'.cell? ⟨w.heap.size, 2, none⟩ = some (.slice pa na ca) ∧ w'.cell? ⟨w1.heap.size, 0, none⟩ = some (.int .u64 ra) ∧ w'.cell? ⟨w1.heap.size, 1, none⟩ = some (.int .u64 mb) ∧ w'.cell? ⟨w1.heap.size, 2, none⟩ = some (.slice pb nb cb))
                (first
                  | exact r6_call (by assumption) (by assumption)
                  | exact HS6.out
                  | exact r6_drew (by assumption)
                  | assumption)
                (first
                  | (go_at_call 10; (with_reducible change Calls _ _ #[.agg #[.int .u64 ra, .int .u64 ma, .slice pa na ca], .int .u64 c] _ _); refine (HJa.out _ (Ha_13.out.ent.any.at'.call (r6_below (by assumption)))).mono ?_; rintro en wq ⟨rfl, h'⟩; have h' := Lib.hid h')
                  | (go_at_call 10; (with_reducible change Calls _ _ #[.agg #[.int .u64 ra, .int .u64 mb, .slice pb nb cb], .int .u64 c] _ _); refine (HJb.out _ (Hb_13.out.ent.any.at'.call (r6_below (by assumption)))).mono ?_; rintro en w14 ⟨rfl, h'⟩; have h' := Lib.hid h'; have hSw := r6_call (by assumption) h'))
              have h := hSw.1; clear hSw HS6
              clear a0 a1 a2 b0 b1 b2 u0 u1 u2 m0 m1 m2 d0 d1 d2
              have Ha_14 := Lib.hid (Ha_13.out.call h)
              have Hb_14 := Lib.hid (Hb_13.out.call h)
              have Hu_14 := Lib.hid (Hu_13.out.call h)
              have Hm_14 := Lib.hid (Hm_13.out.call h)
              have Hd_14 := Lib.hid (Hd_13.out.call h)
              have HG_14 := Lib.hid (HG_13.out.here h)
              have HB_14 := Lib.hid (below_call HB_13.out h)
              obtain ⟨a0, a1, a2⟩ := Ha_14.out.e3
              obtain ⟨b0, b1, b2⟩ := Hb_14.out.e3
              obtain ⟨u0, u1, u2⟩ := Hu_14.out.e3
              obtain ⟨m0, m1, m2⟩ := Hm_14.out.e3
              obtain ⟨d0, d1, d2⟩ := Hd_14.out.e3
              go_wp2_with fail
              refine (KL.out _).mono ?_
              rintro e w15 ⟨rfl, h⟩
              clear a0 a1 a2 b0 b1 b2 u0 u1 u2 m0 m1 m2 d0 d1 d2
              have Ha_15 := Lib.hid (Ha_14.out.call h)
              have Hb_15 := Lib.hid (Hb_14.out.call h)
              have Hu_15 := Lib.hid (Hu_14.out.call h)
              have Hm_15 := Lib.hid (Hm_14.out.call h)
              have Hd_15 := Lib.hid (Hd_14.out.call h)
              have HG_15 := Lib.hid (HG_14.out.here h)
              have HB_15 := Lib.hid (below_call HB_14.out h)
              obtain ⟨a0, a1, a2⟩ := Ha_15.out.e3
              obtain ⟨b0, b1, b2⟩ := Hb_15.out.e3
              obtain ⟨u0, u1, u2⟩ := Hu_15.out.e3
              obtain ⟨m0, m1, m2⟩ := Hm_15.out.e3
              obtain ⟨d0, d1, d2⟩ := Hd_15.out.e3
              go_wp2_with fail
              refine (HJu.out _ _ Hu_15.out.ent.any.at').mono ?_
              rintro e w16 ⟨rfl, h⟩
              clear a0 a1 a2 b0 b1 b2 u0 u1 u2 m0 m1 m2 d0 d1 d2
              have Ha_16 := Lib.hid (Ha_15.out.call h)
              have Hb_16 := Lib.hid (Hb_15.out.call h)
              have Hu_16 := Lib.hid (Hu_15.out.call h)
              have Hm_16 := Lib.hid (Hm_15.out.call h)
              have Hd_16 := Lib.hid (Hd_15.out.call h)
              have HG_16 := Lib.hid (HG_15.out.here h)
              have HB_16 := Lib.hid (below_call HB_15.out h)
              obtain ⟨a0, a1, a2⟩ := Ha_16.out.e3
              obtain ⟨b0, b1, b2⟩ := Hb_16.out.e3
              obtain ⟨u0, u1, u2⟩ := Hu_16.out.e3
              obtain ⟨m0, m1, m2⟩ := Hm_16.out.e3
              obtain ⟨d0, d1, d2⟩ := Hd_16.out.e3
              go_wp2_with fail
              refine (HJm.out _ _ Hm_16.out.ent.any.at').mono ?_
              rintro e w17 ⟨rfl, h⟩
              clear a0 a1 a2 b0 b1 b2 u0 u1 u2 m0 m1 m2 d0 d1 d2
              have Ha_17 := Lib.hid (Ha_16.out.call h)
              have Hb_17 := Lib.hid (Hb_16.out.call h)
              have Hu_17 := Lib.hid (Hu_16.out.call h)
              have Hm_17 := Lib.hid (Hm_16.out.call h)
              have Hd_17 := Lib.hid (Hd_16.out.call h)
              have HG_17 := Lib.hid (HG_16.out.here h)
              have HB_17 := Lib.hid (below_call HB_16.out h)
              obtain ⟨a0, a1, a2⟩ := Ha_17.out.e3
              obtain ⟨b0, b1, b2⟩ := Hb_17.out.e3
              obtain ⟨u0, u1, u2⟩ := Hu_17.out.e3
              obtain ⟨m0, m1, m2⟩ := Hm_17.out.e3
              obtain ⟨d0, d1, d2⟩ := Hd_17.out.e3
              go_wp2_with fail
              refine (HJd.out _ _ Hd_17.out.ent.any.at').mono ?_
              rintro e w18 ⟨rfl, h⟩
              clear a0 a1 a2 b0 b1 b2 u0 u1 u2 m0 m1 m2 d0 d1 d2
              have Ha_18 := Lib.hid (Ha_17.out.call h)
              have Hb_18 := Lib.hid (Hb_17.out.call h)
              have Hu_18 := Lib.hid (Hu_17.out.call h)
              have Hm_18 := Lib.hid (Hm_17.out.call h)
              have Hd_18 := Lib.hid (Hd_17.out.call h)
              have HG_18 := Lib.hid (HG_17.out.here h)
              have HB_18 := Lib.hid (below_call HB_17.out h)
              obtain ⟨a0, a1, a2⟩ := Ha_18.out.e3
              obtain ⟨b0, b1, b2⟩ := Hb_18.out.e3
              obtain ⟨u0, u1, u2⟩ := Hu_18.out.e3
              obtain ⟨m0, m1, m2⟩ := Hm_18.out.e3
              obtain ⟨d0, d1, d2⟩ := Hd_18.out.e3
              go_wp2_with fail
              go_ret
              exact ⟨rfl, HB_18.out⟩
            · have hz := KL; clear hz
              have heu : eu = true := by have h := Zhu.out; simpa using h
              have hku : ku = true := Zcu.out rfl
              subst heu hku
              have hem : em = true := by have h := Zhm.out; simpa using h
              have hkm : km = true := Zcm.out rfl
              subst hem hkm
              have hed : ed = false := by have h := Zhd.out; simpa using h
              have hkd : kd = true := Zcd.out rfl
              subst hed hkd
              clear Zhu Zcu Zhm Zcm Zhd Zcd
              go_wp2_with fail
              clear hw10
              refine (HCu.out _ _ HG_10.out Hu_10.out.ent).mono ?_
              rintro e w11 ⟨rfl, h⟩
              clear a0 a1 a2 b0 b1 b2 u0 u1 u2 m0 m1 m2 d0 d1 d2
              have Ha_11 := Lib.hid (Ha_10.out.call h)
              have Hb_11 := Lib.hid (Hb_10.out.call h)
              have Hu_11 := Lib.hid (Hu_10.out.call h)
              have Hm_11 := Lib.hid (Hm_10.out.call h)
              have Hd_11 := Lib.hid (Hd_10.out.call h)
              have HG_11 := Lib.hid (HG_10.out.here h)
              have HB_11 := Lib.hid (below_call HB_10.out h)
              obtain ⟨a0, a1, a2⟩ := Ha_11.out.e3
              obtain ⟨b0, b1, b2⟩ := Hb_11.out.e3
              obtain ⟨u0, u1, u2⟩ := Hu_11.out.e3
              obtain ⟨m0, m1, m2⟩ := Hm_11.out.e3
              obtain ⟨d0, d1, d2⟩ := Hd_11.out.e3
              go_wp2_with fail
              refine (HCm.out _ _ HG_11.out Hm_11.out.ent).mono ?_
              rintro e w12 ⟨rfl, h⟩
              clear a0 a1 a2 b0 b1 b2 u0 u1 u2 m0 m1 m2 d0 d1 d2
              have Ha_12 := Lib.hid (Ha_11.out.call h)
              have Hb_12 := Lib.hid (Hb_11.out.call h)
              have Hu_12 := Lib.hid (Hu_11.out.call h)
              have Hm_12 := Lib.hid (Hm_11.out.call h)
              have Hd_12 := Lib.hid (Hd_11.out.call h)
              have HG_12 := Lib.hid (HG_11.out.here h)
              have HB_12 := Lib.hid (below_call HB_11.out h)
              obtain ⟨a0, a1, a2⟩ := Ha_12.out.e3
              obtain ⟨b0, b1, b2⟩ := Hb_12.out.e3
              obtain ⟨u0, u1, u2⟩ := Hu_12.out.e3
              obtain ⟨m0, m1, m2⟩ := Hm_12.out.e3
              obtain ⟨d0, d1, d2⟩ := Hd_12.out.e3
              go_wp2_with fail
              refine (HCd.out _ _ HG_12.out Hd_12.out.ent).mono ?_
              rintro e w13 ⟨rfl, h⟩
              clear a0 a1 a2 b0 b1 b2 u0 u1 u2 m0 m1 m2 d0 d1 d2
              have Ha_13 := Lib.hid (Ha_12.out.call h)
              have Hb_13 := Lib.hid (Hb_12.out.call h)
              have Hu_13 := Lib.hid (Hu_12.out.call h)
              have Hm_13 := Lib.hid (Hm_12.out.call h)
              have Hd_13 := Lib.hid (Hd_12.out.call h)
              have HG_13 := Lib.hid (HG_12.out.here h)
              have HB_13 := Lib.hid (below_call HB_12.out h)
              obtain ⟨a0, a1, a2⟩ := Ha_13.out.e3
              obtain ⟨b0, b1, b2⟩ := Hb_13.out.e3
              obtain ⟨u0, u1, u2⟩ := Hu_13.out.e3
              obtain ⟨m0, m1, m2⟩ := Hm_13.out.e3
              obtain ⟨d0, d1, d2⟩ := Hd_13.out.e3
              go_wp2_with fail
              have HS6 := Lib.hid (r6_drew ⟨Below.refl w13.heap.size w13, a0, a1, a2, b0, b1, b2⟩)
              go_region_held3 (fun w' => Below w13.heap.size w13 w' ∧ w'.cell? ⟨w.heap.size, 0, none⟩ = some (.int .u64 ra) ∧ w'.cell? ⟨w.heap.size, 1, none⟩ = some (.int .u64 ma) ∧ w'.cell? ⟨w.heap.size, 2, none⟩ = some (.slice pa na ca) ∧ w'.cell? ⟨w1.heap.size, 0, none⟩ = some (.int .u64 ra) ∧ w'.cell? ⟨w1.heap.size, 1, none⟩ = some (.int .u64 mb) ∧ w'.cell? ⟨w1.heap.size, 2, none⟩ = some (.slice pb nb cb))
                (first
                  | exact r6_call (by assumption) (by assumption)
                  | exact HS6.out
                  | exact r6_drew (by assumption)
                  | assumption)
                (first
                  | (go_at_call 10; (with_reducible change Calls _ _ #[.agg #[.int .u64 ra, .int .u64 ma, .slice pa na ca], .int .u64 c] _ _); refine (HJa.out _ (Ha_13.out.ent.any.at'.call (r6_below (by assumption)))).mono ?_; rintro en wq ⟨rfl, h'⟩; have h' := Lib.hid h')
                  | (go_at_call 10; (with_reducible change Calls _ _ #[.agg #[.int .u64 ra, .int .u64 mb, .slice pb nb cb], .int .u64 c] _ _); refine (HJb.out _ (Hb_13.out.ent.any.at'.call (r6_below (by assumption)))).mono ?_; rintro en w14 ⟨rfl, h'⟩; have h' := Lib.hid h'; have hSw := r6_call (by assumption) h'))
              have h := hSw.1; clear hSw HS6
              clear a0 a1 a2 b0 b1 b2 u0 u1 u2 m0 m1 m2 d0 d1 d2
              have Ha_14 := Lib.hid (Ha_13.out.call h)
              have Hb_14 := Lib.hid (Hb_13.out.call h)
              have Hu_14 := Lib.hid (Hu_13.out.call h)
              have Hm_14 := Lib.hid (Hm_13.out.call h)
              have Hd_14 := Lib.hid (Hd_13.out.call h)
              have HG_14 := Lib.hid (HG_13.out.here h)
              have HB_14 := Lib.hid (below_call HB_13.out h)
              obtain ⟨a0, a1, a2⟩ := Ha_14.out.e3
              obtain ⟨b0, b1, b2⟩ := Hb_14.out.e3
              obtain ⟨u0, u1, u2⟩ := Hu_14.out.e3
              obtain ⟨m0, m1, m2⟩ := Hm_14.out.e3
              obtain ⟨d0, d1, d2⟩ := Hd_14.out.e3
              go_wp2_with fail
              refine (KL.out _).mono ?_
              rintro e w15 ⟨rfl, h⟩
              clear a0 a1 a2 b0 b1 b2 u0 u1 u2 m0 m1 m2 d0 d1 d2
              have Ha_15 := Lib.hid (Ha_14.out.call h)
              have Hb_15 := Lib.hid (Hb_14.out.call h)
              have Hu_15 := Lib.hid (Hu_14.out.call h)
              have Hm_15 := Lib.hid (Hm_14.out.call h)
              have Hd_15 := Lib.hid (Hd_14.out.call h)
              have HG_15 := Lib.hid (HG_14.out.here h)
              have HB_15 := Lib.hid (below_call HB_14.out h)
              obtain ⟨a0, a1, a2⟩ := Ha_15.out.e3
              obtain ⟨b0, b1, b2⟩ := Hb_15.out.e3
              obtain ⟨u0, u1, u2⟩ := Hu_15.out.e3
              obtain ⟨m0, m1, m2⟩ := Hm_15.out.e3
              obtain ⟨d0, d1, d2⟩ := Hd_15.out.e3
              go_wp2_with fail
              refine (HJu.out _ _ Hu_15.out.ent.any.at').mono ?_
              rintro e w16 ⟨rfl, h⟩
              clear a0 a1 a2 b0 b1 b2 u0 u1 u2 m0 m1 m2 d0 d1 d2
              have Ha_16 := Lib.hid (Ha_15.out.call h)
              have Hb_16 := Lib.hid (Hb_15.out.call h)
              have Hu_16 := Lib.hid (Hu_15.out.call h)
              have Hm_16 := Lib.hid (Hm_15.out.call h)
              have Hd_16 := Lib.hid (Hd_15.out.call h)
              have HG_16 := Lib.hid (HG_15.out.here h)
              have HB_16 := Lib.hid (below_call HB_15.out h)
              obtain ⟨a0, a1, a2⟩ := Ha_16.out.e3
              obtain ⟨b0, b1, b2⟩ := Hb_16.out.e3
              obtain ⟨u0, u1, u2⟩ := Hu_16.out.e3
              obtain ⟨m0, m1, m2⟩ := Hm_16.out.e3
              obtain ⟨d0, d1, d2⟩ := Hd_16.out.e3
              go_wp2_with fail
              refine (HJm.out _ _ Hm_16.out.ent.any.at').mono ?_
              rintro e w17 ⟨rfl, h⟩
              clear a0 a1 a2 b0 b1 b2 u0 u1 u2 m0 m1 m2 d0 d1 d2
              have Ha_17 := Lib.hid (Ha_16.out.call h)
              have Hb_17 := Lib.hid (Hb_16.out.call h)
              have Hu_17 := Lib.hid (Hu_16.out.call h)
              have Hm_17 := Lib.hid (Hm_16.out.call h)
              have Hd_17 := Lib.hid (Hd_16.out.call h)
              have HG_17 := Lib.hid (HG_16.out.here h)
              have HB_17 := Lib.hid (below_call HB_16.out h)
              obtain ⟨a0, a1, a2⟩ := Ha_17.out.e3
              obtain ⟨b0, b1, b2⟩ := Hb_17.out.e3
              obtain ⟨u0, u1, u2⟩ := Hu_17.out.e3
              obtain ⟨m0, m1, m2⟩ := Hm_17.out.e3
              obtain ⟨d0, d1, d2⟩ := Hd_17.out.e3
              go_wp2_with fail
              refine (HJd.out _ _ Hd_17.out.ent.any.at').mono ?_
              rintro e w18 ⟨rfl, h⟩
              clear a0 a1 a2 b0 b1 b2 u0 u1 u2 m0 m1 m2 d0 d1 d2
              have Ha_18 := Lib.hid (Ha_17.out.call h)
              have Hb_18 := Lib.hid (Hb_17.out.call h)
              have Hu_18 := Lib.hid (Hu_17.out.call h)
              have Hm_18 := Lib.hid (Hm_17.out.call h)
              have Hd_18 := Lib.hid (Hd_17.out.call h)
              have HG_18 := Lib.hid (HG_17.out.here h)
              have HB_18 := Lib.hid (below_call HB_17.out h)
              obtain ⟨a0, a1, a2⟩ := Ha_18.out.e3
              obtain ⟨b0, b1, b2⟩ := Hb_18.out.e3
              obtain ⟨u0, u1, u2⟩ := Hu_18.out.e3
              obtain ⟨m0, m1, m2⟩ := Hm_18.out.e3
              obtain ⟨d0, d1, d2⟩ := Hd_18.out.e3
              go_wp2_with fail
              go_ret
              exact ⟨rfl, HB_18.out⟩
end Go.Proofs.YtnlbohaealkelaaDoor
