/- The laws of layer 8 in every state, out of what package join says. Conditions: the contracts of package join. -/
import Derived.Test.YtnlbohaealkelaaJAlive
import Derived.Test.YtnlbohaealkelaaNSetC
import Derived.Deep.RegionHeld3
namespace Go.Proofs.Ytnlbohaealkelaa
open Go.RowKit
set_option maxRecDepth 100000 in
set_option maxHeartbeats 4000000 in
theorem lawMatches8_any (C : JoinC) (ra ma rb mb : Int) (sa sb : Value) (w : World) (ha : entArg8 w ma sa) (hb : entArg8 w mb sb) :
    Calls Try.prog 3 #[.agg #[.int .u64 ra, .int .u64 ma, sa], .agg #[.int .u64 rb, .int .u64 mb, sb]] w (IsEnd true w) := by
  have KL := Lib.hid (alive8_any C)
  obtain ⟨pa, na, ca, rfl⟩ := ha.shape
  obtain ⟨pb, nb, cb, rfl⟩ := hb.shape
  obtain ⟨w1, hw1⟩ : ∃ w', w.alloc (.cells #[.int .u64 ra, .int .u64 ma, .slice pa na ca] 26) = w' := ⟨_, rfl⟩
  have h : Below w.heap.size w w1 := hw1 ▸ below_new w _
  have Ea_1 : E3 w1 w.heap.size ra ma (.slice pa na ca) := hw1 ▸ E3.new w _ _ _ _ _ rfl
  have B_1 := h
  clear h
  obtain ⟨w2, hw2⟩ : ∃ w', w1.alloc (.cells #[.int .u64 rb, .int .u64 mb, .slice pb nb cb] 26) = w' := ⟨_, rfl⟩
  have h : Below w1.heap.size w1 w2 := hw2 ▸ below_new w1 _
  have Ea_2 := Ea_1.call h
  have Eb_2 : E3 w2 w1.heap.size rb mb (.slice pb nb cb) := hw2 ▸ E3.new w1 _ _ _ _ _ rfl
  have B_2 := below_call B_1 h
  clear h
  have oa0 := Ea_2.1; have oa1 := Ea_2.2.1; have oa2 := Ea_2.2.2
  have ob0 := Eb_2.1; have ob1 := Eb_2.2.1; have ob2 := Eb_2.2.2
  obtain ⟨w3, hw3⟩ : ∃ w', w2.alloc (.cells #[.int .u64 ra, .int .u64 ma, .slice pa na ca, .int .u64 rb, .int .u64 mb, .slice pb nb cb] 26) = w' := ⟨_, rfl⟩
  have h : Below w2.heap.size w2 w3 := hw3 ▸ below_new w2 _
  have Ea_3 := Ea_2.call h
  have Eb_3 := Eb_2.call h
  have B_3 := below_call B_2 h
  clear h
  have hall : ∀ i, i < 2 → okE w ((pick2 (ra, ma, Value.slice pa na ca) (rb, mb, Value.slice pb nb cb)) 0).1 ((pick2 (ra, ma, Value.slice pa na ca) (rb, mb, Value.slice pb nb cb)) i) ∨ badE w ((pick2 (ra, ma, Value.slice pa na ca) (rb, mb, Value.slice pb nb cb)) 0).1 ((pick2 (ra, ma, Value.slice pa na ca) (rb, mb, Value.slice pb nb cb)) i) := fun i hi => by
    obtain rfl | rfl : i = 0 ∨ i = 1 := by omega
    · exact ha.split ra ra
    · exact hb.split rb ra
  obtain ⟨rr, hok, hKR⟩ := rightsE_any 2 w2.heap.size 2 (pick2 (ra, ma, Value.slice pa na ca) (rb, mb, Value.slice pb nb cb)) w3 w B_3 (by omega) (hw3 ▸ list_two w2 (ra, ma, Value.slice pa na ca) (rb, mb, Value.slice pb nb cb) _) hall
  obtain ⟨a0, a1, a2⟩ := Ea_3
  obtain ⟨b0, b1, b2⟩ := Eb_3
  have KR := Lib.hid hKR
  have HB_3 := Lib.hid B_3
  clear hall hKR Ea_1 Ea_2 Eb_2 B_1 B_2 B_3
  have HOK := Lib.hid hok; clear hok
  have HSa := Lib.hid ha.2.1; clear ha
  have HSb := Lib.hid hb.2.1; clear hb
  have HC := Lib.hid C; clear C
  go_enter Try.func3, Try.ntmps3
  go_wp2_with fail
  clear hw1 hw2 hw3
  clear oa0 oa1 oa2 ob0 ob1 ob2
  refine KR.out.mono ?_
  rintro e w4 ⟨rfl, h⟩
  have Ea := E3.call (⟨a0, a1, a2⟩ : E3 w3 _ ra ma (.slice pa na ca)) h; clear a0 a1 a2
  have Eb := E3.call (⟨b0, b1, b2⟩ : E3 w3 _ rb mb (.slice pb nb cb)) h; clear b0 b1 b2
  have HB_4 := Lib.hid (below_call HB_3.out h); clear h
  cases rr with
  | false =>
    clear HOK HC Ea HSa Eb HSb
    go_wp2_with fail
    refine (KL.out _).mono ?_
    rintro e w5 ⟨rfl, h⟩
    have HB_5 := Lib.hid (below_call HB_4.out h)
    go_wp2_with fail
    go_ret
    exact ⟨rfl, HB_5.out⟩
  | true =>
    obtain ⟨hr0a, A, hea, hla⟩ := (HOK.out rfl 0 (by omega)).ent HSa.out; clear hr0a
    obtain ⟨hr0b, B, heb, hlb⟩ := (HOK.out rfl 1 (by omega)).ent HSb.out
    have hrb : rb = ra := hr0b; clear hr0b; subst rb
    have Ha_4 : Hid (InE w4 _ ra ma (.slice pa na ca) A) := Lib.hid ⟨Ea, hea.call HB_4.out⟩
    have Hb_4 : Hid (InE w4 _ ra mb (.slice pb nb cb) B) := Lib.hid ⟨Eb, heb.call HB_4.out⟩
    obtain ⟨Ka, hKa⟩ : ∃ K, knownL ma A = K := ⟨_, rfl⟩
    have hga : GoodL Ka := hKa ▸ known_good hea.good
    have hna : Ka.length ≤ 61 := by have := known_count hea.good; rw [hKa] at this; omega
    obtain ⟨Kb, hKb⟩ : ∃ K, knownL mb B = K := ⟨_, rfl⟩
    have hgb : GoodL Kb := hKb ▸ known_good heb.good
    have hnb : Kb.length ≤ 61 := by have := known_count heb.good; rw [hKb] at this; omega
    have C := HC.out
    obtain ⟨ru, hru⟩ : ∃ x, repE ra (orL Ka Kb) = x := ⟨_, rfl⟩
    obtain ⟨tu, htu⟩ : ∃ x, topL (orL Ka Kb) = x := ⟨_, rfl⟩
    obtain ⟨Hu, hHu⟩ : ∃ x, holesL (orL Ka Kb) = x := ⟨_, rfl⟩
    obtain ⟨bu, hbu⟩ : ∃ x, someE (orL Ka Kb) = x := ⟨_, rfl⟩
    have Ku : ∀ W, EntAt W (.slice pa na ca) ma A → EntAt W (.slice pb nb cb) mb B → Calls Try.prog 10 #[.agg #[.int .u64 ra, .int .u64 ma, .slice pa na ca], .agg #[.int .u64 ra, .int .u64 mb, .slice pb nb cb]] W (IsTE ru tu Hu bu W) := fun W h h' => by
            have k := C.uni ra ma mb A B _ _ W h h'
            rw [hKa, hKb] at k
            have k2 := k.mono fun _ _ hh => eo_te (orL_good hga hgb) (by have := or_count hga hgb; omega) hh
            rw [hru, htu, hHu, hbu] at k2
            exact k2
    have Ru : ∀ W, EntAt W (.slice pa na ca) ma A → EntAt W (.slice pb nb cb) mb B → Calls Try.prog 13 #[.agg #[.int .u64 ra, .int .u64 ma, .slice pa na ca], .agg #[.int .u64 ra, .int .u64 mb, .slice pb nb cb], .int .i64 0] W (IsT ru tu Hu bu W) := fun W h h' => by
            have k := refDo8_any 0 _ doOr (fun A B hA hB => ⟨orL_good hA hB, or_count hA hB⟩) ra ra ma mb A B _ _ W h h'
            rw [hKa, hKb] at k
            have k2 := k.mono fun _ _ hh => of_t hh
            rw [hru, htu, hHu, hbu] at k2
            exact k2
    obtain ⟨rm, hrm⟩ : ∃ x, repE ra (andL Ka Kb) = x := ⟨_, rfl⟩
    obtain ⟨tm, htm⟩ : ∃ x, topL (andL Ka Kb) = x := ⟨_, rfl⟩
    obtain ⟨Hm, hHm⟩ : ∃ x, holesL (andL Ka Kb) = x := ⟨_, rfl⟩
    obtain ⟨bm, hbm⟩ : ∃ x, someE (andL Ka Kb) = x := ⟨_, rfl⟩
    have Km : ∀ W, EntAt W (.slice pa na ca) ma A → EntAt W (.slice pb nb cb) mb B → Calls Try.prog 11 #[.agg #[.int .u64 ra, .int .u64 ma, .slice pa na ca], .agg #[.int .u64 ra, .int .u64 mb, .slice pb nb cb]] W (IsTE rm tm Hm bm W) := fun W h h' => by
            have k := C.meet ra ma mb A B _ _ W h h'
            rw [hKa, hKb] at k
            have k2 := k.mono fun _ _ hh => eo_te (andL_good hga hgb) (by have := and_count hga hgb; omega) hh
            rw [hrm, htm, hHm, hbm] at k2
            exact k2
    have Rm : ∀ W, EntAt W (.slice pa na ca) ma A → EntAt W (.slice pb nb cb) mb B → Calls Try.prog 13 #[.agg #[.int .u64 ra, .int .u64 ma, .slice pa na ca], .agg #[.int .u64 ra, .int .u64 mb, .slice pb nb cb], .int .i64 1] W (IsT rm tm Hm bm W) := fun W h h' => by
            have k := refDo8_any 1 _ doAnd (fun A B hA hB => ⟨andL_good hA hB, and_count hA hB⟩) ra ra ma mb A B _ _ W h h'
            rw [hKa, hKb] at k
            have k2 := k.mono fun _ _ hh => of_t hh
            rw [hrm, htm, hHm, hbm] at k2
            exact k2
    obtain ⟨rd, hrd⟩ : ∃ x, repE ra (subL Ka Kb) = x := ⟨_, rfl⟩
    obtain ⟨td, htd⟩ : ∃ x, topL (subL Ka Kb) = x := ⟨_, rfl⟩
    obtain ⟨Hd, hHd⟩ : ∃ x, holesL (subL Ka Kb) = x := ⟨_, rfl⟩
    obtain ⟨bd, hbd⟩ : ∃ x, someE (subL Ka Kb) = x := ⟨_, rfl⟩
    have Kd : ∀ W, EntAt W (.slice pa na ca) ma A → EntAt W (.slice pb nb cb) mb B → Calls Try.prog 12 #[.agg #[.int .u64 ra, .int .u64 ma, .slice pa na ca], .agg #[.int .u64 ra, .int .u64 mb, .slice pb nb cb]] W (IsTE rd td Hd bd W) := fun W h h' => by
            have k := C.minus ra ma mb A B _ _ W h h'
            rw [hKa, hKb] at k
            have k2 := k.mono fun _ _ hh => eo_te (subL_good hga hgb) (by have := sub_count hga hgb; omega) hh
            rw [hrd, htd, hHd, hbd] at k2
            exact k2
    have Rd : ∀ W, EntAt W (.slice pa na ca) ma A → EntAt W (.slice pb nb cb) mb B → Calls Try.prog 13 #[.agg #[.int .u64 ra, .int .u64 ma, .slice pa na ca], .agg #[.int .u64 ra, .int .u64 mb, .slice pb nb cb], .int .i64 2] W (IsT rd td Hd bd W) := fun W h h' => by
            have k := refDo8_any 2 _ doSub (fun A B hA hB => ⟨subL_good hA hB, sub_count hA hB⟩) ra ra ma mb A B _ _ W h h'
            rw [hKa, hKb] at k
            have k2 := k.mono fun _ _ hh => of_t hh
            rw [hrd, htd, hHd, hbd] at k2
            exact k2
    have HKu := Lib.hid Ku; have HRu := Lib.hid Ru
    have HKm := Lib.hid Km; have HRm := Lib.hid Rm
    have HKd := Lib.hid Kd; have HRd := Lib.hid Rd
    clear C HC HOK KR hea heb hga hgb hna hnb hla hlb hKa hKb Ea Eb HSa HSb Ku Ru hru htu hHu hbu Km Rm hrm htm hHm hbm Kd Rd hrd htd hHd hbd
    clear Ka Kb
    obtain ⟨a0, a1, a2⟩ := Ha_4.out.e3
    obtain ⟨b0, b1, b2⟩ := Hb_4.out.e3
    go_wp2_with fail
    refine (HKu.out _ Ha_4.out.ent Hb_4.out.ent).mono ?_
    rintro e w5 ⟨vu, rfl, hv, h⟩
    obtain ⟨pu, cu, rfl, _⟩ := hv.any.at'.shape
    clear a0 a1 a2 b0 b1 b2
    have Ha_5 := Lib.hid (Ha_4.out.call h)
    have Hb_5 := Lib.hid (Hb_4.out.call h)
    have HB_5 := Lib.hid (below_call HB_4.out h)
    clear h
    obtain ⟨w6, hw6⟩ : ∃ w', w5.alloc (.cells #[.int .u64 ru, .int .u64 tu, .slice pu (Hu).length cu] 26) = w' := ⟨_, rfl⟩
    have h : Below w5.heap.size w5 w6 := hw6 ▸ below_new w5 _
    have Ha_6 := Lib.hid (Ha_5.out.call h)
    have Hb_6 := Lib.hid (Hb_5.out.call h)
    have HB_6 := Lib.hid (below_call HB_5.out h)
    clear h
    have Hu_6 := Lib.hid (InE.new hw6 hv)
    obtain ⟨a0, a1, a2⟩ := Ha_6.out.e3
    obtain ⟨b0, b1, b2⟩ := Hb_6.out.e3
    obtain ⟨u0, u1, u2⟩ := Hu_6.out.e3
    clear hv
    go_wp2_with fail
    clear hw6
    refine (HKm.out _ Ha_6.out.ent Hb_6.out.ent).mono ?_
    rintro e w7 ⟨vm, rfl, hv, h⟩
    obtain ⟨pm, cm, rfl, _⟩ := hv.any.at'.shape
    clear a0 a1 a2 b0 b1 b2 u0 u1 u2
    have Ha_7 := Lib.hid (Ha_6.out.call h)
    have Hb_7 := Lib.hid (Hb_6.out.call h)
    have Hu_7 := Lib.hid (Hu_6.out.call h)
    have HB_7 := Lib.hid (below_call HB_6.out h)
    clear h
    obtain ⟨w8, hw8⟩ : ∃ w', w7.alloc (.cells #[.int .u64 rm, .int .u64 tm, .slice pm (Hm).length cm] 26) = w' := ⟨_, rfl⟩
    have h : Below w7.heap.size w7 w8 := hw8 ▸ below_new w7 _
    have Ha_8 := Lib.hid (Ha_7.out.call h)
    have Hb_8 := Lib.hid (Hb_7.out.call h)
    have Hu_8 := Lib.hid (Hu_7.out.call h)
    have HB_8 := Lib.hid (below_call HB_7.out h)
    clear h
    have Hm_8 := Lib.hid (InE.new hw8 hv)
    obtain ⟨a0, a1, a2⟩ := Ha_8.out.e3
    obtain ⟨b0, b1, b2⟩ := Hb_8.out.e3
    obtain ⟨u0, u1, u2⟩ := Hu_8.out.e3
    obtain ⟨m0, m1, m2⟩ := Hm_8.out.e3
    clear hv
    go_wp2_with fail
    clear hw8
    refine (HKd.out _ Ha_8.out.ent Hb_8.out.ent).mono ?_
    rintro e w9 ⟨vd, rfl, hv, h⟩
    obtain ⟨pd, cd, rfl, _⟩ := hv.any.at'.shape
    clear a0 a1 a2 b0 b1 b2 u0 u1 u2 m0 m1 m2
    have Ha_9 := Lib.hid (Ha_8.out.call h)
    have Hb_9 := Lib.hid (Hb_8.out.call h)
    have Hu_9 := Lib.hid (Hu_8.out.call h)
    have Hm_9 := Lib.hid (Hm_8.out.call h)
    have HB_9 := Lib.hid (below_call HB_8.out h)
    clear h
    obtain ⟨w10, hw10⟩ : ∃ w', w9.alloc (.cells #[.int .u64 rd, .int .u64 td, .slice pd (Hd).length cd] 26) = w' := ⟨_, rfl⟩
    have h : Below w9.heap.size w9 w10 := hw10 ▸ below_new w9 _
    have Ha_10 := Lib.hid (Ha_9.out.call h)
    have Hb_10 := Lib.hid (Hb_9.out.call h)
    have Hu_10 := Lib.hid (Hu_9.out.call h)
    have Hm_10 := Lib.hid (Hm_9.out.call h)
    have HB_10 := Lib.hid (below_call HB_9.out h)
    clear h
    have Hd_10 := Lib.hid (InE.new hw10 hv)
    obtain ⟨a0, a1, a2⟩ := Ha_10.out.e3
    obtain ⟨b0, b1, b2⟩ := Hb_10.out.e3
    obtain ⟨u0, u1, u2⟩ := Hu_10.out.e3
    obtain ⟨m0, m1, m2⟩ := Hm_10.out.e3
    obtain ⟨d0, d1, d2⟩ := Hd_10.out.e3
    clear hv
    go_wp2_with fail
    clear hw10
    refine (HRu.out _ Ha_10.out.ent Hb_10.out.ent).mono ?_
    rintro e w11 ⟨vyu, rfl, hv, h⟩
    obtain ⟨pyu, cyu, rfl, _⟩ := hv.shape
    clear a0 a1 a2 b0 b1 b2 u0 u1 u2 m0 m1 m2 d0 d1 d2
    have Ha_11 := Lib.hid (Ha_10.out.call h)
    have Hb_11 := Lib.hid (Hb_10.out.call h)
    have Hu_11 := Lib.hid (Hu_10.out.call h)
    have Hm_11 := Lib.hid (Hm_10.out.call h)
    have Hd_11 := Lib.hid (Hd_10.out.call h)
    have HB_11 := Lib.hid (below_call HB_10.out h)
    clear h
    obtain ⟨w12, hw12⟩ : ∃ w', w11.alloc (.cells #[.int .u64 ru, .int .u64 tu, .slice pyu (Hu).length cyu] 26) = w' := ⟨_, rfl⟩
    have h : Below w11.heap.size w11 w12 := hw12 ▸ below_new w11 _
    have Ha_12 := Lib.hid (Ha_11.out.call h)
    have Hb_12 := Lib.hid (Hb_11.out.call h)
    have Hu_12 := Lib.hid (Hu_11.out.call h)
    have Hm_12 := Lib.hid (Hm_11.out.call h)
    have Hd_12 := Lib.hid (Hd_11.out.call h)
    have HB_12 := Lib.hid (below_call HB_11.out h)
    clear h
    have Hyu_12 := Lib.hid (InI.new hw12 hv)
    obtain ⟨a0, a1, a2⟩ := Ha_12.out.e3
    obtain ⟨b0, b1, b2⟩ := Hb_12.out.e3
    obtain ⟨u0, u1, u2⟩ := Hu_12.out.e3
    obtain ⟨m0, m1, m2⟩ := Hm_12.out.e3
    obtain ⟨d0, d1, d2⟩ := Hd_12.out.e3
    obtain ⟨yu0, yu1, yu2⟩ := Hyu_12.out.e3
    clear hv
    go_wp2_with fail
    clear hw12
    refine (HRm.out _ Ha_12.out.ent Hb_12.out.ent).mono ?_
    rintro e w13 ⟨vym, rfl, hv, h⟩
    obtain ⟨pym, cym, rfl, _⟩ := hv.shape
    clear a0 a1 a2 b0 b1 b2 u0 u1 u2 m0 m1 m2 d0 d1 d2 yu0 yu1 yu2
    have Ha_13 := Lib.hid (Ha_12.out.call h)
    have Hb_13 := Lib.hid (Hb_12.out.call h)
    have Hu_13 := Lib.hid (Hu_12.out.call h)
    have Hm_13 := Lib.hid (Hm_12.out.call h)
    have Hd_13 := Lib.hid (Hd_12.out.call h)
    have Hyu_13 := Lib.hid (Hyu_12.out.call h)
    have HB_13 := Lib.hid (below_call HB_12.out h)
    clear h
    obtain ⟨w14, hw14⟩ : ∃ w', w13.alloc (.cells #[.int .u64 rm, .int .u64 tm, .slice pym (Hm).length cym] 26) = w' := ⟨_, rfl⟩
    have h : Below w13.heap.size w13 w14 := hw14 ▸ below_new w13 _
    have Ha_14 := Lib.hid (Ha_13.out.call h)
    have Hb_14 := Lib.hid (Hb_13.out.call h)
    have Hu_14 := Lib.hid (Hu_13.out.call h)
    have Hm_14 := Lib.hid (Hm_13.out.call h)
    have Hd_14 := Lib.hid (Hd_13.out.call h)
    have Hyu_14 := Lib.hid (Hyu_13.out.call h)
    have HB_14 := Lib.hid (below_call HB_13.out h)
    clear h
    have Hym_14 := Lib.hid (InI.new hw14 hv)
    obtain ⟨a0, a1, a2⟩ := Ha_14.out.e3
    obtain ⟨b0, b1, b2⟩ := Hb_14.out.e3
    obtain ⟨u0, u1, u2⟩ := Hu_14.out.e3
    obtain ⟨m0, m1, m2⟩ := Hm_14.out.e3
    obtain ⟨d0, d1, d2⟩ := Hd_14.out.e3
    obtain ⟨yu0, yu1, yu2⟩ := Hyu_14.out.e3
    obtain ⟨ym0, ym1, ym2⟩ := Hym_14.out.e3
    clear hv
    go_wp2_with fail
    clear hw14
    refine (HRd.out _ Ha_14.out.ent Hb_14.out.ent).mono ?_
    rintro e w15 ⟨vyd, rfl, hv, h⟩
    obtain ⟨pyd, cyd, rfl, _⟩ := hv.shape
    clear a0 a1 a2 b0 b1 b2 u0 u1 u2 m0 m1 m2 d0 d1 d2 yu0 yu1 yu2 ym0 ym1 ym2
    have Ha_15 := Lib.hid (Ha_14.out.call h)
    have Hb_15 := Lib.hid (Hb_14.out.call h)
    have Hu_15 := Lib.hid (Hu_14.out.call h)
    have Hm_15 := Lib.hid (Hm_14.out.call h)
    have Hd_15 := Lib.hid (Hd_14.out.call h)
    have Hyu_15 := Lib.hid (Hyu_14.out.call h)
    have Hym_15 := Lib.hid (Hym_14.out.call h)
    have HB_15 := Lib.hid (below_call HB_14.out h)
    clear h
    obtain ⟨w16, hw16⟩ : ∃ w', w15.alloc (.cells #[.int .u64 rd, .int .u64 td, .slice pyd (Hd).length cyd] 26) = w' := ⟨_, rfl⟩
    have h : Below w15.heap.size w15 w16 := hw16 ▸ below_new w15 _
    have Ha_16 := Lib.hid (Ha_15.out.call h)
    have Hb_16 := Lib.hid (Hb_15.out.call h)
    have Hu_16 := Lib.hid (Hu_15.out.call h)
    have Hm_16 := Lib.hid (Hm_15.out.call h)
    have Hd_16 := Lib.hid (Hd_15.out.call h)
    have Hyu_16 := Lib.hid (Hyu_15.out.call h)
    have Hym_16 := Lib.hid (Hym_15.out.call h)
    have HB_16 := Lib.hid (below_call HB_15.out h)
    clear h
    have Hyd_16 := Lib.hid (InI.new hw16 hv)
    obtain ⟨a0, a1, a2⟩ := Ha_16.out.e3
    obtain ⟨b0, b1, b2⟩ := Hb_16.out.e3
    obtain ⟨u0, u1, u2⟩ := Hu_16.out.e3
    obtain ⟨m0, m1, m2⟩ := Hm_16.out.e3
    obtain ⟨d0, d1, d2⟩ := Hd_16.out.e3
    obtain ⟨yu0, yu1, yu2⟩ := Hyu_16.out.e3
    obtain ⟨ym0, ym1, ym2⟩ := Hym_16.out.e3
    obtain ⟨yd0, yd1, yd2⟩ := Hyd_16.out.e3
    clear hv
    go_wp2_with fail
    clear hw16
    refine (KL.out _).mono ?_
    rintro e w17 ⟨rfl, h⟩
    clear a0 a1 a2 b0 b1 b2 u0 u1 u2 m0 m1 m2 d0 d1 d2 yu0 yu1 yu2 ym0 ym1 ym2 yd0 yd1 yd2
    have Ha_17 := Lib.hid (Ha_16.out.call h)
    have Hb_17 := Lib.hid (Hb_16.out.call h)
    have Hu_17 := Lib.hid (Hu_16.out.call h)
    have Hm_17 := Lib.hid (Hm_16.out.call h)
    have Hd_17 := Lib.hid (Hd_16.out.call h)
    have Hyu_17 := Lib.hid (Hyu_16.out.call h)
    have Hym_17 := Lib.hid (Hym_16.out.call h)
    have Hyd_17 := Lib.hid (Hyd_16.out.call h)
    have HB_17 := Lib.hid (below_call HB_16.out h)
    obtain ⟨a0, a1, a2⟩ := Ha_17.out.e3
    obtain ⟨b0, b1, b2⟩ := Hb_17.out.e3
    obtain ⟨u0, u1, u2⟩ := Hu_17.out.e3
    obtain ⟨m0, m1, m2⟩ := Hm_17.out.e3
    obtain ⟨d0, d1, d2⟩ := Hd_17.out.e3
    obtain ⟨yu0, yu1, yu2⟩ := Hyu_17.out.e3
    obtain ⟨ym0, ym1, ym2⟩ := Hym_17.out.e3
    obtain ⟨yd0, yd1, yd2⟩ := Hyd_17.out.e3
    go_wp2_with fail
    refine (same_true _ _ _ _ _ _ Hu_17.out.ent.any.at' Hyu_17.out.ivs).mono ?_
    rintro e w18 ⟨rfl, h⟩
    clear a0 a1 a2 b0 b1 b2 u0 u1 u2 m0 m1 m2 d0 d1 d2 yu0 yu1 yu2 ym0 ym1 ym2 yd0 yd1 yd2
    have Ha_18 := Lib.hid (Ha_17.out.call h)
    have Hb_18 := Lib.hid (Hb_17.out.call h)
    have Hu_18 := Lib.hid (Hu_17.out.call h)
    have Hm_18 := Lib.hid (Hm_17.out.call h)
    have Hd_18 := Lib.hid (Hd_17.out.call h)
    have Hyu_18 := Lib.hid (Hyu_17.out.call h)
    have Hym_18 := Lib.hid (Hym_17.out.call h)
    have Hyd_18 := Lib.hid (Hyd_17.out.call h)
    have HB_18 := Lib.hid (below_call HB_17.out h)
    obtain ⟨a0, a1, a2⟩ := Ha_18.out.e3
    obtain ⟨b0, b1, b2⟩ := Hb_18.out.e3
    obtain ⟨u0, u1, u2⟩ := Hu_18.out.e3
    obtain ⟨m0, m1, m2⟩ := Hm_18.out.e3
    obtain ⟨d0, d1, d2⟩ := Hd_18.out.e3
    obtain ⟨yu0, yu1, yu2⟩ := Hyu_18.out.e3
    obtain ⟨ym0, ym1, ym2⟩ := Hym_18.out.e3
    obtain ⟨yd0, yd1, yd2⟩ := Hyd_18.out.e3
    go_wp2_with fail
    refine (same_true _ _ _ _ _ _ Hm_18.out.ent.any.at' Hym_18.out.ivs).mono ?_
    rintro e w19 ⟨rfl, h⟩
    clear a0 a1 a2 b0 b1 b2 u0 u1 u2 m0 m1 m2 d0 d1 d2 yu0 yu1 yu2 ym0 ym1 ym2 yd0 yd1 yd2
    have Ha_19 := Lib.hid (Ha_18.out.call h)
    have Hb_19 := Lib.hid (Hb_18.out.call h)
    have Hu_19 := Lib.hid (Hu_18.out.call h)
    have Hm_19 := Lib.hid (Hm_18.out.call h)
    have Hd_19 := Lib.hid (Hd_18.out.call h)
    have Hyu_19 := Lib.hid (Hyu_18.out.call h)
    have Hym_19 := Lib.hid (Hym_18.out.call h)
    have Hyd_19 := Lib.hid (Hyd_18.out.call h)
    have HB_19 := Lib.hid (below_call HB_18.out h)
    obtain ⟨a0, a1, a2⟩ := Ha_19.out.e3
    obtain ⟨b0, b1, b2⟩ := Hb_19.out.e3
    obtain ⟨u0, u1, u2⟩ := Hu_19.out.e3
    obtain ⟨m0, m1, m2⟩ := Hm_19.out.e3
    obtain ⟨d0, d1, d2⟩ := Hd_19.out.e3
    obtain ⟨yu0, yu1, yu2⟩ := Hyu_19.out.e3
    obtain ⟨ym0, ym1, ym2⟩ := Hym_19.out.e3
    obtain ⟨yd0, yd1, yd2⟩ := Hyd_19.out.e3
    go_wp2_with fail
    refine (same_true _ _ _ _ _ _ Hd_19.out.ent.any.at' Hyd_19.out.ivs).mono ?_
    rintro e w20 ⟨rfl, h⟩
    clear a0 a1 a2 b0 b1 b2 u0 u1 u2 m0 m1 m2 d0 d1 d2 yu0 yu1 yu2 ym0 ym1 ym2 yd0 yd1 yd2
    have Ha_20 := Lib.hid (Ha_19.out.call h)
    have Hb_20 := Lib.hid (Hb_19.out.call h)
    have Hu_20 := Lib.hid (Hu_19.out.call h)
    have Hm_20 := Lib.hid (Hm_19.out.call h)
    have Hd_20 := Lib.hid (Hd_19.out.call h)
    have Hyu_20 := Lib.hid (Hyu_19.out.call h)
    have Hym_20 := Lib.hid (Hym_19.out.call h)
    have Hyd_20 := Lib.hid (Hyd_19.out.call h)
    have HB_20 := Lib.hid (below_call HB_19.out h)
    obtain ⟨a0, a1, a2⟩ := Ha_20.out.e3
    obtain ⟨b0, b1, b2⟩ := Hb_20.out.e3
    obtain ⟨u0, u1, u2⟩ := Hu_20.out.e3
    obtain ⟨m0, m1, m2⟩ := Hm_20.out.e3
    obtain ⟨d0, d1, d2⟩ := Hd_20.out.e3
    obtain ⟨yu0, yu1, yu2⟩ := Hyu_20.out.e3
    obtain ⟨ym0, ym1, ym2⟩ := Hym_20.out.e3
    obtain ⟨yd0, yd1, yd2⟩ := Hyd_20.out.e3
    have qu : (bu == bu) = true := by simp
    have qm : (bm == bm) = true := by simp
    have qd : (bd == bd) = true := by simp
    go_wp2_with fail
    go_ret
    exact ⟨rfl, HB_20.out⟩
set_option maxRecDepth 100000 in
set_option maxHeartbeats 4000000 in
theorem lawSubset8_any (C : JoinC) (ra ma rb mb : Int) (sa sb : Value) (w : World) (ha : entArg8 w ma sa) (hb : entArg8 w mb sb) :
    Calls Try.prog 4 #[.agg #[.int .u64 ra, .int .u64 ma, sa], .agg #[.int .u64 rb, .int .u64 mb, sb]] w (IsEnd true w) := by
  have KL := Lib.hid (alive8_any C)
  obtain ⟨pa, na, ca, rfl⟩ := ha.shape
  obtain ⟨pb, nb, cb, rfl⟩ := hb.shape
  obtain ⟨w1, hw1⟩ : ∃ w', w.alloc (.cells #[.int .u64 ra, .int .u64 ma, .slice pa na ca] 26) = w' := ⟨_, rfl⟩
  have h : Below w.heap.size w w1 := hw1 ▸ below_new w _
  have Ea_1 : E3 w1 w.heap.size ra ma (.slice pa na ca) := hw1 ▸ E3.new w _ _ _ _ _ rfl
  have B_1 := h
  clear h
  obtain ⟨w2, hw2⟩ : ∃ w', w1.alloc (.cells #[.int .u64 rb, .int .u64 mb, .slice pb nb cb] 26) = w' := ⟨_, rfl⟩
  have h : Below w1.heap.size w1 w2 := hw2 ▸ below_new w1 _
  have Ea_2 := Ea_1.call h
  have Eb_2 : E3 w2 w1.heap.size rb mb (.slice pb nb cb) := hw2 ▸ E3.new w1 _ _ _ _ _ rfl
  have B_2 := below_call B_1 h
  clear h
  have oa0 := Ea_2.1; have oa1 := Ea_2.2.1; have oa2 := Ea_2.2.2
  have ob0 := Eb_2.1; have ob1 := Eb_2.2.1; have ob2 := Eb_2.2.2
  obtain ⟨w3, hw3⟩ : ∃ w', w2.alloc (.cells #[.int .u64 ra, .int .u64 ma, .slice pa na ca, .int .u64 rb, .int .u64 mb, .slice pb nb cb] 26) = w' := ⟨_, rfl⟩
  have h : Below w2.heap.size w2 w3 := hw3 ▸ below_new w2 _
  have Ea_3 := Ea_2.call h
  have Eb_3 := Eb_2.call h
  have B_3 := below_call B_2 h
  clear h
  have hall : ∀ i, i < 2 → okE w ((pick2 (ra, ma, Value.slice pa na ca) (rb, mb, Value.slice pb nb cb)) 0).1 ((pick2 (ra, ma, Value.slice pa na ca) (rb, mb, Value.slice pb nb cb)) i) ∨ badE w ((pick2 (ra, ma, Value.slice pa na ca) (rb, mb, Value.slice pb nb cb)) 0).1 ((pick2 (ra, ma, Value.slice pa na ca) (rb, mb, Value.slice pb nb cb)) i) := fun i hi => by
    obtain rfl | rfl : i = 0 ∨ i = 1 := by omega
    · exact ha.split ra ra
    · exact hb.split rb ra
  obtain ⟨rr, hok, hKR⟩ := rightsE_any 2 w2.heap.size 2 (pick2 (ra, ma, Value.slice pa na ca) (rb, mb, Value.slice pb nb cb)) w3 w B_3 (by omega) (hw3 ▸ list_two w2 (ra, ma, Value.slice pa na ca) (rb, mb, Value.slice pb nb cb) _) hall
  obtain ⟨a0, a1, a2⟩ := Ea_3
  obtain ⟨b0, b1, b2⟩ := Eb_3
  have KR := Lib.hid hKR
  have HB_3 := Lib.hid B_3
  clear hall hKR Ea_1 Ea_2 Eb_2 B_1 B_2 B_3
  have HOK := Lib.hid hok; clear hok
  have HSa := Lib.hid ha.2.1; clear ha
  have HSb := Lib.hid hb.2.1; clear hb
  have HC := Lib.hid C; clear C
  go_enter Try.func4, Try.ntmps4
  go_wp2_with fail
  clear hw1 hw2 hw3
  clear oa0 oa1 oa2 ob0 ob1 ob2
  refine KR.out.mono ?_
  rintro e w4 ⟨rfl, h⟩
  have Ea := E3.call (⟨a0, a1, a2⟩ : E3 w3 _ ra ma (.slice pa na ca)) h; clear a0 a1 a2
  have Eb := E3.call (⟨b0, b1, b2⟩ : E3 w3 _ rb mb (.slice pb nb cb)) h; clear b0 b1 b2
  have HB_4 := Lib.hid (below_call HB_3.out h); clear h
  cases rr with
  | false =>
    clear HOK HC Ea HSa Eb HSb
    go_wp2_with fail
    refine (KL.out _).mono ?_
    rintro e w5 ⟨rfl, h⟩
    have HB_5 := Lib.hid (below_call HB_4.out h)
    go_wp2_with fail
    go_ret
    exact ⟨rfl, HB_5.out⟩
  | true =>
    obtain ⟨hr0a, A, hea, hla⟩ := (HOK.out rfl 0 (by omega)).ent HSa.out; clear hr0a
    obtain ⟨hr0b, B, heb, hlb⟩ := (HOK.out rfl 1 (by omega)).ent HSb.out
    have hrb : rb = ra := hr0b; clear hr0b; subst rb
    have Ha_4 : Hid (InE w4 _ ra ma (.slice pa na ca) A) := Lib.hid ⟨Ea, hea.call HB_4.out⟩
    have Hb_4 : Hid (InE w4 _ ra mb (.slice pb nb cb) B) := Lib.hid ⟨Eb, heb.call HB_4.out⟩
    obtain ⟨Ka, hKa⟩ : ∃ K, knownL ma A = K := ⟨_, rfl⟩
    have hga : GoodL Ka := hKa ▸ known_good hea.good
    have hna : Ka.length ≤ 61 := by have := known_count hea.good; rw [hKa] at this; omega
    obtain ⟨Kb, hKb⟩ : ∃ K, knownL mb B = K := ⟨_, rfl⟩
    have hgb : GoodL Kb := hKb ▸ known_good heb.good
    have hnb : Kb.length ≤ 61 := by have := known_count heb.good; rw [hKb] at this; omega
    have C := HC.out
    obtain ⟨bs, hbs⟩ : ∃ x, decide (subL Ka Kb = []) = x := ⟨_, rfl⟩
    obtain ⟨rd, hrd⟩ : ∃ x, repE ra (subL Ka Kb) = x := ⟨_, rfl⟩
    obtain ⟨td, htd⟩ : ∃ x, topL (subL Ka Kb) = x := ⟨_, rfl⟩
    obtain ⟨Hd, hHd⟩ : ∃ x, holesL (subL Ka Kb) = x := ⟨_, rfl⟩
    have hbd : someE (subL Ka Kb) = !bs := by rw [← hbs]; unfold someE; cases subL Ka Kb <;> simp
    have Ks : ∀ W, EntAt W (.slice pa na ca) ma A → EntAt W (.slice pb nb cb) mb B → Calls Try.prog 15 #[.agg #[.int .u64 ra, .int .u64 ma, .slice pa na ca], .agg #[.int .u64 ra, .int .u64 mb, .slice pb nb cb]] W (IsEnd bs W) := fun W h h' => by
            have k := C.sub ra ma mb A B _ _ W h h'
            rw [hKa, hKb, hbs] at k
            exact k
    have Kr : ∀ W, EntAt W (.slice pa na ca) ma A → EntAt W (.slice pb nb cb) mb B → Calls Try.prog 16 #[.agg #[.int .u64 ra, .int .u64 ma, .slice pa na ca], .agg #[.int .u64 ra, .int .u64 mb, .slice pb nb cb]] W (IsEnd bs W) := fun W h h' => by
            have k := refSub8_any ra ra ma mb A B _ _ W h h'
            rw [hKa, hKb, hbs] at k
            exact k
    have Kd : ∀ W, EntAt W (.slice pa na ca) ma A → EntAt W (.slice pb nb cb) mb B → Calls Try.prog 12 #[.agg #[.int .u64 ra, .int .u64 ma, .slice pa na ca], .agg #[.int .u64 ra, .int .u64 mb, .slice pb nb cb]] W (IsTE rd td Hd (!bs) W) := fun W h h' => by
            have k := C.minus ra ma mb A B _ _ W h h'
            rw [hKa, hKb] at k
            have k2 := k.mono fun _ _ hh => eo_te (subL_good hga hgb) (by have := sub_count hga hgb; omega) hh
            rw [hrd, htd, hHd, hbd] at k2
            exact k2
    have Ki : ∀ W, EntAt W (.slice pa na ca) ma A → Calls Try.prog 15 #[.agg #[.int .u64 ra, .int .u64 ma, .slice pa na ca], .agg #[.int .u64 ra, .int .u64 ma, .slice pa na ca]] W (IsEnd true W) := fun W h => by
            have k := C.sub ra ma ma A A _ _ W h h
            rw [hKa, sub_self' hga] at k
            exact k
    have HKs := Lib.hid Ks; clear Ks
    have HKr := Lib.hid Kr; clear Kr
    have HKd := Lib.hid Kd; clear Kd
    have HKi := Lib.hid Ki; clear Ki
    clear C HC HOK KR hea heb hga hgb hna hnb hla hlb hKa hKb Ea Eb HSa HSb hbs hrd htd hHd hbd
    clear Ka Kb
    cases bs
    all_goals
      obtain ⟨a0, a1, a2⟩ := Ha_4.out.e3
      obtain ⟨b0, b1, b2⟩ := Hb_4.out.e3
      go_wp2_with fail
      refine (HKs.out _ Ha_4.out.ent Hb_4.out.ent).mono ?_
      rintro e w5 ⟨rfl, h⟩
      clear a0 a1 a2 b0 b1 b2
      have Ha_5 := Lib.hid (Ha_4.out.call h)
      have Hb_5 := Lib.hid (Hb_4.out.call h)
      have HB_5 := Lib.hid (below_call HB_4.out h)
      obtain ⟨a0, a1, a2⟩ := Ha_5.out.e3
      obtain ⟨b0, b1, b2⟩ := Hb_5.out.e3
      go_wp2_with fail
      refine (HKd.out _ Ha_5.out.ent Hb_5.out.ent).mono ?_
      rintro e w6 ⟨vd, rfl, hv, h⟩
      obtain ⟨pd, cd, rfl, _⟩ := hv.any.at'.shape
      clear a0 a1 a2 b0 b1 b2
      have Ha_6 := Lib.hid (Ha_5.out.call h)
      have Hb_6 := Lib.hid (Hb_5.out.call h)
      have HB_6 := Lib.hid (below_call HB_5.out h)
      clear h
      obtain ⟨w7, hw7⟩ : ∃ w', w6.alloc (.cells #[.int .u64 rd, .int .u64 td, .slice pd (Hd).length cd] 26) = w' := ⟨_, rfl⟩
      have h : Below w6.heap.size w6 w7 := hw7 ▸ below_new w6 _
      have Ha_7 := Lib.hid (Ha_6.out.call h)
      have Hb_7 := Lib.hid (Hb_6.out.call h)
      have HB_7 := Lib.hid (below_call HB_6.out h)
      clear h
      have Hd_7 := Lib.hid (InE.new hw7 hv)
      obtain ⟨a0, a1, a2⟩ := Ha_7.out.e3
      obtain ⟨b0, b1, b2⟩ := Hb_7.out.e3
      obtain ⟨d0, d1, d2⟩ := Hd_7.out.e3
      clear hv
      go_wp2_with fail
      clear hw7
      refine (KL.out _).mono ?_
      rintro e w8 ⟨rfl, h⟩
      clear a0 a1 a2 b0 b1 b2 d0 d1 d2
      have Ha_8 := Lib.hid (Ha_7.out.call h)
      have Hb_8 := Lib.hid (Hb_7.out.call h)
      have Hd_8 := Lib.hid (Hd_7.out.call h)
      have HB_8 := Lib.hid (below_call HB_7.out h)
      obtain ⟨a0, a1, a2⟩ := Ha_8.out.e3
      obtain ⟨b0, b1, b2⟩ := Hb_8.out.e3
      obtain ⟨d0, d1, d2⟩ := Hd_8.out.e3
      go_wp2_with fail
      refine (HKr.out _ Ha_8.out.ent Hb_8.out.ent).mono ?_
      rintro e w9 ⟨rfl, h⟩
      clear a0 a1 a2 b0 b1 b2 d0 d1 d2
      have Ha_9 := Lib.hid (Ha_8.out.call h)
      have Hb_9 := Lib.hid (Hb_8.out.call h)
      have Hd_9 := Lib.hid (Hd_8.out.call h)
      have HB_9 := Lib.hid (below_call HB_8.out h)
      obtain ⟨a0, a1, a2⟩ := Ha_9.out.e3
      obtain ⟨b0, b1, b2⟩ := Hb_9.out.e3
      obtain ⟨d0, d1, d2⟩ := Hd_9.out.e3
      go_wp2_with fail
      refine (HKi.out _ Ha_9.out.ent).mono ?_
      rintro e w10 ⟨rfl, h⟩
      clear a0 a1 a2 b0 b1 b2 d0 d1 d2
      have Ha_10 := Lib.hid (Ha_9.out.call h)
      have Hb_10 := Lib.hid (Hb_9.out.call h)
      have Hd_10 := Lib.hid (Hd_9.out.call h)
      have HB_10 := Lib.hid (below_call HB_9.out h)
      obtain ⟨a0, a1, a2⟩ := Ha_10.out.e3
      obtain ⟨b0, b1, b2⟩ := Hb_10.out.e3
      obtain ⟨d0, d1, d2⟩ := Hd_10.out.e3
      go_wp2_with fail
      go_ret
      exact ⟨rfl, HB_10.out⟩
set_option maxRecDepth 100000 in
set_option maxHeartbeats 4000000 in
theorem lawNext8_any (C : JoinC) (ra ma : Int) (sa : Value) (w : World) (ha : entArg8 w ma sa) :
    Calls Try.prog 6 #[.agg #[.int .u64 ra, .int .u64 ma, sa]] w (IsEnd true w) := by
  have KL := Lib.hid (alive8_any C)
  obtain ⟨pa, na, ca, rfl⟩ := ha.shape
  obtain ⟨w1, hw1⟩ : ∃ w', w.alloc (.cells #[.int .u64 ra, .int .u64 ma, .slice pa na ca] 26) = w' := ⟨_, rfl⟩
  have h : Below w.heap.size w w1 := hw1 ▸ below_new w _
  have Ea_1 : E3 w1 w.heap.size ra ma (.slice pa na ca) := hw1 ▸ E3.new w _ _ _ _ _ rfl
  have B_1 := h
  clear h
  have oa0 := Ea_1.1; have oa1 := Ea_1.2.1; have oa2 := Ea_1.2.2
  obtain ⟨w2, hw2⟩ : ∃ w', w1.alloc (.cells #[.int .u64 ra, .int .u64 ma, .slice pa na ca] 26) = w' := ⟨_, rfl⟩
  have h : Below w1.heap.size w1 w2 := hw2 ▸ below_new w1 _
  have Ea_2 := Ea_1.call h
  have B_2 := below_call B_1 h
  clear h
  have hall : ∀ i, i < 1 → okE w ((fun _ => (ra, ma, Value.slice pa na ca)) 0).1 ((fun _ => (ra, ma, Value.slice pa na ca)) i) ∨ badE w ((fun _ => (ra, ma, Value.slice pa na ca)) 0).1 ((fun _ => (ra, ma, Value.slice pa na ca)) i) := fun i hi => by
    obtain rfl : i = 0 := by omega
    · exact ha.split ra ra
  obtain ⟨rr, hok, hKR⟩ := rightsE_any 1 w1.heap.size 1 (fun _ => (ra, ma, Value.slice pa na ca)) w2 w B_2 (by omega) (hw2 ▸ list_one w1 _ _ _ _) hall
  obtain ⟨a0, a1, a2⟩ := Ea_2
  have KR := Lib.hid hKR
  have HB_2 := Lib.hid B_2
  clear hall hKR Ea_1 B_1 B_2
  have HOK := Lib.hid hok; clear hok
  have HSa := Lib.hid ha.2.1; clear ha
  have HC := Lib.hid C; clear C
  go_enter Try.func6, Try.ntmps6
  go_wp2_with fail
  clear hw1 hw2
  clear oa0 oa1 oa2
  refine KR.out.mono ?_
  rintro e w3 ⟨rfl, h⟩
  have Ea := E3.call (⟨a0, a1, a2⟩ : E3 w2 _ ra ma (.slice pa na ca)) h; clear a0 a1 a2
  have HB_3 := Lib.hid (below_call HB_2.out h); clear h
  cases rr with
  | false =>
    clear HOK HC Ea HSa
    go_wp2_with fail
    refine (KL.out _).mono ?_
    rintro e w4 ⟨rfl, h⟩
    have HB_4 := Lib.hid (below_call HB_3.out h)
    go_wp2_with fail
    go_ret
    exact ⟨rfl, HB_4.out⟩
  | true =>
    obtain ⟨hr0a, A, hea, hla⟩ := (HOK.out rfl 0 (by omega)).ent HSa.out; clear hr0a
    have Ha_3 : Hid (InE w3 _ ra ma (.slice pa na ca) A) := Lib.hid ⟨Ea, hea.call HB_3.out⟩
    obtain ⟨Ka, hKa⟩ : ∃ K, knownL ma A = K := ⟨_, rfl⟩
    have hga : GoodL Ka := hKa ▸ known_good hea.good
    have hna : Ka.length ≤ 61 := by have := known_count hea.good; rw [hKa] at this; omega
    have C := HC.out
    by_cases h0 : Ka = []
    · have hne : nextN Ka = 0 := by unfold nextN; rw [if_pos h0]
      have hnb : nextB Ka = true := by unfold nextB; simp [h0]
      have Kn : ∀ W, EntAt W (.slice pa na ca) ma A → Calls Try.prog 21 #[.agg #[.int .u64 ra, .int .u64 ma, .slice pa na ca]] W (IsNB8 0 true W) := fun W h => by
                have k := C.next ra ma A _ W h
                rw [hKa, hne, hnb] at k
                exact k
      have Kr : ∀ W, EntAt W (.slice pa na ca) ma A → Calls Try.prog 22 #[.agg #[.int .u64 ra, .int .u64 ma, .slice pa na ca]] W (IsNB8 0 true W) := fun W h => by
                have k := refNext8_any ra ma A _ W h
                rw [hKa, hne, hnb] at k
                exact k
      have Kc : ∀ W, EntAt W (.slice pa na ca) ma A → Calls Try.prog 23 #[.agg #[.int .u64 ra, .int .u64 ma, .slice pa na ca]] W (IsTE 0 0 [] false W) := fun W h => by
                have k := eCanon_any ra ma A _ W h
                rw [hKa] at k
                subst h0
                exact k.mono fun _ _ hh => by obtain ⟨v, e, hi, hb⟩ := eo_none hh; exact ⟨v, e, hi, hb⟩
      have HKn := Lib.hid Kn; clear Kn
      have HKr := Lib.hid Kr; clear Kr
      have HKc := Lib.hid Kc; clear Kc
      clear C HC HOK KR hea hga hna hla hKa Ea HSa hne hnb
      obtain ⟨a0, a1, a2⟩ := Ha_3.out.e3
      go_wp2_with fail
      refine (HKn.out _ Ha_3.out.ent).mono ?_
      rintro e w4 ⟨rfl, h⟩
      clear a0 a1 a2
      have Ha_4 := Lib.hid (Ha_3.out.call h)
      have HB_4 := Lib.hid (below_call HB_3.out h)
      obtain ⟨a0, a1, a2⟩ := Ha_4.out.e3
      go_wp2_with fail
      refine (HKr.out _ Ha_4.out.ent).mono ?_
      rintro e w5 ⟨rfl, h⟩
      clear a0 a1 a2
      have Ha_5 := Lib.hid (Ha_4.out.call h)
      have HB_5 := Lib.hid (below_call HB_4.out h)
      obtain ⟨a0, a1, a2⟩ := Ha_5.out.e3
      go_wp2_with fail
      refine (HKc.out _ Ha_5.out.ent).mono ?_
      rintro e w6 ⟨vc, rfl, hv, h⟩
      obtain ⟨pc, cc, rfl, _⟩ := hv.any.at'.shape
      clear a0 a1 a2
      have Ha_6 := Lib.hid (Ha_5.out.call h)
      have HB_6 := Lib.hid (below_call HB_5.out h)
      clear h
      obtain ⟨w7, hw7⟩ : ∃ w', w6.alloc (.cells #[.int .u64 0, .int .u64 0, .slice pc 0 cc] 26) = w' := ⟨_, rfl⟩
      have h : Below w6.heap.size w6 w7 := hw7 ▸ below_new w6 _
      have Ha_7 := Lib.hid (Ha_6.out.call h)
      have HB_7 := Lib.hid (below_call HB_6.out h)
      clear h
      have Hc_7 := Lib.hid (InE.new hw7 hv)
      obtain ⟨a0, a1, a2⟩ := Ha_7.out.e3
      obtain ⟨c0, c1, c2⟩ := Hc_7.out.e3
      clear hv
      go_wp2_with fail
      clear hw7
      refine (KL.out _).mono ?_
      rintro e w8 ⟨rfl, h⟩
      clear a0 a1 a2 c0 c1 c2
      have Ha_8 := Lib.hid (Ha_7.out.call h)
      have Hc_8 := Lib.hid (Hc_7.out.call h)
      have HB_8 := Lib.hid (below_call HB_7.out h)
      obtain ⟨a0, a1, a2⟩ := Ha_8.out.e3
      obtain ⟨c0, c1, c2⟩ := Hc_8.out.e3
      go_wp2_with fail
      go_ret
      exact ⟨rfl, HB_8.out⟩
    · have htr := top_range hga h0
      have hcn : ∀ W e W', IsEO ra Ka W e W' → IsTE ra (topL Ka) (holesL Ka) true W e W' := fun W e W' hh => by
        obtain ⟨v, e, hi, hb⟩ := eo_some hga (by omega) h0 hh
        exact ⟨v, e, hi, hb⟩
      by_cases hm : topL Ka = UM
      · have hne : nextN Ka = 0 := by unfold nextN; rw [if_neg h0, if_pos hm]
        have hnb : nextB Ka = false := by unfold nextB; simp [h0, hm]
        have Kn : ∀ W, EntAt W (.slice pa na ca) ma A → Calls Try.prog 21 #[.agg #[.int .u64 ra, .int .u64 ma, .slice pa na ca]] W (IsNB8 0 false W) := fun W h => by
                    have k := C.next ra ma A _ W h
                    rw [hKa, hne, hnb] at k
                    exact k
        have Kr : ∀ W, EntAt W (.slice pa na ca) ma A → Calls Try.prog 22 #[.agg #[.int .u64 ra, .int .u64 ma, .slice pa na ca]] W (IsNB8 0 false W) := fun W h => by
                    have k := refNext8_any ra ma A _ W h
                    rw [hKa, hne, hnb] at k
                    exact k
        have Kc : ∀ W, EntAt W (.slice pa na ca) ma A → Calls Try.prog 23 #[.agg #[.int .u64 ra, .int .u64 ma, .slice pa na ca]] W (IsTE ra (topL Ka) (holesL Ka) true W) := fun W h => by
                    have k := eCanon_any ra ma A _ W h
                    rw [hKa] at k
                    exact k.mono fun _ _ hh => hcn _ _ _ hh
        clear hcn htr h0 hm
        generalize topL Ka = tc at *
        generalize holesL Ka = Hc at *
        have HKn := Lib.hid Kn; clear Kn
        have HKr := Lib.hid Kr; clear Kr
        have HKc := Lib.hid Kc; clear Kc
        clear C HC HOK KR hea hga hna hla hKa Ea HSa hne hnb
        obtain ⟨a0, a1, a2⟩ := Ha_3.out.e3
        go_wp2_with fail
        refine (HKn.out _ Ha_3.out.ent).mono ?_
        rintro e w4 ⟨rfl, h⟩
        clear a0 a1 a2
        have Ha_4 := Lib.hid (Ha_3.out.call h)
        have HB_4 := Lib.hid (below_call HB_3.out h)
        obtain ⟨a0, a1, a2⟩ := Ha_4.out.e3
        go_wp2_with fail
        refine (HKr.out _ Ha_4.out.ent).mono ?_
        rintro e w5 ⟨rfl, h⟩
        clear a0 a1 a2
        have Ha_5 := Lib.hid (Ha_4.out.call h)
        have HB_5 := Lib.hid (below_call HB_4.out h)
        obtain ⟨a0, a1, a2⟩ := Ha_5.out.e3
        go_wp2_with fail
        refine (HKc.out _ Ha_5.out.ent).mono ?_
        rintro e w6 ⟨vc, rfl, hv, h⟩
        obtain ⟨pc, cc, rfl, _⟩ := hv.any.at'.shape
        clear a0 a1 a2
        have Ha_6 := Lib.hid (Ha_5.out.call h)
        have HB_6 := Lib.hid (below_call HB_5.out h)
        clear h
        obtain ⟨w7, hw7⟩ : ∃ w', w6.alloc (.cells #[.int .u64 ra, .int .u64 tc, .slice pc (Hc).length cc] 26) = w' := ⟨_, rfl⟩
        have h : Below w6.heap.size w6 w7 := hw7 ▸ below_new w6 _
        have Ha_7 := Lib.hid (Ha_6.out.call h)
        have HB_7 := Lib.hid (below_call HB_6.out h)
        clear h
        have Hc_7 := Lib.hid (InE.new hw7 hv)
        obtain ⟨a0, a1, a2⟩ := Ha_7.out.e3
        obtain ⟨c0, c1, c2⟩ := Hc_7.out.e3
        clear hv
        go_wp2_with fail
        clear hw7
        refine (KL.out _).mono ?_
        rintro e w8 ⟨rfl, h⟩
        clear a0 a1 a2 c0 c1 c2
        have Ha_8 := Lib.hid (Ha_7.out.call h)
        have Hc_8 := Lib.hid (Hc_7.out.call h)
        have HB_8 := Lib.hid (below_call HB_7.out h)
        obtain ⟨a0, a1, a2⟩ := Ha_8.out.e3
        obtain ⟨c0, c1, c2⟩ := Hc_8.out.e3
        go_wp2_with fail
        go_ret
        exact ⟨rfl, HB_8.out⟩
      · have hne : nextN Ka = topL Ka + 1 := by unfold nextN; rw [if_neg h0, if_neg hm]
        have hnb : nextB Ka = true := by unfold nextB; simp [hm]
        unfold UM at hm htr
        have hnx := next_holes hga h0 (by omega)
        have hsg : GoodL [(topL Ka + 1, topL Ka + 1)] := single_good (by omega) (by omega)
        have hog := orL_good hga hsg
        have hoc := or_count hga hsg
        simp only [List.length_cons, List.length_nil] at hoc
        have Kn : ∀ W, EntAt W (.slice pa na ca) ma A → Calls Try.prog 21 #[.agg #[.int .u64 ra, .int .u64 ma, .slice pa na ca]] W (IsNB8 (topL Ka + 1) true W) := fun W h => by
                    have k := C.next ra ma A _ W h
                    rw [hKa, hne, hnb] at k
                    exact k
        have Kr : ∀ W, EntAt W (.slice pa na ca) ma A → Calls Try.prog 22 #[.agg #[.int .u64 ra, .int .u64 ma, .slice pa na ca]] W (IsNB8 (topL Ka + 1) true W) := fun W h => by
                    have k := refNext8_any ra ma A _ W h
                    rw [hKa, hne, hnb] at k
                    exact k
        have Kc : ∀ W, EntAt W (.slice pa na ca) ma A → Calls Try.prog 23 #[.agg #[.int .u64 ra, .int .u64 ma, .slice pa na ca]] W (IsTE ra (topL Ka) (holesL Ka) true W) := fun W h => by
                    have k := eCanon_any ra ma A _ W h
                    rw [hKa] at k
                    exact k.mono fun _ _ hh => hcn _ _ _ hh
        have Kd : ∀ W, EntAt W (.slice pa na ca) ma A → Calls Try.prog 17 #[.agg #[.int .u64 ra, .int .u64 ma, .slice pa na ca], .int .u64 (topL Ka + 1)] W (IsAE ra (topL Ka + 1) (holesL Ka) W) := fun W h => by
                    have k := C.add ra ma A _ (topL Ka + 1) W h (by omega) (by omega)
                    rw [hKa] at k
                    have k2 := k.mono fun _ _ hh => ea_ae hog (by omega) hh
                    rw [rep_some hnx.1, hnx.2.1, hnx.2.2] at k2
                    exact k2
        have HKd := Lib.hid Kd; clear Kd
        clear hcn hnx hsg hog hoc h0
        clear htr hm
        generalize topL Ka = tc at *
        generalize holesL Ka = Hc at *
        have HKn := Lib.hid Kn; clear Kn
        have HKr := Lib.hid Kr; clear Kr
        have HKc := Lib.hid Kc; clear Kc
        clear C HC HOK KR hea hga hna hla hKa Ea HSa hne hnb
        obtain ⟨a0, a1, a2⟩ := Ha_3.out.e3
        go_wp2_with fail
        refine (HKn.out _ Ha_3.out.ent).mono ?_
        rintro e w4 ⟨rfl, h⟩
        clear a0 a1 a2
        have Ha_4 := Lib.hid (Ha_3.out.call h)
        have HB_4 := Lib.hid (below_call HB_3.out h)
        obtain ⟨a0, a1, a2⟩ := Ha_4.out.e3
        go_wp2_with fail
        refine (HKr.out _ Ha_4.out.ent).mono ?_
        rintro e w5 ⟨rfl, h⟩
        clear a0 a1 a2
        have Ha_5 := Lib.hid (Ha_4.out.call h)
        have HB_5 := Lib.hid (below_call HB_4.out h)
        obtain ⟨a0, a1, a2⟩ := Ha_5.out.e3
        go_wp2_with fail
        refine (HKc.out _ Ha_5.out.ent).mono ?_
        rintro e w6 ⟨vc, rfl, hv, h⟩
        obtain ⟨pc, cc, rfl, _⟩ := hv.any.at'.shape
        clear a0 a1 a2
        have Ha_6 := Lib.hid (Ha_5.out.call h)
        have HB_6 := Lib.hid (below_call HB_5.out h)
        clear h
        obtain ⟨w7, hw7⟩ : ∃ w', w6.alloc (.cells #[.int .u64 ra, .int .u64 tc, .slice pc (Hc).length cc] 26) = w' := ⟨_, rfl⟩
        have h : Below w6.heap.size w6 w7 := hw7 ▸ below_new w6 _
        have Ha_7 := Lib.hid (Ha_6.out.call h)
        have HB_7 := Lib.hid (below_call HB_6.out h)
        clear h
        have Hc_7 := Lib.hid (InE.new hw7 hv)
        obtain ⟨a0, a1, a2⟩ := Ha_7.out.e3
        obtain ⟨c0, c1, c2⟩ := Hc_7.out.e3
        clear hv
        go_wp2_with fail
        clear hw7
        refine (HKd.out _ Ha_7.out.ent).mono ?_
        rintro e w8 ⟨vd, rfl, hv, h⟩
        obtain ⟨pd, cd, rfl, _⟩ := hv.any.at'.shape
        clear a0 a1 a2 c0 c1 c2
        have Ha_8 := Lib.hid (Ha_7.out.call h)
        have Hc_8 := Lib.hid (Hc_7.out.call h)
        have HB_8 := Lib.hid (below_call HB_7.out h)
        clear h
        obtain ⟨w9, hw9⟩ : ∃ w', w8.alloc (.cells #[.int .u64 ra, .int .u64 (tc + 1), .slice pd (Hc).length cd] 26) = w' := ⟨_, rfl⟩
        have h : Below w8.heap.size w8 w9 := hw9 ▸ below_new w8 _
        have Ha_9 := Lib.hid (Ha_8.out.call h)
        have Hc_9 := Lib.hid (Hc_8.out.call h)
        have HB_9 := Lib.hid (below_call HB_8.out h)
        clear h
        have Hd_9 := Lib.hid (InE.new hw9 hv)
        obtain ⟨a0, a1, a2⟩ := Ha_9.out.e3
        obtain ⟨c0, c1, c2⟩ := Hc_9.out.e3
        obtain ⟨d0, d1, d2⟩ := Hd_9.out.e3
        clear hv
        go_wp2_with fail
        clear hw9
        refine (KL.out _).mono ?_
        rintro e w10 ⟨rfl, h⟩
        clear a0 a1 a2 c0 c1 c2 d0 d1 d2
        have Ha_10 := Lib.hid (Ha_9.out.call h)
        have Hc_10 := Lib.hid (Hc_9.out.call h)
        have Hd_10 := Lib.hid (Hd_9.out.call h)
        have HB_10 := Lib.hid (below_call HB_9.out h)
        obtain ⟨a0, a1, a2⟩ := Ha_10.out.e3
        obtain ⟨c0, c1, c2⟩ := Hc_10.out.e3
        obtain ⟨d0, d1, d2⟩ := Hd_10.out.e3
        go_wp2_with fail
        go_ret
        exact ⟨rfl, HB_10.out⟩
set_option maxRecDepth 100000 in
set_option maxHeartbeats 4000000 in
theorem lawAdds8_any (C : JoinC) (ra ma : Int) (sa : Value) (c : Int) (hc : 0 ≤ c ∧ c ≤ 18446744073709551615) (w : World) (ha : entArg8 w ma sa) :
    Calls Try.prog 5 #[.agg #[.int .u64 ra, .int .u64 ma, sa], .int .u64 c] w (IsEnd true w) := by
  have KL := Lib.hid (alive8_any C)
  obtain ⟨pa, na, ca, rfl⟩ := ha.shape
  obtain ⟨w1, hw1⟩ : ∃ w', w.alloc (.cells #[.int .u64 ra, .int .u64 ma, .slice pa na ca] 26) = w' := ⟨_, rfl⟩
  have h : Below w.heap.size w w1 := hw1 ▸ below_new w _
  have Ea_1 : E3 w1 w.heap.size ra ma (.slice pa na ca) := hw1 ▸ E3.new w _ _ _ _ _ rfl
  have B_1 := h
  clear h
  have oa0 := Ea_1.1; have oa1 := Ea_1.2.1; have oa2 := Ea_1.2.2
  obtain ⟨w2, hw2⟩ : ∃ w', w1.alloc (.cells #[.int .u64 ra, .int .u64 ma, .slice pa na ca] 26) = w' := ⟨_, rfl⟩
  have h : Below w1.heap.size w1 w2 := hw2 ▸ below_new w1 _
  have Ea_2 := Ea_1.call h
  have B_2 := below_call B_1 h
  clear h
  have hall : ∀ i, i < 1 → okE w ((fun _ => (ra, ma, Value.slice pa na ca)) 0).1 ((fun _ => (ra, ma, Value.slice pa na ca)) i) ∨ badE w ((fun _ => (ra, ma, Value.slice pa na ca)) 0).1 ((fun _ => (ra, ma, Value.slice pa na ca)) i) := fun i hi => by
    obtain rfl : i = 0 := by omega
    · exact ha.split ra ra
  obtain ⟨rr, hok, hKR⟩ := rightsE_any 1 w1.heap.size 1 (fun _ => (ra, ma, Value.slice pa na ca)) w2 w B_2 (by omega) (hw2 ▸ list_one w1 _ _ _ _) hall
  obtain ⟨a0, a1, a2⟩ := Ea_2
  have KR := Lib.hid hKR
  have HB_2 := Lib.hid B_2
  clear hall hKR Ea_1 B_1 B_2
  have HOK := Lib.hid hok; clear hok
  have HSa := Lib.hid ha.2.1; clear ha
  have HC := Lib.hid C; clear C
  go_enter Try.func5, Try.ntmps5
  go_wp2_with fail
  clear hw1 hw2
  clear oa0 oa1 oa2
  refine KR.out.mono ?_
  rintro e w3 ⟨rfl, h⟩
  have Ea := E3.call (⟨a0, a1, a2⟩ : E3 w2 _ ra ma (.slice pa na ca)) h; clear a0 a1 a2
  have HB_3 := Lib.hid (below_call HB_2.out h); clear h
  cases rr with
  | false =>
    clear HOK HC Ea HSa
    go_wp2_with fail
    refine (KL.out _).mono ?_
    rintro e w4 ⟨rfl, h⟩
    have HB_4 := Lib.hid (below_call HB_3.out h)
    go_wp2_with fail
    go_ret
    exact ⟨rfl, HB_4.out⟩
  | true =>
    obtain ⟨hr0a, A, hea, hla⟩ := (HOK.out rfl 0 (by omega)).ent HSa.out; clear hr0a
    have Ha_3 : Hid (InE w3 _ ra ma (.slice pa na ca) A) := Lib.hid ⟨Ea, hea.call HB_3.out⟩
    obtain ⟨Ka, hKa⟩ : ∃ K, knownL ma A = K := ⟨_, rfl⟩
    have hga : GoodL Ka := hKa ▸ known_good hea.good
    have hna : Ka.length ≤ 61 := by have := known_count hea.good; rw [hKa] at this; omega
    have C := HC.out
    have hsg : GoodL [(c, c)] := single_good hc.1 hc.2
    obtain ⟨KU, hKU⟩ : ∃ K, orL Ka [(c, c)] = K := ⟨_, rfl⟩
    have hog : GoodL KU := hKU ▸ orL_good hga hsg
    have hul : KU.length ≤ 62 := by have := or_count hga hsg; rw [hKU] at this; simp only [List.length_cons, List.length_nil] at this; omega
    have hun : KU ≠ [] := fun e => by rw [← hKU] at e; have := (or_some hga hsg).1 e; exact absurd this.2 (by simp)
    have hhas : hasE (topL KU) (holesL KU) c = true := by rw [← known_has (eo_good hog) hc.1, eo_known hog hun, ← hKU, or_has hga hsg, single_has]; simp
    obtain ⟨tu, htu⟩ : ∃ x, topL KU = x := ⟨_, rfl⟩
    obtain ⟨Hu, hHu⟩ : ∃ x, holesL KU = x := ⟨_, rfl⟩
    have hk1 := eo_known hsg (by simp)
    obtain ⟨t1, ht1⟩ : ∃ x, topL [(c, c)] = x := ⟨_, rfl⟩
    obtain ⟨H1, hH1⟩ : ∃ x, holesL [(c, c)] = x := ⟨_, rfl⟩
    rw [htu, hHu] at hhas
    rw [ht1, hH1] at hk1
    have Kd : ∀ W, EntAt W (.slice pa na ca) ma A → Calls Try.prog 17 #[.agg #[.int .u64 ra, .int .u64 ma, .slice pa na ca], .int .u64 c] W (IsAE ra tu Hu W) := fun W h => by
      have k := C.add ra ma A _ c W h hc.1 hc.2
      rw [hKa, hKU] at k
      have k2 := k.mono fun _ _ hh => ea_ae hog (by omega) hh
      rw [rep_some hun, htu, hHu] at k2
      exact k2
    have Kr : ∀ W, EntAt W (.slice pa na ca) ma A → Calls Try.prog 19 #[.agg #[.int .u64 ra, .int .u64 ma, .slice pa na ca], .int .u64 c] W (IsA ra tu Hu W) := fun W h => by
      have k := refAdd8_any ra ma A _ c W h hc.1 hc.2
      rw [hKa, hKU] at k
      have k2 := k.mono fun _ _ hh => one_a hh
      rw [rep_some hun, htu, hHu] at k2
      exact k2
    have Ko : ∀ s W, LstAt W s [(c, c)] → Calls Try.prog 18 #[.int .u64 ra, s] W (IsTE ra t1 H1 true W) := fun s W h => by
      have k := eOf_any ra [(c, c)] s W h
      have k2 := k.mono fun _ _ hh => eo_te hsg (by simp) hh
      rw [rep_some (by simp), ht1, hH1, someE_iff.2 (by simp)] at k2
      exact k2
    have Ku : ∀ s W, EntAt W (.slice pa na ca) ma A → EntAt W s t1 H1 → Calls Try.prog 10 #[.agg #[.int .u64 ra, .int .u64 ma, .slice pa na ca], .agg #[.int .u64 ra, .int .u64 t1, s]] W (IsTE ra tu Hu true W) := fun s W h h' => by
      have k := C.uni ra ma t1 A H1 _ s W h h'
      rw [hKa, hk1, hKU] at k
      have k2 := k.mono fun _ _ hh => eo_te hog (by omega) hh
      rw [rep_some hun, htu, hHu, someE_iff.2 hun] at k2
      exact k2
    have Kh : ∀ s W, EntAt W s tu Hu → Calls Try.prog 20 #[.agg #[.int .u64 ra, .int .u64 tu, s], .int .u64 c] W (IsEnd true W) := fun s W h => by
      have k := eHas_any ra tu Hu s c W h hc.1 hc.2
      rw [hhas] at k
      exact k
    have HKd := Lib.hid Kd; clear Kd
    have HKr := Lib.hid Kr; clear Kr
    have HKo := Lib.hid Ko; clear Ko
    have HKu := Lib.hid Ku; clear Ku
    have HKh := Lib.hid Kh; clear Kh
    have HSG := Lib.hid hsg
    clear C HC HOK KR hea hga hna hla hKa Ea HSa hsg hKU hog hul hun hhas htu hHu hk1 ht1 hH1
    clear Ka KU
    obtain ⟨a0, a1, a2⟩ := Ha_3.out.e3
    go_wp2_with fail
    refine (HKd.out _ Ha_3.out.ent).mono ?_
    rintro e w4 ⟨vd, rfl, hv, h⟩
    obtain ⟨pd, cd, rfl, _⟩ := hv.any.at'.shape
    clear a0 a1 a2
    have Ha_4 := Lib.hid (Ha_3.out.call h)
    have HB_4 := Lib.hid (below_call HB_3.out h)
    clear h
    obtain ⟨w5, hw5⟩ : ∃ w', w4.alloc (.cells #[.int .u64 ra, .int .u64 tu, .slice pd (Hu).length cd] 26) = w' := ⟨_, rfl⟩
    have h : Below w4.heap.size w4 w5 := hw5 ▸ below_new w4 _
    have Ha_5 := Lib.hid (Ha_4.out.call h)
    have HB_5 := Lib.hid (below_call HB_4.out h)
    clear h
    have Hd_5 := Lib.hid (InE.new hw5 hv)
    obtain ⟨a0, a1, a2⟩ := Ha_5.out.e3
    obtain ⟨d0, d1, d2⟩ := Hd_5.out.e3
    clear hv
    obtain ⟨w6, hw6⟩ : ∃ w', w5.alloc (.cells #[.int .u64 c, .int .u64 c] 36) = w' := ⟨_, rfl⟩
    have h : Below w5.heap.size w5 w6 := hw6 ▸ below_new w5 _
    have Ha_6 := Lib.hid (Ha_5.out.call h)
    have Hd_6 := Lib.hid (Hd_5.out.call h)
    have HB_6 := Lib.hid (below_call HB_5.out h)
    clear h
    obtain ⟨a0, a1, a2⟩ := Ha_6.out.e3
    obtain ⟨d0, d1, d2⟩ := Hd_6.out.e3
    have hlit : LstAt w6 (.slice (some ⟨w5.heap.size, 0, none⟩) 1 1) [(c, c)] := ⟨hw6 ▸ one_new w5 c c _, HSG.out, sane_lit _ _ _ (Nat.le_refl _), by simp⟩
    go_wp2_with fail
    clear hw5 hw6
    refine (HKo.out _ _ hlit).mono ?_
    rintro e w7 ⟨vo, rfl, hv, h⟩
    obtain ⟨po, co, rfl, _⟩ := hv.any.at'.shape
    clear a0 a1 a2 d0 d1 d2
    have Ha_7 := Lib.hid (Ha_6.out.call h)
    have Hd_7 := Lib.hid (Hd_6.out.call h)
    have HB_7 := Lib.hid (below_call HB_6.out h)
    clear h
    obtain ⟨w8, hw8⟩ : ∃ w', w7.alloc (.cells #[.int .u64 ra, .int .u64 t1, .slice po (H1).length co] 26) = w' := ⟨_, rfl⟩
    have h : Below w7.heap.size w7 w8 := hw8 ▸ below_new w7 _
    have Ha_8 := Lib.hid (Ha_7.out.call h)
    have Hd_8 := Lib.hid (Hd_7.out.call h)
    have HB_8 := Lib.hid (below_call HB_7.out h)
    clear h
    have Ho_8 := Lib.hid (InE.new hw8 hv)
    obtain ⟨a0, a1, a2⟩ := Ha_8.out.e3
    obtain ⟨d0, d1, d2⟩ := Hd_8.out.e3
    obtain ⟨o0, o1, o2⟩ := Ho_8.out.e3
    clear hv
    go_wp2_with fail
    clear hw8
    clear hlit
    refine (HKu.out _ _ Ha_8.out.ent Ho_8.out.ent).mono ?_
    rintro e w9 ⟨vu, rfl, hv, h⟩
    obtain ⟨pu, cu, rfl, _⟩ := hv.any.at'.shape
    clear a0 a1 a2 d0 d1 d2 o0 o1 o2
    have Ha_9 := Lib.hid (Ha_8.out.call h)
    have Hd_9 := Lib.hid (Hd_8.out.call h)
    have Ho_9 := Lib.hid (Ho_8.out.call h)
    have HB_9 := Lib.hid (below_call HB_8.out h)
    clear h
    obtain ⟨w10, hw10⟩ : ∃ w', w9.alloc (.cells #[.int .u64 ra, .int .u64 tu, .slice pu (Hu).length cu] 26) = w' := ⟨_, rfl⟩
    have h : Below w9.heap.size w9 w10 := hw10 ▸ below_new w9 _
    have Ha_10 := Lib.hid (Ha_9.out.call h)
    have Hd_10 := Lib.hid (Hd_9.out.call h)
    have Ho_10 := Lib.hid (Ho_9.out.call h)
    have HB_10 := Lib.hid (below_call HB_9.out h)
    clear h
    have Hu_10 := Lib.hid (InE.new hw10 hv)
    obtain ⟨a0, a1, a2⟩ := Ha_10.out.e3
    obtain ⟨d0, d1, d2⟩ := Hd_10.out.e3
    obtain ⟨o0, o1, o2⟩ := Ho_10.out.e3
    obtain ⟨u0, u1, u2⟩ := Hu_10.out.e3
    clear hv
    go_wp2_with fail
    clear hw10
    have hEa := Ha_10.out.e3; have hEd := Hd_10.out.e3; have hEu := Hu_10.out.e3
    have HS9 := Lib.hid (r9_drew ⟨Below.refl w10.heap.size w10, hEa.1, hEa.2.1, hEa.2.2, hEd.1, hEd.2.1, hEd.2.2, hEu.1, hEu.2.1, hEu.2.2⟩)
    clear hEa hEd hEu
    go_region_held3 (fun w' => Below w10.heap.size w10 w' ∧ w'.cell? ⟨w.heap.size, 0, none⟩ = some (.int .u64 ra) ∧ w'.cell? ⟨w.heap.size, 1, none⟩ = some (.int .u64 ma) ∧ w'.cell? ⟨w.heap.size, 2, none⟩ = some (.slice pa na ca) ∧ w'.cell? ⟨w4.heap.size, 0, none⟩ = some (.int .u64 ra) ∧ w'.cell? ⟨w4.heap.size, 1, none⟩ = some (.int .u64 tu) ∧ w'.cell? ⟨w4.heap.size, 2, none⟩ = some (.slice pd Hu.length cd) ∧ w'.cell? ⟨w9.heap.size, 0, none⟩ = some (.int .u64 ra) ∧ w'.cell? ⟨w9.heap.size, 1, none⟩ = some (.int .u64 tu) ∧ w'.cell? ⟨w9.heap.size, 2, none⟩ = some (.slice pu Hu.length cu))
      (first
        | exact r9_call (by assumption) (by assumption)
        | exact HS9.out
        | exact r9_drew (by assumption)
        | assumption)
      (first
        | (go_at_call 9; refine (KL.out _).mono ?_; rintro en w' ⟨rfl, h'⟩; have h' := Lib.hid h')
        | (go_at_call 19; refine (HKr.out _ (Ha_10.out.ent.call (r9_below (by assumption)))).mono ?_; rintro en w' ⟨vx, rfl, hx, h'⟩; obtain ⟨px, cx, rfl, _⟩ := hx.shape; have HX := Lib.hid hx; clear hx; have h' := Lib.hid h')
        | (go_at_call 14; (with_reducible change Calls _ _ #[.agg #[.int .u64 ra, .int .u64 tu, .slice pd Hu.length cd], .agg #[.int .u64 ra, .int .u64 tu, .slice px Hu.length cx]] _ _); refine (same_true _ _ _ _ _ _ (Hd_10.out.ent.any.at'.call (r9_below (by assumption))) HX.out).mono ?_; rintro en w' ⟨rfl, h'⟩; have h' := Lib.hid h')
        | (go_at_call 14; (with_reducible change Calls _ _ #[.agg #[.int .u64 ra, .int .u64 tu, .slice pd Hu.length cd], .agg #[.int .u64 ra, .int .u64 tu, .slice pu Hu.length cu]] _ _); refine (same_true _ _ _ _ _ _ (Hd_10.out.ent.any.at'.call (r9_below (by assumption))) (Hu_10.out.ent.any.at'.call (r9_below (by assumption)))).mono ?_; rintro en w' ⟨rfl, h'⟩; have h' := Lib.hid h')
        | (go_at_call 20; refine (HKh.out _ _ (Hd_10.out.ent.call (r9_below (by assumption)))).mono ?_; rintro en w' ⟨rfl, h'⟩; have h' := Lib.hid h'))
    all_goals
      rename_i hE
      go_wp2_with fail
      go_ret
      exact ⟨by first | rfl | simp, below_call HB_10.out hE.1⟩
end Go.Proofs.Ytnlbohaealkelaa
