/- The algebra of layer 8 in every state, out of what package join says. Conditions: the contracts of package join. -/
import Derived.Test.YtnlbohaealkelaaJAlive
import Derived.Test.YtnlbohaealkelaaNSetC
import Derived.Deep.RegionHeld3
namespace Go.Proofs.Ytnlbohaealkelaa
open Go.RowKit
set_option maxRecDepth 100000 in
set_option maxHeartbeats 4000000 in
theorem lawAlgebra8_any (C : JoinC) (ra ma rb mb rq mq : Int) (sa sb sq : Value) (w : World) (ha : entArg8 w ma sa) (hb : entArg8 w mb sb) (hq : entArg8 w mq sq) :
    Calls Try.prog 7 #[.agg #[.int .u64 ra, .int .u64 ma, sa], .agg #[.int .u64 rb, .int .u64 mb, sb], .agg #[.int .u64 rq, .int .u64 mq, sq]] w (IsEnd true w) := by
  have KL := Lib.hid (alive8_any C)
  obtain ⟨pa, na, ca, rfl⟩ := ha.shape
  obtain ⟨pb, nb, cb, rfl⟩ := hb.shape
  obtain ⟨pq, nq, cq, rfl⟩ := hq.shape
  obtain ⟨w1, hw1⟩ : ∃ w', w.alloc (.cells #[.int .u64 ra, .int .u64 ma, .slice pa na ca] 26) = w' := ⟨_, rfl⟩
  have h : Below w.heap.size w w1 := hw1 ▸ below_new w _
  have Ea_1 : E3 w1 w.heap.size ra ma (.slice pa na ca) := hw1 ▸ E3.new w _ _ _ _ _ rfl
  have B_1 := h
  clear h
  obtain ⟨w2, hw2⟩ : ∃ w', w1.alloc (.cells #[.int .u64 rb, .int .u64 mb, .slice pb nb cb] 26) = w' := ⟨_, rfl⟩
  have h : Below w1.heap.size w1 w2 := hw2 ▸ below_new w1 _
  have Ea_2 := Ea_1.call h
  have Eb_2 : E3 w2 w1.heap.size rb mb (.slice pb nb cb) := hw2 ▸ E3.new w1 _ _ _ _ _ rfl
  have B_2 := below_call B_1 h
  clear h
  obtain ⟨w3, hw3⟩ : ∃ w', w2.alloc (.cells #[.int .u64 rq, .int .u64 mq, .slice pq nq cq] 26) = w' := ⟨_, rfl⟩
  have h : Below w2.heap.size w2 w3 := hw3 ▸ below_new w2 _
  have Ea_3 := Ea_2.call h
  have Eb_3 := Eb_2.call h
  have Eq_3 : E3 w3 w2.heap.size rq mq (.slice pq nq cq) := hw3 ▸ E3.new w2 _ _ _ _ _ rfl
  have B_3 := below_call B_2 h
  clear h
  have oa0 := Ea_3.1; have oa1 := Ea_3.2.1; have oa2 := Ea_3.2.2
  have ob0 := Eb_3.1; have ob1 := Eb_3.2.1; have ob2 := Eb_3.2.2
  have oq0 := Eq_3.1; have oq1 := Eq_3.2.1; have oq2 := Eq_3.2.2
  obtain ⟨w4, hw4⟩ : ∃ w', w3.alloc (.cells #[.int .u64 ra, .int .u64 ma, .slice pa na ca, .int .u64 rb, .int .u64 mb, .slice pb nb cb, .int .u64 rq, .int .u64 mq, .slice pq nq cq] 26) = w' := ⟨_, rfl⟩
  have h : Below w3.heap.size w3 w4 := hw4 ▸ below_new w3 _
  have Ea_4 := Ea_3.call h
  have Eb_4 := Eb_3.call h
  have Eq_4 := Eq_3.call h
  have B_4 := below_call B_3 h
  clear h
  have hall : ∀ i, i < 3 → okE w ((pick3 (ra, ma, Value.slice pa na ca) (rb, mb, Value.slice pb nb cb) (rq, mq, Value.slice pq nq cq)) 0).1 ((pick3 (ra, ma, Value.slice pa na ca) (rb, mb, Value.slice pb nb cb) (rq, mq, Value.slice pq nq cq)) i) ∨ badE w ((pick3 (ra, ma, Value.slice pa na ca) (rb, mb, Value.slice pb nb cb) (rq, mq, Value.slice pq nq cq)) 0).1 ((pick3 (ra, ma, Value.slice pa na ca) (rb, mb, Value.slice pb nb cb) (rq, mq, Value.slice pq nq cq)) i) := fun i hi => by
    obtain rfl | rfl | rfl : i = 0 ∨ i = 1 ∨ i = 2 := by omega
    · exact ha.split ra ra
    · exact hb.split rb ra
    · exact hq.split rq ra
  obtain ⟨rr, hok, hKR⟩ := rightsE_any 3 w3.heap.size 3 (pick3 (ra, ma, Value.slice pa na ca) (rb, mb, Value.slice pb nb cb) (rq, mq, Value.slice pq nq cq)) w4 w B_4 (by omega) (hw4 ▸ list_three w3 (ra, ma, Value.slice pa na ca) (rb, mb, Value.slice pb nb cb) (rq, mq, Value.slice pq nq cq) _) hall
  obtain ⟨a0, a1, a2⟩ := Ea_4
  obtain ⟨b0, b1, b2⟩ := Eb_4
  obtain ⟨q0, q1, q2⟩ := Eq_4
  have KR := Lib.hid hKR
  have HB_4 := Lib.hid B_4
  clear hall hKR Ea_1 Ea_2 Ea_3 Eb_2 Eb_3 Eq_3 B_1 B_2 B_3 B_4
  have HOK := Lib.hid hok; clear hok
  have HSa := Lib.hid ha.2.1; clear ha
  have HSb := Lib.hid hb.2.1; clear hb
  have HSq := Lib.hid hq.2.1; clear hq
  have HC := Lib.hid C; clear C
  go_enter Try.func7, Try.ntmps7
  go_wp2_with fail
  clear hw1 hw2 hw3 hw4
  clear oa0 oa1 oa2 ob0 ob1 ob2 oq0 oq1 oq2
  refine KR.out.mono ?_
  rintro e w5 ⟨rfl, h⟩
  have Ea := E3.call (⟨a0, a1, a2⟩ : E3 w4 _ ra ma (.slice pa na ca)) h; clear a0 a1 a2
  have Eb := E3.call (⟨b0, b1, b2⟩ : E3 w4 _ rb mb (.slice pb nb cb)) h; clear b0 b1 b2
  have Eq := E3.call (⟨q0, q1, q2⟩ : E3 w4 _ rq mq (.slice pq nq cq)) h; clear q0 q1 q2
  have HB_5 := Lib.hid (below_call HB_4.out h); clear h
  cases rr with
  | false =>
    clear HOK HC Ea HSa Eb HSb Eq HSq
    go_wp2_with fail
    refine (KL.out _).mono ?_
    rintro e w6 ⟨rfl, h⟩
    have HB_6 := Lib.hid (below_call HB_5.out h)
    go_wp2_with fail
    go_ret
    exact ⟨rfl, HB_6.out⟩
  | true =>
    obtain ⟨hr0a, A, hea, hla⟩ := (HOK.out rfl 0 (by omega)).ent HSa.out; clear hr0a
    obtain ⟨hr0b, B, heb, hlb⟩ := (HOK.out rfl 1 (by omega)).ent HSb.out
    have hrb : rb = ra := hr0b; clear hr0b; subst rb
    obtain ⟨hr0q, Q, heq, hlq⟩ := (HOK.out rfl 2 (by omega)).ent HSq.out
    have hrq : rq = ra := hr0q; clear hr0q; subst rq
    have Ha_5 : Hid (InE w5 _ ra ma (.slice pa na ca) A) := Lib.hid ⟨Ea, hea.call HB_5.out⟩
    have Hb_5 : Hid (InE w5 _ ra mb (.slice pb nb cb) B) := Lib.hid ⟨Eb, heb.call HB_5.out⟩
    have Hq_5 : Hid (InE w5 _ ra mq (.slice pq nq cq) Q) := Lib.hid ⟨Eq, heq.call HB_5.out⟩
    obtain ⟨Ka, hKa⟩ : ∃ K, knownL ma A = K := ⟨_, rfl⟩
    have hga : GoodL Ka := hKa ▸ known_good hea.good
    have hna : Ka.length ≤ 61 := by have := known_count hea.good; rw [hKa] at this; omega
    obtain ⟨Kb, hKb⟩ : ∃ K, knownL mb B = K := ⟨_, rfl⟩
    have hgb : GoodL Kb := hKb ▸ known_good heb.good
    have hnb : Kb.length ≤ 61 := by have := known_count heb.good; rw [hKb] at this; omega
    obtain ⟨Kq, hKq⟩ : ∃ K, knownL mq Q = K := ⟨_, rfl⟩
    have hgq : GoodL Kq := hKq ▸ known_good heq.good
    have hnq : Kq.length ≤ 61 := by have := known_count heq.good; rw [hKq] at this; omega
    have C := HC.out
    obtain ⟨KI, hKI⟩ : ∃ K, orL Ka Kb = K := ⟨_, rfl⟩
    have hgI : GoodL KI := hKI ▸ orL_good hga hgb
    have hnI : KI.length ≤ 122 := by have := or_count hga hgb; rw [hKI] at this; omega
    obtain ⟨KJ, hKJ⟩ : ∃ K, orL Kb Kq = K := ⟨_, rfl⟩
    have hgJ : GoodL KJ := hKJ ▸ orL_good hgb hgq
    have hnJ : KJ.length ≤ 122 := by have := or_count hgb hgq; rw [hKJ] at this; omega
    have K1 : ∀ W, EntAt W (.slice pa na ca) ma A → EntAt W (.slice pb nb cb) mb B → Calls Try.prog 10 #[.agg #[.int .u64 ra, .int .u64 ma, .slice pa na ca], .agg #[.int .u64 ra, .int .u64 mb, .slice pb nb cb]] W (IsEO ra KI W) := fun W h h' => by
      have k := C.uni ra ma mb A B _ _ W h h'
      rw [hKa, hKb, hKI] at k
      exact k
    have K2 : ∀ W, EntAt W (.slice pb nb cb) mb B → EntAt W (.slice pq nq cq) mq Q → Calls Try.prog 10 #[.agg #[.int .u64 ra, .int .u64 mb, .slice pb nb cb], .agg #[.int .u64 ra, .int .u64 mq, .slice pq nq cq]] W (IsEO ra KJ W) := fun W h h' => by
      have k := C.uni ra mb mq B Q _ _ W h h'
      rw [hKb, hKq, hKJ] at k
      exact k
    by_cases hi : KI = []
    · have hi0 := hi
      have KI0 : ∀ W, EntAt W (.slice pa na ca) ma A → EntAt W (.slice pb nb cb) mb B → Calls Try.prog 10 #[.agg #[.int .u64 ra, .int .u64 ma, .slice pa na ca], .agg #[.int .u64 ra, .int .u64 mb, .slice pb nb cb]] W (IsTE 0 0 [] false W) := fun W h h' => by
        have k := K1 W h h'
        rw [hi] at k
        exact k.mono fun _ _ hh => by obtain ⟨v, e, hi, hb⟩ := eo_none hh; exact ⟨v, e, hi, hb⟩
      have KJ0 : ∀ W, EntAt W (.slice pb nb cb) mb B → EntAt W (.slice pq nq cq) mq Q → Calls Try.prog 10 #[.agg #[.int .u64 ra, .int .u64 mb, .slice pb nb cb], .agg #[.int .u64 ra, .int .u64 mq, .slice pq nq cq]] W (IsTE (repE ra KJ) (topL KJ) (holesL KJ) (someE KJ) W) := fun W h h' => (K2 W h h').mono fun _ _ hh => eo_te hgJ (by omega) hh
      have HKi := Lib.hid KI0; have HKj := Lib.hid KJ0; clear KI0 KJ0 hi hi0
      clear C HC HOK KR hea heb heq hga hgb hgq hna hnb hnq hla hlb hlq hKa hKb hKq Ea Eb Eq HSa HSb HSq K1 K2 hKI hKJ hgI hnI hgJ hnJ
      generalize repE ra KJ = rj at *
      generalize topL KJ = tj at *
      generalize holesL KJ = Lj at *
      generalize someE KJ = bj at *
      clear Ka Kb Kq KI KJ
      obtain ⟨a0, a1, a2⟩ := Ha_5.out.e3
      obtain ⟨b0, b1, b2⟩ := Hb_5.out.e3
      obtain ⟨q0, q1, q2⟩ := Hq_5.out.e3
      go_wp2_with fail
      refine (HKi.out _ Ha_5.out.ent Hb_5.out.ent).mono ?_
      rintro e w6 ⟨vi, rfl, hv, h⟩
      obtain ⟨pi, ci, rfl, _⟩ := hv.any.at'.shape
      clear a0 a1 a2 b0 b1 b2 q0 q1 q2
      have Ha_6 := Lib.hid (Ha_5.out.call h)
      have Hb_6 := Lib.hid (Hb_5.out.call h)
      have Hq_6 := Lib.hid (Hq_5.out.call h)
      have HB_6 := Lib.hid (below_call HB_5.out h)
      clear h
      obtain ⟨w7, hw7⟩ : ∃ w', w6.alloc (.cells #[.int .u64 0, .int .u64 0, .slice pi 0 ci] 26) = w' := ⟨_, rfl⟩
      have h : Below w6.heap.size w6 w7 := hw7 ▸ below_new w6 _
      have Ha_7 := Lib.hid (Ha_6.out.call h)
      have Hb_7 := Lib.hid (Hb_6.out.call h)
      have Hq_7 := Lib.hid (Hq_6.out.call h)
      have HB_7 := Lib.hid (below_call HB_6.out h)
      clear h
      have Hi_7 := Lib.hid (InE.new hw7 hv)
      obtain ⟨a0, a1, a2⟩ := Ha_7.out.e3
      obtain ⟨b0, b1, b2⟩ := Hb_7.out.e3
      obtain ⟨q0, q1, q2⟩ := Hq_7.out.e3
      obtain ⟨i0, i1, i2⟩ := Hi_7.out.e3
      clear hv
      go_wp2_with fail
      clear hw7
      refine (HKj.out _ Hb_7.out.ent Hq_7.out.ent).mono ?_
      rintro e w8 ⟨vj, rfl, hv, h⟩
      obtain ⟨pj, cj, rfl, _⟩ := hv.any.at'.shape
      clear a0 a1 a2 b0 b1 b2 q0 q1 q2 i0 i1 i2
      have Ha_8 := Lib.hid (Ha_7.out.call h)
      have Hb_8 := Lib.hid (Hb_7.out.call h)
      have Hq_8 := Lib.hid (Hq_7.out.call h)
      have Hi_8 := Lib.hid (Hi_7.out.call h)
      have HB_8 := Lib.hid (below_call HB_7.out h)
      clear h
      obtain ⟨w9, hw9⟩ : ∃ w', w8.alloc (.cells #[.int .u64 rj, .int .u64 tj, .slice pj (Lj).length cj] 26) = w' := ⟨_, rfl⟩
      have h : Below w8.heap.size w8 w9 := hw9 ▸ below_new w8 _
      have Ha_9 := Lib.hid (Ha_8.out.call h)
      have Hb_9 := Lib.hid (Hb_8.out.call h)
      have Hq_9 := Lib.hid (Hq_8.out.call h)
      have Hi_9 := Lib.hid (Hi_8.out.call h)
      have HB_9 := Lib.hid (below_call HB_8.out h)
      clear h
      have Hj_9 := Lib.hid (InE.new hw9 hv)
      obtain ⟨a0, a1, a2⟩ := Ha_9.out.e3
      obtain ⟨b0, b1, b2⟩ := Hb_9.out.e3
      obtain ⟨q0, q1, q2⟩ := Hq_9.out.e3
      obtain ⟨i0, i1, i2⟩ := Hi_9.out.e3
      obtain ⟨j0, j1, j2⟩ := Hj_9.out.e3
      clear hv
      go_wp2_with fail
      clear hw9
      refine (KL.out _).mono ?_
      rintro e w10 ⟨rfl, h⟩
      clear a0 a1 a2 b0 b1 b2 q0 q1 q2 i0 i1 i2 j0 j1 j2
      have Ha_10 := Lib.hid (Ha_9.out.call h)
      have Hb_10 := Lib.hid (Hb_9.out.call h)
      have Hq_10 := Lib.hid (Hq_9.out.call h)
      have Hi_10 := Lib.hid (Hi_9.out.call h)
      have Hj_10 := Lib.hid (Hj_9.out.call h)
      have HB_10 := Lib.hid (below_call HB_9.out h)
      obtain ⟨a0, a1, a2⟩ := Ha_10.out.e3
      obtain ⟨b0, b1, b2⟩ := Hb_10.out.e3
      obtain ⟨q0, q1, q2⟩ := Hq_10.out.e3
      obtain ⟨i0, i1, i2⟩ := Hi_10.out.e3
      obtain ⟨j0, j1, j2⟩ := Hj_10.out.e3
      go_wp2_with fail
      go_ret
      exact ⟨rfl, HB_10.out⟩
    · by_cases hj : KJ = []
      · have hj0 := hj
        have HKi : Hid (∀ W, EntAt W (.slice pa na ca) ma A → EntAt W (.slice pb nb cb) mb B → Calls Try.prog 10 #[.agg #[.int .u64 ra, .int .u64 ma, .slice pa na ca], .agg #[.int .u64 ra, .int .u64 mb, .slice pb nb cb]] W (IsTE ra (topL KI) (holesL KI) true W)) := Lib.hid fun W h h' => (K1 W h h').mono fun _ _ hh => by obtain ⟨v, e, hi, hb⟩ := eo_some hgI (by omega) hi hh; exact ⟨v, e, hi, hb⟩
        have HKj : Hid (∀ W, EntAt W (.slice pb nb cb) mb B → EntAt W (.slice pq nq cq) mq Q → Calls Try.prog 10 #[.agg #[.int .u64 ra, .int .u64 mb, .slice pb nb cb], .agg #[.int .u64 ra, .int .u64 mq, .slice pq nq cq]] W (IsTE 0 0 [] false W)) := Lib.hid fun W h h' => by
          have k := K2 W h h'
          rw [hj] at k
          exact k.mono fun _ _ hh => by obtain ⟨v, e, hi, hb⟩ := eo_none hh; exact ⟨v, e, hi, hb⟩
        clear hi hj hj0
        clear C HC HOK KR hea heb heq hga hgb hgq hna hnb hnq hla hlb hlq hKa hKb hKq Ea Eb Eq HSa HSb HSq K1 K2 hKI hKJ hgI hnI hgJ hnJ
        generalize topL KI = ti at *
        generalize holesL KI = Li at *
        clear Ka Kb Kq KI KJ
        obtain ⟨a0, a1, a2⟩ := Ha_5.out.e3
        obtain ⟨b0, b1, b2⟩ := Hb_5.out.e3
        obtain ⟨q0, q1, q2⟩ := Hq_5.out.e3
        go_wp2_with fail
        refine (HKi.out _ Ha_5.out.ent Hb_5.out.ent).mono ?_
        rintro e w6 ⟨vi, rfl, hv, h⟩
        obtain ⟨pi, ci, rfl, _⟩ := hv.any.at'.shape
        clear a0 a1 a2 b0 b1 b2 q0 q1 q2
        have Ha_6 := Lib.hid (Ha_5.out.call h)
        have Hb_6 := Lib.hid (Hb_5.out.call h)
        have Hq_6 := Lib.hid (Hq_5.out.call h)
        have HB_6 := Lib.hid (below_call HB_5.out h)
        clear h
        obtain ⟨w7, hw7⟩ : ∃ w', w6.alloc (.cells #[.int .u64 ra, .int .u64 ti, .slice pi (Li).length ci] 26) = w' := ⟨_, rfl⟩
        have h : Below w6.heap.size w6 w7 := hw7 ▸ below_new w6 _
        have Ha_7 := Lib.hid (Ha_6.out.call h)
        have Hb_7 := Lib.hid (Hb_6.out.call h)
        have Hq_7 := Lib.hid (Hq_6.out.call h)
        have HB_7 := Lib.hid (below_call HB_6.out h)
        clear h
        have Hi_7 := Lib.hid (InE.new hw7 hv)
        obtain ⟨a0, a1, a2⟩ := Ha_7.out.e3
        obtain ⟨b0, b1, b2⟩ := Hb_7.out.e3
        obtain ⟨q0, q1, q2⟩ := Hq_7.out.e3
        obtain ⟨i0, i1, i2⟩ := Hi_7.out.e3
        clear hv
        go_wp2_with fail
        clear hw7
        refine (HKj.out _ Hb_7.out.ent Hq_7.out.ent).mono ?_
        rintro e w8 ⟨vj, rfl, hv, h⟩
        obtain ⟨pj, cj, rfl, _⟩ := hv.any.at'.shape
        clear a0 a1 a2 b0 b1 b2 q0 q1 q2 i0 i1 i2
        have Ha_8 := Lib.hid (Ha_7.out.call h)
        have Hb_8 := Lib.hid (Hb_7.out.call h)
        have Hq_8 := Lib.hid (Hq_7.out.call h)
        have Hi_8 := Lib.hid (Hi_7.out.call h)
        have HB_8 := Lib.hid (below_call HB_7.out h)
        clear h
        obtain ⟨w9, hw9⟩ : ∃ w', w8.alloc (.cells #[.int .u64 0, .int .u64 0, .slice pj 0 cj] 26) = w' := ⟨_, rfl⟩
        have h : Below w8.heap.size w8 w9 := hw9 ▸ below_new w8 _
        have Ha_9 := Lib.hid (Ha_8.out.call h)
        have Hb_9 := Lib.hid (Hb_8.out.call h)
        have Hq_9 := Lib.hid (Hq_8.out.call h)
        have Hi_9 := Lib.hid (Hi_8.out.call h)
        have HB_9 := Lib.hid (below_call HB_8.out h)
        clear h
        have Hj_9 := Lib.hid (InE.new hw9 hv)
        obtain ⟨a0, a1, a2⟩ := Ha_9.out.e3
        obtain ⟨b0, b1, b2⟩ := Hb_9.out.e3
        obtain ⟨q0, q1, q2⟩ := Hq_9.out.e3
        obtain ⟨i0, i1, i2⟩ := Hi_9.out.e3
        obtain ⟨j0, j1, j2⟩ := Hj_9.out.e3
        clear hv
        go_wp2_with fail
        clear hw9
        refine (KL.out _).mono ?_
        rintro e w10 ⟨rfl, h⟩
        clear a0 a1 a2 b0 b1 b2 q0 q1 q2 i0 i1 i2 j0 j1 j2
        have Ha_10 := Lib.hid (Ha_9.out.call h)
        have Hb_10 := Lib.hid (Hb_9.out.call h)
        have Hq_10 := Lib.hid (Hq_9.out.call h)
        have Hi_10 := Lib.hid (Hi_9.out.call h)
        have Hj_10 := Lib.hid (Hj_9.out.call h)
        have HB_10 := Lib.hid (below_call HB_9.out h)
        obtain ⟨a0, a1, a2⟩ := Ha_10.out.e3
        obtain ⟨b0, b1, b2⟩ := Hb_10.out.e3
        obtain ⟨q0, q1, q2⟩ := Hq_10.out.e3
        obtain ⟨i0, i1, i2⟩ := Hi_10.out.e3
        obtain ⟨j0, j1, j2⟩ := Hj_10.out.e3
        go_wp2_with fail
        go_ret
        exact ⟨rfl, HB_10.out⟩
      · have hj0 := hj
        clear hj0
        have HKi : Hid (∀ W, EntAt W (.slice pa na ca) ma A → EntAt W (.slice pb nb cb) mb B → Calls Try.prog 10 #[.agg #[.int .u64 ra, .int .u64 ma, .slice pa na ca], .agg #[.int .u64 ra, .int .u64 mb, .slice pb nb cb]] W (IsTE ra (topL KI) (holesL KI) true W)) := Lib.hid fun W h h' => (K1 W h h').mono fun _ _ hh => by obtain ⟨v, e, hi, hb⟩ := eo_some hgI (by omega) hi hh; exact ⟨v, e, hi, hb⟩
        have HKj : Hid (∀ W, EntAt W (.slice pb nb cb) mb B → EntAt W (.slice pq nq cq) mq Q → Calls Try.prog 10 #[.agg #[.int .u64 ra, .int .u64 mb, .slice pb nb cb], .agg #[.int .u64 ra, .int .u64 mq, .slice pq nq cq]] W (IsTE ra (topL KJ) (holesL KJ) true W)) := Lib.hid fun W h h' => (K2 W h h').mono fun _ _ hh => by obtain ⟨v, e, hi, hb⟩ := eo_some hgJ (by omega) hj hh; exact ⟨v, e, hi, hb⟩
        obtain ⟨KX, hKX⟩ : ∃ K, orL KI Kq = K := ⟨_, rfl⟩
        have hgX : GoodL KX := hKX ▸ orL_good hgI hgq
        have hnX : KX.length ≤ 183 := by have := or_count hgI hgq; rw [hKX] at this; omega
        have hx : KX ≠ [] := fun e => by rw [← hKX] at e; exact hi ((or_some hgI hgq).1 e).1
        have hasc : orL Ka KJ = KX := by rw [← hKJ, ← hKX, ← hKI, or_assoc' hga hgb hgq]
        have hcom : orL Kb Ka = KI := by rw [← hKI, or_comm' hgb hga]
        have hkI := eo_known hgI hi; have hkJ := eo_known hgJ hj
        have HKx : Hid (∀ s W, EntAt W s (topL KI) (holesL KI) → EntAt W (.slice pq nq cq) mq Q → Calls Try.prog 10 #[.agg #[.int .u64 ra, .int .u64 (topL KI), s], .agg #[.int .u64 ra, .int .u64 mq, .slice pq nq cq]] W (IsTE ra (topL KX) (holesL KX) true W)) := Lib.hid fun s W h h' => by
          have k := C.uni ra (topL KI) mq (holesL KI) Q s _ W h h'
          rw [hkI, hKq, hKX] at k
          exact k.mono fun _ _ hh => by obtain ⟨v, e, hi, hb⟩ := eo_some hgX (by omega) hx hh; exact ⟨v, e, hi, hb⟩
        have HKy : Hid (∀ s W, EntAt W (.slice pa na ca) ma A → EntAt W s (topL KJ) (holesL KJ) → Calls Try.prog 10 #[.agg #[.int .u64 ra, .int .u64 ma, .slice pa na ca], .agg #[.int .u64 ra, .int .u64 (topL KJ), s]] W (IsTE ra (topL KX) (holesL KX) true W)) := Lib.hid fun s W h h' => by
          have k := C.uni ra ma (topL KJ) A (holesL KJ) _ s W h h'
          rw [hKa, hkJ, hasc] at k
          exact k.mono fun _ _ hh => by obtain ⟨v, e, hi, hb⟩ := eo_some hgX (by omega) hx hh; exact ⟨v, e, hi, hb⟩
        have HKz : Hid (∀ W, EntAt W (.slice pb nb cb) mb B → EntAt W (.slice pa na ca) ma A → Calls Try.prog 10 #[.agg #[.int .u64 ra, .int .u64 mb, .slice pb nb cb], .agg #[.int .u64 ra, .int .u64 ma, .slice pa na ca]] W (IsTE ra (topL KI) (holesL KI) true W)) := Lib.hid fun W h h' => by
          have k := C.uni ra mb ma B A _ _ W h h'
          rw [hKb, hKa, hcom] at k
          exact k.mono fun _ _ hh => by obtain ⟨v, e, hi, hb⟩ := eo_some hgI (by omega) hi hh; exact ⟨v, e, hi, hb⟩
        obtain ⟨KM, hKM⟩ : ∃ K, andL Ka Kb = K := ⟨_, rfl⟩
        have hgM : GoodL KM := hKM ▸ andL_good hga hgb
        have hnM : KM.length ≤ 122 := by have := and_count hga hgb; rw [hKM] at this; omega
        obtain ⟨KD, hKD⟩ : ∃ K, subL Ka Kb = K := ⟨_, rfl⟩
        have hgD : GoodL KD := hKD ▸ subL_good hga hgb
        have hnD : KD.length ≤ 122 := by have := sub_count hga hgb; rw [hKD] at this; omega
        have hpar : orL KM KD = Ka := by rw [← hKM, ← hKD]; exact parts' hga hgb
        have Km : ∀ W, EntAt W (.slice pa na ca) ma A → EntAt W (.slice pb nb cb) mb B → Calls Try.prog 11 #[.agg #[.int .u64 ra, .int .u64 ma, .slice pa na ca], .agg #[.int .u64 ra, .int .u64 mb, .slice pb nb cb]] W (IsEO ra KM W) := fun W h h' => by
          have k := C.meet ra ma mb A B _ _ W h h'
          rw [hKa, hKb, hKM] at k
          exact k
        have Kd : ∀ W, EntAt W (.slice pa na ca) ma A → EntAt W (.slice pb nb cb) mb B → Calls Try.prog 12 #[.agg #[.int .u64 ra, .int .u64 ma, .slice pa na ca], .agg #[.int .u64 ra, .int .u64 mb, .slice pb nb cb]] W (IsEO ra KD W) := fun W h h' => by
          have k := C.minus ra ma mb A B _ _ W h h'
          rw [hKa, hKb, hKD] at k
          exact k
        have Ke : ∀ W, EntAt W (.slice pa na ca) ma A → Calls Try.prog 23 #[.agg #[.int .u64 ra, .int .u64 ma, .slice pa na ca]] W (IsEO ra Ka W) := fun W h => by
          have k := eCanon_any ra ma A _ W h
          rw [hKa] at k
          exact k
        have C2 := C; clear C; have HU := Lib.hid C2.uni; clear C2
        clear hasc hcom hkI hkJ hx hgX hnX hKX hi hj HOK KR HC Ea Eb Eq HSa HSb HSq hlb hlq heb heq hKq hgq hnq hKJ hgJ hnJ hKI hgI hnI K1 K2
        generalize topL KI = ti at *
        generalize holesL KI = Li at *
        generalize topL KJ = tj at *
        generalize holesL KJ = Lj at *
        generalize topL KX = tx at *
        generalize holesL KX = Lx at *
        clear KI KJ KX Kq
        have YhKa := Lib.hid hKa; clear hKa
        have YhKb := Lib.hid hKb; clear hKb
        have YhKM := Lib.hid hKM; clear hKM
        have YhKD := Lib.hid hKD; clear hKD
        have Yhpar := Lib.hid hpar; clear hpar
        have Yhga := Lib.hid hga; clear hga
        have Yhgb := Lib.hid hgb; clear hgb
        have YhgM := Lib.hid hgM; clear hgM
        have YhgD := Lib.hid hgD; clear hgD
        have Yhna := Lib.hid hna; clear hna
        have Yhnb := Lib.hid hnb; clear hnb
        have YhnM := Lib.hid hnM; clear hnM
        have YhnD := Lib.hid hnD; clear hnD
        have YKm := Lib.hid Km; clear Km
        have YKd := Lib.hid Kd; clear Kd
        have YKe := Lib.hid Ke; clear Ke
        have Yhea := Lib.hid hea; clear hea
        have Yhla := Lib.hid hla; clear hla
        obtain ⟨a0, a1, a2⟩ := Ha_5.out.e3
        obtain ⟨b0, b1, b2⟩ := Hb_5.out.e3
        obtain ⟨q0, q1, q2⟩ := Hq_5.out.e3
        go_wp2_with fail
        refine (HKi.out _ Ha_5.out.ent Hb_5.out.ent).mono ?_
        rintro e w6 ⟨vi, rfl, hv, h⟩
        obtain ⟨pi, ci, rfl, _⟩ := hv.any.at'.shape
        clear a0 a1 a2 b0 b1 b2 q0 q1 q2
        have Ha_6 := Lib.hid (Ha_5.out.call h)
        have Hb_6 := Lib.hid (Hb_5.out.call h)
        have Hq_6 := Lib.hid (Hq_5.out.call h)
        have HB_6 := Lib.hid (below_call HB_5.out h)
        clear h
        obtain ⟨w7, hw7⟩ : ∃ w', w6.alloc (.cells #[.int .u64 ra, .int .u64 ti, .slice pi (Li).length ci] 26) = w' := ⟨_, rfl⟩
        have h : Below w6.heap.size w6 w7 := hw7 ▸ below_new w6 _
        have Ha_7 := Lib.hid (Ha_6.out.call h)
        have Hb_7 := Lib.hid (Hb_6.out.call h)
        have Hq_7 := Lib.hid (Hq_6.out.call h)
        have HB_7 := Lib.hid (below_call HB_6.out h)
        clear h
        have Hi_7 := Lib.hid (InE.new hw7 hv)
        obtain ⟨a0, a1, a2⟩ := Ha_7.out.e3
        obtain ⟨b0, b1, b2⟩ := Hb_7.out.e3
        obtain ⟨q0, q1, q2⟩ := Hq_7.out.e3
        obtain ⟨i0, i1, i2⟩ := Hi_7.out.e3
        clear hv
        go_wp2_with fail
        clear hw7
        refine (HKj.out _ Hb_7.out.ent Hq_7.out.ent).mono ?_
        rintro e w8 ⟨vj, rfl, hv, h⟩
        obtain ⟨pj, cj, rfl, _⟩ := hv.any.at'.shape
        clear a0 a1 a2 b0 b1 b2 q0 q1 q2 i0 i1 i2
        have Ha_8 := Lib.hid (Ha_7.out.call h)
        have Hb_8 := Lib.hid (Hb_7.out.call h)
        have Hq_8 := Lib.hid (Hq_7.out.call h)
        have Hi_8 := Lib.hid (Hi_7.out.call h)
        have HB_8 := Lib.hid (below_call HB_7.out h)
        clear h
        obtain ⟨w9, hw9⟩ : ∃ w', w8.alloc (.cells #[.int .u64 ra, .int .u64 tj, .slice pj (Lj).length cj] 26) = w' := ⟨_, rfl⟩
        have h : Below w8.heap.size w8 w9 := hw9 ▸ below_new w8 _
        have Ha_9 := Lib.hid (Ha_8.out.call h)
        have Hb_9 := Lib.hid (Hb_8.out.call h)
        have Hq_9 := Lib.hid (Hq_8.out.call h)
        have Hi_9 := Lib.hid (Hi_8.out.call h)
        have HB_9 := Lib.hid (below_call HB_8.out h)
        clear h
        have Hj_9 := Lib.hid (InE.new hw9 hv)
        obtain ⟨a0, a1, a2⟩ := Ha_9.out.e3
        obtain ⟨b0, b1, b2⟩ := Hb_9.out.e3
        obtain ⟨q0, q1, q2⟩ := Hq_9.out.e3
        obtain ⟨i0, i1, i2⟩ := Hi_9.out.e3
        obtain ⟨j0, j1, j2⟩ := Hj_9.out.e3
        clear hv
        go_wp2_with fail
        clear hw9
        refine (HKx.out _ _ Hi_9.out.ent Hq_9.out.ent).mono ?_
        rintro e w10 ⟨vx, rfl, hv, h⟩
        obtain ⟨px, cx, rfl, _⟩ := hv.any.at'.shape
        clear a0 a1 a2 b0 b1 b2 q0 q1 q2 i0 i1 i2 j0 j1 j2
        have Ha_10 := Lib.hid (Ha_9.out.call h)
        have Hb_10 := Lib.hid (Hb_9.out.call h)
        have Hq_10 := Lib.hid (Hq_9.out.call h)
        have Hi_10 := Lib.hid (Hi_9.out.call h)
        have Hj_10 := Lib.hid (Hj_9.out.call h)
        have HB_10 := Lib.hid (below_call HB_9.out h)
        clear h
        obtain ⟨w11, hw11⟩ : ∃ w', w10.alloc (.cells #[.int .u64 ra, .int .u64 tx, .slice px (Lx).length cx] 26) = w' := ⟨_, rfl⟩
        have h : Below w10.heap.size w10 w11 := hw11 ▸ below_new w10 _
        have Ha_11 := Lib.hid (Ha_10.out.call h)
        have Hb_11 := Lib.hid (Hb_10.out.call h)
        have Hq_11 := Lib.hid (Hq_10.out.call h)
        have Hi_11 := Lib.hid (Hi_10.out.call h)
        have Hj_11 := Lib.hid (Hj_10.out.call h)
        have HB_11 := Lib.hid (below_call HB_10.out h)
        clear h
        have Hx_11 := Lib.hid (InE.new hw11 hv)
        obtain ⟨a0, a1, a2⟩ := Ha_11.out.e3
        obtain ⟨b0, b1, b2⟩ := Hb_11.out.e3
        obtain ⟨q0, q1, q2⟩ := Hq_11.out.e3
        obtain ⟨i0, i1, i2⟩ := Hi_11.out.e3
        obtain ⟨j0, j1, j2⟩ := Hj_11.out.e3
        obtain ⟨x0, x1, x2⟩ := Hx_11.out.e3
        clear hv
        go_wp2_with fail
        clear hw11
        refine (HKy.out _ _ Ha_11.out.ent Hj_11.out.ent).mono ?_
        rintro e w12 ⟨vy, rfl, hv, h⟩
        obtain ⟨py, cy, rfl, _⟩ := hv.any.at'.shape
        clear a0 a1 a2 b0 b1 b2 q0 q1 q2 i0 i1 i2 j0 j1 j2 x0 x1 x2
        have Ha_12 := Lib.hid (Ha_11.out.call h)
        have Hb_12 := Lib.hid (Hb_11.out.call h)
        have Hq_12 := Lib.hid (Hq_11.out.call h)
        have Hi_12 := Lib.hid (Hi_11.out.call h)
        have Hj_12 := Lib.hid (Hj_11.out.call h)
        have Hx_12 := Lib.hid (Hx_11.out.call h)
        have HB_12 := Lib.hid (below_call HB_11.out h)
        clear h
        obtain ⟨w13, hw13⟩ : ∃ w', w12.alloc (.cells #[.int .u64 ra, .int .u64 tx, .slice py (Lx).length cy] 26) = w' := ⟨_, rfl⟩
        have h : Below w12.heap.size w12 w13 := hw13 ▸ below_new w12 _
        have Ha_13 := Lib.hid (Ha_12.out.call h)
        have Hb_13 := Lib.hid (Hb_12.out.call h)
        have Hq_13 := Lib.hid (Hq_12.out.call h)
        have Hi_13 := Lib.hid (Hi_12.out.call h)
        have Hj_13 := Lib.hid (Hj_12.out.call h)
        have Hx_13 := Lib.hid (Hx_12.out.call h)
        have HB_13 := Lib.hid (below_call HB_12.out h)
        clear h
        have Hy_13 := Lib.hid (InE.new hw13 hv)
        obtain ⟨a0, a1, a2⟩ := Ha_13.out.e3
        obtain ⟨b0, b1, b2⟩ := Hb_13.out.e3
        obtain ⟨q0, q1, q2⟩ := Hq_13.out.e3
        obtain ⟨i0, i1, i2⟩ := Hi_13.out.e3
        obtain ⟨j0, j1, j2⟩ := Hj_13.out.e3
        obtain ⟨x0, x1, x2⟩ := Hx_13.out.e3
        obtain ⟨y0, y1, y2⟩ := Hy_13.out.e3
        clear hv
        go_wp2_with fail
        clear hw13
        refine (HKz.out _ Hb_13.out.ent Ha_13.out.ent).mono ?_
        rintro e w14 ⟨vz, rfl, hv, h⟩
        obtain ⟨pz, cz, rfl, _⟩ := hv.any.at'.shape
        clear a0 a1 a2 b0 b1 b2 q0 q1 q2 i0 i1 i2 j0 j1 j2 x0 x1 x2 y0 y1 y2
        have Ha_14 := Lib.hid (Ha_13.out.call h)
        have Hb_14 := Lib.hid (Hb_13.out.call h)
        have Hq_14 := Lib.hid (Hq_13.out.call h)
        have Hi_14 := Lib.hid (Hi_13.out.call h)
        have Hj_14 := Lib.hid (Hj_13.out.call h)
        have Hx_14 := Lib.hid (Hx_13.out.call h)
        have Hy_14 := Lib.hid (Hy_13.out.call h)
        have HB_14 := Lib.hid (below_call HB_13.out h)
        clear h
        obtain ⟨w15, hw15⟩ : ∃ w', w14.alloc (.cells #[.int .u64 ra, .int .u64 ti, .slice pz (Li).length cz] 26) = w' := ⟨_, rfl⟩
        have h : Below w14.heap.size w14 w15 := hw15 ▸ below_new w14 _
        have Ha_15 := Lib.hid (Ha_14.out.call h)
        have Hb_15 := Lib.hid (Hb_14.out.call h)
        have Hq_15 := Lib.hid (Hq_14.out.call h)
        have Hi_15 := Lib.hid (Hi_14.out.call h)
        have Hj_15 := Lib.hid (Hj_14.out.call h)
        have Hx_15 := Lib.hid (Hx_14.out.call h)
        have Hy_15 := Lib.hid (Hy_14.out.call h)
        have HB_15 := Lib.hid (below_call HB_14.out h)
        clear h
        have Hz_15 := Lib.hid (InE.new hw15 hv)
        obtain ⟨a0, a1, a2⟩ := Ha_15.out.e3
        obtain ⟨b0, b1, b2⟩ := Hb_15.out.e3
        obtain ⟨q0, q1, q2⟩ := Hq_15.out.e3
        obtain ⟨i0, i1, i2⟩ := Hi_15.out.e3
        obtain ⟨j0, j1, j2⟩ := Hj_15.out.e3
        obtain ⟨x0, x1, x2⟩ := Hx_15.out.e3
        obtain ⟨y0, y1, y2⟩ := Hy_15.out.e3
        obtain ⟨z0, z1, z2⟩ := Hz_15.out.e3
        clear hv
        go_wp2_with fail
        clear hw15
        refine (same_true _ _ _ _ _ _ Hx_15.out.ent.any.at' Hy_15.out.ent.any.at').mono ?_
        rintro e w16 ⟨rfl, h⟩
        clear a0 a1 a2 b0 b1 b2 q0 q1 q2 i0 i1 i2 j0 j1 j2 x0 x1 x2 y0 y1 y2 z0 z1 z2
        have Ha_16 := Lib.hid (Ha_15.out.call h)
        have Hb_16 := Lib.hid (Hb_15.out.call h)
        have Hq_16 := Lib.hid (Hq_15.out.call h)
        have Hi_16 := Lib.hid (Hi_15.out.call h)
        have Hj_16 := Lib.hid (Hj_15.out.call h)
        have Hx_16 := Lib.hid (Hx_15.out.call h)
        have Hy_16 := Lib.hid (Hy_15.out.call h)
        have Hz_16 := Lib.hid (Hz_15.out.call h)
        have HB_16 := Lib.hid (below_call HB_15.out h)
        obtain ⟨a0, a1, a2⟩ := Ha_16.out.e3
        obtain ⟨b0, b1, b2⟩ := Hb_16.out.e3
        obtain ⟨q0, q1, q2⟩ := Hq_16.out.e3
        obtain ⟨i0, i1, i2⟩ := Hi_16.out.e3
        obtain ⟨j0, j1, j2⟩ := Hj_16.out.e3
        obtain ⟨x0, x1, x2⟩ := Hx_16.out.e3
        obtain ⟨y0, y1, y2⟩ := Hy_16.out.e3
        obtain ⟨z0, z1, z2⟩ := Hz_16.out.e3
        go_wp2_with fail
        refine (same_true _ _ _ _ _ _ Hi_16.out.ent.any.at' Hz_16.out.ent.any.at').mono ?_
        rintro e w17 ⟨rfl, h⟩
        clear a0 a1 a2 b0 b1 b2 q0 q1 q2 i0 i1 i2 j0 j1 j2 x0 x1 x2 y0 y1 y2 z0 z1 z2
        have Ha_17 := Lib.hid (Ha_16.out.call h)
        have Hb_17 := Lib.hid (Hb_16.out.call h)
        have Hq_17 := Lib.hid (Hq_16.out.call h)
        have Hi_17 := Lib.hid (Hi_16.out.call h)
        have Hj_17 := Lib.hid (Hj_16.out.call h)
        have Hx_17 := Lib.hid (Hx_16.out.call h)
        have Hy_17 := Lib.hid (Hy_16.out.call h)
        have Hz_17 := Lib.hid (Hz_16.out.call h)
        have HB_17 := Lib.hid (below_call HB_16.out h)
        obtain ⟨a0, a1, a2⟩ := Ha_17.out.e3
        obtain ⟨b0, b1, b2⟩ := Hb_17.out.e3
        obtain ⟨q0, q1, q2⟩ := Hq_17.out.e3
        obtain ⟨i0, i1, i2⟩ := Hi_17.out.e3
        obtain ⟨j0, j1, j2⟩ := Hj_17.out.e3
        obtain ⟨x0, x1, x2⟩ := Hx_17.out.e3
        obtain ⟨y0, y1, y2⟩ := Hy_17.out.e3
        obtain ⟨z0, z1, z2⟩ := Hz_17.out.e3
        clear a0 a1 a2 b0 b1 b2 q0 q1 q2 i0 i1 i2 j0 j1 j2 x0 x1 x2 y0 y1 y2 z0 z1 z2
        clear Hx_17 Hy_17 Hz_17 Hi_17 Hj_17 Hq_17
        obtain ⟨a0, a1, a2⟩ := Ha_17.out.e3
        obtain ⟨b0, b1, b2⟩ := Hb_17.out.e3
        go_wp2_with fail
        clear HKi HKj HKx HKy HKz
        have hKa := YhKa.out; clear YhKa
        have hKb := YhKb.out; clear YhKb
        have hKM := YhKM.out; clear YhKM
        have hKD := YhKD.out; clear YhKD
        have hpar := Yhpar.out; clear Yhpar
        have hga := Yhga.out; clear Yhga
        have hgb := Yhgb.out; clear Yhgb
        have hgM := YhgM.out; clear YhgM
        have hgD := YhgD.out; clear YhgD
        have hna := Yhna.out; clear Yhna
        have hnb := Yhnb.out; clear Yhnb
        have hnM := YhnM.out; clear YhnM
        have hnD := YhnD.out; clear YhnD
        have Km := YKm.out; clear YKm
        have Kd := YKd.out; clear YKd
        have Ke := YKe.out; clear YKe
        have hea := Yhea.out; clear Yhea
        have hla := Yhla.out; clear Yhla
        by_cases hM : KM = []
        · by_cases hD : KD = []
          · have hD0 := hD; clear hD0
            have ha : Ka = [] := by rw [hM, hD] at hpar; rw [← hpar]; exact or_nil8 good_nil
            have HKm : Hid (∀ W, EntAt W (.slice pa na ca) ma A → EntAt W (.slice pb nb cb) mb B → Calls Try.prog 11 #[.agg #[.int .u64 ra, .int .u64 ma, .slice pa na ca], .agg #[.int .u64 ra, .int .u64 mb, .slice pb nb cb]] W (IsTS 0 0 [] false W)) := Lib.hid fun W h h' => by
              have k := Km W h h'
              rw [hM] at k
              exact k.mono fun _ _ hh => eo_tn hh
            have HKd : Hid (∀ W, EntAt W (.slice pa na ca) ma A → EntAt W (.slice pb nb cb) mb B → Calls Try.prog 12 #[.agg #[.int .u64 ra, .int .u64 ma, .slice pa na ca], .agg #[.int .u64 ra, .int .u64 mb, .slice pb nb cb]] W (IsTS 0 0 [] false W)) := Lib.hid fun W h h' => by
              have k := Kd W h h'
              rw [hD] at k
              exact k.mono fun _ _ hh => eo_tn hh
            have HKe : Hid (∀ W, EntAt W (.slice pa na ca) ma A → Calls Try.prog 23 #[.agg #[.int .u64 ra, .int .u64 ma, .slice pa na ca]] W (IsTS 0 0 [] false W)) := Lib.hid fun W h => by
              have k := Ke W h
              rw [ha] at k
              exact k.mono fun _ _ hh => eo_tn hh
            clear hM hD ha hpar Km Kd Ke HU hga hgb hgM hgD hna hnb hnM hnD hKa hKb hKM hKD hea hla
            generalize topL Ka = ta at *
            generalize holesL Ka = La at *
            clear Ka Kb KM KD
            refine (HKm.out _ Ha_17.out.ent Hb_17.out.ent).mono ?_
            rintro e w18 ⟨vm, rfl, hv, hs, h⟩
            obtain ⟨pm, cm, rfl, _⟩ := hv.any.at'.shape
            have Ha_18 := Lib.hid (Ha_17.out.call h)
            have Hb_18 := Lib.hid (Hb_17.out.call h)
            have HB_18 := Lib.hid (below_call HB_17.out h)
            clear h
            obtain ⟨w19, hw19⟩ : ∃ w', w18.alloc (.cells #[.int .u64 0, .int .u64 0, .slice pm 0 cm] 26) = w' := ⟨_, rfl⟩
            have h : Below w18.heap.size w18 w19 := hw19 ▸ below_new w18 _
            have Ha_19 := Lib.hid (Ha_18.out.call h)
            have Hb_19 := Lib.hid (Hb_18.out.call h)
            have HB_19 := Lib.hid (below_call HB_18.out h)
            clear h
            have Hm_19 := Lib.hid (InS.new hw19 hv hs)
            obtain ⟨a0, a1, a2⟩ := Ha_19.out.e3
            obtain ⟨b0, b1, b2⟩ := Hb_19.out.e3
            obtain ⟨m0, m1, m2⟩ := Hm_19.out.e3
            clear hv hs
            have HF_19 := Lib.hid (Free3.new hw19)
            go_wp2_with fail
            clear hw19
            have HBd := Lib.hid HF_19.out.lt
            refine (HKd.out _ Ha_19.out.ent Hb_19.out.ent).mono ?_
            rintro e w20 ⟨vd, rfl, hv, hs, h⟩
            obtain ⟨pd, cd, rfl, _⟩ := hv.any.at'.shape
            clear a0 a1 a2 b0 b1 b2 m0 m1 m2
            have Ha_20 := Lib.hid (Ha_19.out.call h)
            have Hb_20 := Lib.hid (Hb_19.out.call h)
            have Hm_20 := Lib.hid (Hm_19.out.call h)
            have HF_20 := Lib.hid (HF_19.out.call h)
            have HB_20 := Lib.hid (below_call HB_19.out h)
            clear h
            obtain ⟨w21, hw21⟩ : ∃ w', w20.alloc (.cells #[.int .u64 0, .int .u64 0, .slice pd 0 cd] 26) = w' := ⟨_, rfl⟩
            have h : Below w20.heap.size w20 w21 := hw21 ▸ below_new w20 _
            have Ha_21 := Lib.hid (Ha_20.out.call h)
            have Hb_21 := Lib.hid (Hb_20.out.call h)
            have Hm_21 := Lib.hid (Hm_20.out.call h)
            have HF_21 := Lib.hid (HF_20.out.call h)
            have HB_21 := Lib.hid (below_call HB_20.out h)
            clear h
            have Hd_21 := Lib.hid (InS.new hw21 hv hs)
            obtain ⟨a0, a1, a2⟩ := Ha_21.out.e3
            obtain ⟨b0, b1, b2⟩ := Hb_21.out.e3
            obtain ⟨m0, m1, m2⟩ := Hm_21.out.e3
            obtain ⟨d0, d1, d2⟩ := Hd_21.out.e3
            clear hv hs
            go_wp2_with fail
            clear hw21
            have HBe := Lib.hid HF_21.out.lt
            refine (HKe.out _ Ha_21.out.ent).mono ?_
            rintro e w22 ⟨ve, rfl, hv, hs, h⟩
            obtain ⟨pe, ce, rfl, _⟩ := hv.any.at'.shape
            clear a0 a1 a2 b0 b1 b2 m0 m1 m2 d0 d1 d2
            have Ha_22 := Lib.hid (Ha_21.out.call h)
            have Hb_22 := Lib.hid (Hb_21.out.call h)
            have Hm_22 := Lib.hid (Hm_21.out.call h)
            have Hd_22 := Lib.hid (Hd_21.out.call h)
            have HF_22 := Lib.hid (HF_21.out.call h)
            have HB_22 := Lib.hid (below_call HB_21.out h)
            clear h
            obtain ⟨w23, hw23⟩ : ∃ w', w22.alloc (.cells #[.int .u64 0, .int .u64 0, .slice pe 0 ce] 26) = w' := ⟨_, rfl⟩
            have h : Below w22.heap.size w22 w23 := hw23 ▸ below_new w22 _
            have Ha_23 := Lib.hid (Ha_22.out.call h)
            have Hb_23 := Lib.hid (Hb_22.out.call h)
            have Hm_23 := Lib.hid (Hm_22.out.call h)
            have Hd_23 := Lib.hid (Hd_22.out.call h)
            have HF_23 := Lib.hid (HF_22.out.call h)
            have HB_23 := Lib.hid (below_call HB_22.out h)
            clear h
            have He_23 := Lib.hid (InS.new hw23 hv hs)
            obtain ⟨a0, a1, a2⟩ := Ha_23.out.e3
            obtain ⟨b0, b1, b2⟩ := Hb_23.out.e3
            obtain ⟨m0, m1, m2⟩ := Hm_23.out.e3
            obtain ⟨d0, d1, d2⟩ := Hd_23.out.e3
            obtain ⟨e0, e1, e2⟩ := He_23.out.e3
            clear hv hs
            go_wp2_with fail
            clear hw23
            refine (KL.out _).mono ?_
            rintro e w24 ⟨rfl, h⟩
            clear a0 a1 a2 b0 b1 b2 m0 m1 m2 d0 d1 d2 e0 e1 e2
            have Ha_24 := Lib.hid (Ha_23.out.call h)
            have Hb_24 := Lib.hid (Hb_23.out.call h)
            have Hm_24 := Lib.hid (Hm_23.out.call h)
            have Hd_24 := Lib.hid (Hd_23.out.call h)
            have He_24 := Lib.hid (He_23.out.call h)
            have HF_24 := Lib.hid (HF_23.out.call h)
            have HB_24 := Lib.hid (below_call HB_23.out h)
            obtain ⟨a0, a1, a2⟩ := Ha_24.out.e3
            obtain ⟨b0, b1, b2⟩ := Hb_24.out.e3
            obtain ⟨m0, m1, m2⟩ := Hm_24.out.e3
            obtain ⟨d0, d1, d2⟩ := Hd_24.out.e3
            obtain ⟨e0, e1, e2⟩ := He_24.out.e3
            go_wp2_with fail
            go_ret
            exact ⟨rfl, HB_24.out⟩
          · have hD0 := hD; clear hD0
            have hDa : KD = Ka := by rw [hM, or_nil8 hgD] at hpar; exact hpar
            have ha : Ka ≠ [] := hDa ▸ hD
            have HKm : Hid (∀ W, EntAt W (.slice pa na ca) ma A → EntAt W (.slice pb nb cb) mb B → Calls Try.prog 11 #[.agg #[.int .u64 ra, .int .u64 ma, .slice pa na ca], .agg #[.int .u64 ra, .int .u64 mb, .slice pb nb cb]] W (IsTS 0 0 [] false W)) := Lib.hid fun W h h' => by
              have k := Km W h h'
              rw [hM] at k
              exact k.mono fun _ _ hh => eo_tn hh
            have HKd : Hid (∀ W, EntAt W (.slice pa na ca) ma A → EntAt W (.slice pb nb cb) mb B → Calls Try.prog 12 #[.agg #[.int .u64 ra, .int .u64 ma, .slice pa na ca], .agg #[.int .u64 ra, .int .u64 mb, .slice pb nb cb]] W (IsTS ra (topL Ka) (holesL Ka) true W)) := Lib.hid fun W h h' => by
              have k := Kd W h h'
              rw [hDa] at k
              exact k.mono fun _ _ hh => eo_ts hga (by omega) ha hh
            have HKe : Hid (∀ W, EntAt W (.slice pa na ca) ma A → Calls Try.prog 23 #[.agg #[.int .u64 ra, .int .u64 ma, .slice pa na ca]] W (IsTS ra (topL Ka) (holesL Ka) true W)) := Lib.hid fun W h => by
              have k := Ke W h
              exact k.mono fun _ _ hh => eo_ts hga (by omega) ha hh
            clear hDa
            clear hM hD ha hpar Km Kd Ke HU hga hgb hgM hgD hna hnb hnM hnD hKa hKb hKM hKD hea hla
            generalize topL Ka = ta at *
            generalize holesL Ka = La at *
            clear Ka Kb KM KD
            refine (HKm.out _ Ha_17.out.ent Hb_17.out.ent).mono ?_
            rintro e w18 ⟨vm, rfl, hv, hs, h⟩
            obtain ⟨pm, cm, rfl, _⟩ := hv.any.at'.shape
            have Ha_18 := Lib.hid (Ha_17.out.call h)
            have Hb_18 := Lib.hid (Hb_17.out.call h)
            have HB_18 := Lib.hid (below_call HB_17.out h)
            clear h
            obtain ⟨w19, hw19⟩ : ∃ w', w18.alloc (.cells #[.int .u64 0, .int .u64 0, .slice pm 0 cm] 26) = w' := ⟨_, rfl⟩
            have h : Below w18.heap.size w18 w19 := hw19 ▸ below_new w18 _
            have Ha_19 := Lib.hid (Ha_18.out.call h)
            have Hb_19 := Lib.hid (Hb_18.out.call h)
            have HB_19 := Lib.hid (below_call HB_18.out h)
            clear h
            have Hm_19 := Lib.hid (InS.new hw19 hv hs)
            obtain ⟨a0, a1, a2⟩ := Ha_19.out.e3
            obtain ⟨b0, b1, b2⟩ := Hb_19.out.e3
            obtain ⟨m0, m1, m2⟩ := Hm_19.out.e3
            clear hv hs
            have HF_19 := Lib.hid (Free3.new hw19)
            go_wp2_with fail
            clear hw19
            have HBd := Lib.hid HF_19.out.lt
            refine (HKd.out _ Ha_19.out.ent Hb_19.out.ent).mono ?_
            rintro e w20 ⟨vd, rfl, hv, hs, h⟩
            obtain ⟨pd, cd, rfl, _⟩ := hv.any.at'.shape
            clear a0 a1 a2 b0 b1 b2 m0 m1 m2
            have Ha_20 := Lib.hid (Ha_19.out.call h)
            have Hb_20 := Lib.hid (Hb_19.out.call h)
            have Hm_20 := Lib.hid (Hm_19.out.call h)
            have HF_20 := Lib.hid (HF_19.out.call h)
            have HB_20 := Lib.hid (below_call HB_19.out h)
            clear h
            obtain ⟨w21, hw21⟩ : ∃ w', w20.alloc (.cells #[.int .u64 ra, .int .u64 ta, .slice pd (La).length cd] 26) = w' := ⟨_, rfl⟩
            have h : Below w20.heap.size w20 w21 := hw21 ▸ below_new w20 _
            have Ha_21 := Lib.hid (Ha_20.out.call h)
            have Hb_21 := Lib.hid (Hb_20.out.call h)
            have Hm_21 := Lib.hid (Hm_20.out.call h)
            have HF_21 := Lib.hid (HF_20.out.call h)
            have HB_21 := Lib.hid (below_call HB_20.out h)
            clear h
            have Hd_21 := Lib.hid (InS.new hw21 hv hs)
            obtain ⟨a0, a1, a2⟩ := Ha_21.out.e3
            obtain ⟨b0, b1, b2⟩ := Hb_21.out.e3
            obtain ⟨m0, m1, m2⟩ := Hm_21.out.e3
            obtain ⟨d0, d1, d2⟩ := Hd_21.out.e3
            clear hv hs
            go_wp2_with fail
            clear hw21
            have HBe := Lib.hid HF_21.out.lt
            refine (HKe.out _ Ha_21.out.ent).mono ?_
            rintro e w22 ⟨ve, rfl, hv, hs, h⟩
            obtain ⟨pe, ce, rfl, _⟩ := hv.any.at'.shape
            clear a0 a1 a2 b0 b1 b2 m0 m1 m2 d0 d1 d2
            have Ha_22 := Lib.hid (Ha_21.out.call h)
            have Hb_22 := Lib.hid (Hb_21.out.call h)
            have Hm_22 := Lib.hid (Hm_21.out.call h)
            have Hd_22 := Lib.hid (Hd_21.out.call h)
            have HF_22 := Lib.hid (HF_21.out.call h)
            have HB_22 := Lib.hid (below_call HB_21.out h)
            clear h
            obtain ⟨w23, hw23⟩ : ∃ w', w22.alloc (.cells #[.int .u64 ra, .int .u64 ta, .slice pe (La).length ce] 26) = w' := ⟨_, rfl⟩
            have h : Below w22.heap.size w22 w23 := hw23 ▸ below_new w22 _
            have Ha_23 := Lib.hid (Ha_22.out.call h)
            have Hb_23 := Lib.hid (Hb_22.out.call h)
            have Hm_23 := Lib.hid (Hm_22.out.call h)
            have Hd_23 := Lib.hid (Hd_22.out.call h)
            have HF_23 := Lib.hid (HF_22.out.call h)
            have HB_23 := Lib.hid (below_call HB_22.out h)
            clear h
            have He_23 := Lib.hid (InS.new hw23 hv hs)
            obtain ⟨a0, a1, a2⟩ := Ha_23.out.e3
            obtain ⟨b0, b1, b2⟩ := Hb_23.out.e3
            obtain ⟨m0, m1, m2⟩ := Hm_23.out.e3
            obtain ⟨d0, d1, d2⟩ := Hd_23.out.e3
            obtain ⟨e0, e1, e2⟩ := He_23.out.e3
            clear hv hs
            obtain ⟨f0, f1, f2, _⟩ := HF_23.out
            have hZe := He_23.out.kept (Nat.ne_of_gt HF_22.out.lt) HBe.out (.int .u64 ra) (.int .u64 ta) (.slice pd La.length cd)
            have hZm := InI.stored (r' := ra) (m' := ta) (s' := .slice pd La.length cd) Hm_23.out.e3 (soft_kept Hd_23.out.ent.any.at' Hd_23.out.soft HBd.out _ _ _)
            have hZB := ((HB_23.out.setCell (p := ⟨w18.heap.size, 0, none⟩) HB_18.out.size (.int .u64 ra)).setCell (p := ⟨w18.heap.size, 1, none⟩) HB_18.out.size (.int .u64 ta)).setCell (p := ⟨w18.heap.size, 2, none⟩) HB_18.out.size (.slice pd La.length cd)
            obtain ⟨w24, hw24⟩ : ∃ w', ((w23.setCell ⟨w18.heap.size, 0, none⟩ (.int .u64 ra)).setCell ⟨w18.heap.size, 1, none⟩ (.int .u64 ta)).setCell ⟨w18.heap.size, 2, none⟩ (.slice pd La.length cd) = w' := ⟨_, rfl⟩
            rw [hw24] at hZe hZm hZB
            have He_24 := Lib.hid hZe; have Hm_24 := Lib.hid hZm; have HB_24 := Lib.hid hZB; clear hZe hZm hZB
            go_wp2_with fail
            try rw [hw24]
            clear a0 a1 a2 b0 b1 b2 m0 m1 m2 d0 d1 d2 e0 e1 e2
            clear f0 f1 f2 hw23 hw24
            refine (KL.out _).mono ?_
            rintro e w25 ⟨rfl, h⟩
            have Hm_25 := Lib.hid (Hm_24.out.call h)
            have He_25 := Lib.hid (He_24.out.call h)
            have HB_25 := Lib.hid (below_call HB_24.out h)
            obtain ⟨m0, m1, m2⟩ := Hm_25.out.e3
            obtain ⟨e0, e1, e2⟩ := He_25.out.e3
            go_wp2_with fail
            refine (same_true _ _ _ _ _ _ Hm_25.out.ivs He_25.out.ivs).mono ?_
            rintro e w26 ⟨rfl, h⟩
            clear m0 m1 m2 e0 e1 e2
            have Hm_26 := Lib.hid (Hm_25.out.call h)
            have He_26 := Lib.hid (He_25.out.call h)
            have HB_26 := Lib.hid (below_call HB_25.out h)
            obtain ⟨m0, m1, m2⟩ := Hm_26.out.e3
            obtain ⟨e0, e1, e2⟩ := He_26.out.e3
            go_wp2_with fail
            go_ret
            exact ⟨rfl, HB_26.out⟩
        · by_cases hD : KD = []
          · have hD0 := hD; clear hD0
            have hMa : KM = Ka := by rw [hD, or_nil8' hgM] at hpar; exact hpar
            have ha : Ka ≠ [] := hMa ▸ hM
            have HKm : Hid (∀ W, EntAt W (.slice pa na ca) ma A → EntAt W (.slice pb nb cb) mb B → Calls Try.prog 11 #[.agg #[.int .u64 ra, .int .u64 ma, .slice pa na ca], .agg #[.int .u64 ra, .int .u64 mb, .slice pb nb cb]] W (IsTS ra (topL Ka) (holesL Ka) true W)) := Lib.hid fun W h h' => by
              have k := Km W h h'
              rw [hMa] at k
              exact k.mono fun _ _ hh => eo_ts hga (by omega) ha hh
            have HKd : Hid (∀ W, EntAt W (.slice pa na ca) ma A → EntAt W (.slice pb nb cb) mb B → Calls Try.prog 12 #[.agg #[.int .u64 ra, .int .u64 ma, .slice pa na ca], .agg #[.int .u64 ra, .int .u64 mb, .slice pb nb cb]] W (IsTS 0 0 [] false W)) := Lib.hid fun W h h' => by
              have k := Kd W h h'
              rw [hD] at k
              exact k.mono fun _ _ hh => eo_tn hh
            have HKe : Hid (∀ W, EntAt W (.slice pa na ca) ma A → Calls Try.prog 23 #[.agg #[.int .u64 ra, .int .u64 ma, .slice pa na ca]] W (IsTS ra (topL Ka) (holesL Ka) true W)) := Lib.hid fun W h => by
              have k := Ke W h
              exact k.mono fun _ _ hh => eo_ts hga (by omega) ha hh
            clear hMa
            clear hM hD ha hpar Km Kd Ke HU hga hgb hgM hgD hna hnb hnM hnD hKa hKb hKM hKD hea hla
            generalize topL Ka = ta at *
            generalize holesL Ka = La at *
            clear Ka Kb KM KD
            refine (HKm.out _ Ha_17.out.ent Hb_17.out.ent).mono ?_
            rintro e w18 ⟨vm, rfl, hv, hs, h⟩
            obtain ⟨pm, cm, rfl, _⟩ := hv.any.at'.shape
            have Ha_18 := Lib.hid (Ha_17.out.call h)
            have Hb_18 := Lib.hid (Hb_17.out.call h)
            have HB_18 := Lib.hid (below_call HB_17.out h)
            clear h
            obtain ⟨w19, hw19⟩ : ∃ w', w18.alloc (.cells #[.int .u64 ra, .int .u64 ta, .slice pm (La).length cm] 26) = w' := ⟨_, rfl⟩
            have h : Below w18.heap.size w18 w19 := hw19 ▸ below_new w18 _
            have Ha_19 := Lib.hid (Ha_18.out.call h)
            have Hb_19 := Lib.hid (Hb_18.out.call h)
            have HB_19 := Lib.hid (below_call HB_18.out h)
            clear h
            have Hm_19 := Lib.hid (InS.new hw19 hv hs)
            obtain ⟨a0, a1, a2⟩ := Ha_19.out.e3
            obtain ⟨b0, b1, b2⟩ := Hb_19.out.e3
            obtain ⟨m0, m1, m2⟩ := Hm_19.out.e3
            clear hv hs
            have HF_19 := Lib.hid (Free3.new hw19)
            go_wp2_with fail
            clear hw19
            have HBd := Lib.hid HF_19.out.lt
            refine (HKd.out _ Ha_19.out.ent Hb_19.out.ent).mono ?_
            rintro e w20 ⟨vd, rfl, hv, hs, h⟩
            obtain ⟨pd, cd, rfl, _⟩ := hv.any.at'.shape
            clear a0 a1 a2 b0 b1 b2 m0 m1 m2
            have Ha_20 := Lib.hid (Ha_19.out.call h)
            have Hb_20 := Lib.hid (Hb_19.out.call h)
            have Hm_20 := Lib.hid (Hm_19.out.call h)
            have HF_20 := Lib.hid (HF_19.out.call h)
            have HB_20 := Lib.hid (below_call HB_19.out h)
            clear h
            obtain ⟨w21, hw21⟩ : ∃ w', w20.alloc (.cells #[.int .u64 0, .int .u64 0, .slice pd 0 cd] 26) = w' := ⟨_, rfl⟩
            have h : Below w20.heap.size w20 w21 := hw21 ▸ below_new w20 _
            have Ha_21 := Lib.hid (Ha_20.out.call h)
            have Hb_21 := Lib.hid (Hb_20.out.call h)
            have Hm_21 := Lib.hid (Hm_20.out.call h)
            have HF_21 := Lib.hid (HF_20.out.call h)
            have HB_21 := Lib.hid (below_call HB_20.out h)
            clear h
            have Hd_21 := Lib.hid (InS.new hw21 hv hs)
            obtain ⟨a0, a1, a2⟩ := Ha_21.out.e3
            obtain ⟨b0, b1, b2⟩ := Hb_21.out.e3
            obtain ⟨m0, m1, m2⟩ := Hm_21.out.e3
            obtain ⟨d0, d1, d2⟩ := Hd_21.out.e3
            clear hv hs
            go_wp2_with fail
            clear hw21
            have HBe := Lib.hid HF_21.out.lt
            refine (HKe.out _ Ha_21.out.ent).mono ?_
            rintro e w22 ⟨ve, rfl, hv, hs, h⟩
            obtain ⟨pe, ce, rfl, _⟩ := hv.any.at'.shape
            clear a0 a1 a2 b0 b1 b2 m0 m1 m2 d0 d1 d2
            have Ha_22 := Lib.hid (Ha_21.out.call h)
            have Hb_22 := Lib.hid (Hb_21.out.call h)
            have Hm_22 := Lib.hid (Hm_21.out.call h)
            have Hd_22 := Lib.hid (Hd_21.out.call h)
            have HF_22 := Lib.hid (HF_21.out.call h)
            have HB_22 := Lib.hid (below_call HB_21.out h)
            clear h
            obtain ⟨w23, hw23⟩ : ∃ w', w22.alloc (.cells #[.int .u64 ra, .int .u64 ta, .slice pe (La).length ce] 26) = w' := ⟨_, rfl⟩
            have h : Below w22.heap.size w22 w23 := hw23 ▸ below_new w22 _
            have Ha_23 := Lib.hid (Ha_22.out.call h)
            have Hb_23 := Lib.hid (Hb_22.out.call h)
            have Hm_23 := Lib.hid (Hm_22.out.call h)
            have Hd_23 := Lib.hid (Hd_22.out.call h)
            have HF_23 := Lib.hid (HF_22.out.call h)
            have HB_23 := Lib.hid (below_call HB_22.out h)
            clear h
            have He_23 := Lib.hid (InS.new hw23 hv hs)
            obtain ⟨a0, a1, a2⟩ := Ha_23.out.e3
            obtain ⟨b0, b1, b2⟩ := Hb_23.out.e3
            obtain ⟨m0, m1, m2⟩ := Hm_23.out.e3
            obtain ⟨d0, d1, d2⟩ := Hd_23.out.e3
            obtain ⟨e0, e1, e2⟩ := He_23.out.e3
            clear hv hs
            go_wp2_with fail
            clear hw23
            refine (KL.out _).mono ?_
            rintro e w24 ⟨rfl, h⟩
            clear a0 a1 a2 b0 b1 b2 m0 m1 m2 d0 d1 d2 e0 e1 e2
            have Ha_24 := Lib.hid (Ha_23.out.call h)
            have Hb_24 := Lib.hid (Hb_23.out.call h)
            have Hm_24 := Lib.hid (Hm_23.out.call h)
            have Hd_24 := Lib.hid (Hd_23.out.call h)
            have He_24 := Lib.hid (He_23.out.call h)
            have HF_24 := Lib.hid (HF_23.out.call h)
            have HB_24 := Lib.hid (below_call HB_23.out h)
            obtain ⟨a0, a1, a2⟩ := Ha_24.out.e3
            obtain ⟨b0, b1, b2⟩ := Hb_24.out.e3
            obtain ⟨m0, m1, m2⟩ := Hm_24.out.e3
            obtain ⟨d0, d1, d2⟩ := Hd_24.out.e3
            obtain ⟨e0, e1, e2⟩ := He_24.out.e3
            go_wp2_with fail
            refine (same_true _ _ _ _ _ _ Hm_24.out.ent.any.at' He_24.out.ent.any.at').mono ?_
            rintro e w25 ⟨rfl, h⟩
            clear a0 a1 a2 b0 b1 b2 m0 m1 m2 d0 d1 d2 e0 e1 e2
            have Ha_25 := Lib.hid (Ha_24.out.call h)
            have Hb_25 := Lib.hid (Hb_24.out.call h)
            have Hm_25 := Lib.hid (Hm_24.out.call h)
            have Hd_25 := Lib.hid (Hd_24.out.call h)
            have He_25 := Lib.hid (He_24.out.call h)
            have HF_25 := Lib.hid (HF_24.out.call h)
            have HB_25 := Lib.hid (below_call HB_24.out h)
            obtain ⟨a0, a1, a2⟩ := Ha_25.out.e3
            obtain ⟨b0, b1, b2⟩ := Hb_25.out.e3
            obtain ⟨m0, m1, m2⟩ := Hm_25.out.e3
            obtain ⟨d0, d1, d2⟩ := Hd_25.out.e3
            obtain ⟨e0, e1, e2⟩ := He_25.out.e3
            go_wp2_with fail
            go_ret
            exact ⟨rfl, HB_25.out⟩
          · have hD0 := hD; clear hD0
            have ha : Ka ≠ [] := fun e => by rw [e] at hpar; exact hM ((or_some hgM hgD).1 hpar).1
            have HKm : Hid (∀ W, EntAt W (.slice pa na ca) ma A → EntAt W (.slice pb nb cb) mb B → Calls Try.prog 11 #[.agg #[.int .u64 ra, .int .u64 ma, .slice pa na ca], .agg #[.int .u64 ra, .int .u64 mb, .slice pb nb cb]] W (IsTS ra (topL KM) (holesL KM) true W)) := Lib.hid fun W h h' => by
              have k := Km W h h'
              exact k.mono fun _ _ hh => eo_ts hgM (by omega) hM hh
            have HKd : Hid (∀ W, EntAt W (.slice pa na ca) ma A → EntAt W (.slice pb nb cb) mb B → Calls Try.prog 12 #[.agg #[.int .u64 ra, .int .u64 ma, .slice pa na ca], .agg #[.int .u64 ra, .int .u64 mb, .slice pb nb cb]] W (IsTS ra (topL KD) (holesL KD) true W)) := Lib.hid fun W h h' => by
              have k := Kd W h h'
              exact k.mono fun _ _ hh => eo_ts hgD (by omega) hD hh
            have HKe : Hid (∀ W, EntAt W (.slice pa na ca) ma A → Calls Try.prog 23 #[.agg #[.int .u64 ra, .int .u64 ma, .slice pa na ca]] W (IsTS ra (topL Ka) (holesL Ka) true W)) := Lib.hid fun W h => by
              have k := Ke W h
              exact k.mono fun _ _ hh => eo_ts hga (by omega) ha hh
            have hkM := eo_known hgM hM; have hkD := eo_known hgD hD
            have HKw : Hid (∀ s s' W, EntAt W s (topL KM) (holesL KM) → EntAt W s' (topL KD) (holesL KD) → Calls Try.prog 10 #[.agg #[.int .u64 ra, .int .u64 (topL KM), s], .agg #[.int .u64 ra, .int .u64 (topL KD), s']] W (IsTS ra (topL Ka) (holesL Ka) true W)) := Lib.hid fun s s' W h h' => by
              have k := HU.out ra (topL KM) (topL KD) (holesL KM) (holesL KD) s s' W h h'
              rw [hkM, hkD, hpar] at k
              exact k.mono fun _ _ hh => eo_ts hga (by omega) ha hh
            clear hkM hkD
            clear hM hD ha hpar Km Kd Ke HU hga hgb hgM hgD hna hnb hnM hnD hKa hKb hKM hKD hea hla
            generalize topL Ka = ta at *
            generalize holesL Ka = La at *
            generalize topL KM = tm at *
            generalize holesL KM = Lm at *
            generalize topL KD = td at *
            generalize holesL KD = Ld at *
            clear Ka Kb KM KD
            refine (HKm.out _ Ha_17.out.ent Hb_17.out.ent).mono ?_
            rintro e w18 ⟨vm, rfl, hv, hs, h⟩
            obtain ⟨pm, cm, rfl, _⟩ := hv.any.at'.shape
            have Ha_18 := Lib.hid (Ha_17.out.call h)
            have Hb_18 := Lib.hid (Hb_17.out.call h)
            have HB_18 := Lib.hid (below_call HB_17.out h)
            clear h
            obtain ⟨w19, hw19⟩ : ∃ w', w18.alloc (.cells #[.int .u64 ra, .int .u64 tm, .slice pm (Lm).length cm] 26) = w' := ⟨_, rfl⟩
            have h : Below w18.heap.size w18 w19 := hw19 ▸ below_new w18 _
            have Ha_19 := Lib.hid (Ha_18.out.call h)
            have Hb_19 := Lib.hid (Hb_18.out.call h)
            have HB_19 := Lib.hid (below_call HB_18.out h)
            clear h
            have Hm_19 := Lib.hid (InS.new hw19 hv hs)
            obtain ⟨a0, a1, a2⟩ := Ha_19.out.e3
            obtain ⟨b0, b1, b2⟩ := Hb_19.out.e3
            obtain ⟨m0, m1, m2⟩ := Hm_19.out.e3
            clear hv hs
            have HF_19 := Lib.hid (Free3.new hw19)
            go_wp2_with fail
            clear hw19
            have HBd := Lib.hid HF_19.out.lt
            refine (HKd.out _ Ha_19.out.ent Hb_19.out.ent).mono ?_
            rintro e w20 ⟨vd, rfl, hv, hs, h⟩
            obtain ⟨pd, cd, rfl, _⟩ := hv.any.at'.shape
            clear a0 a1 a2 b0 b1 b2 m0 m1 m2
            have Ha_20 := Lib.hid (Ha_19.out.call h)
            have Hb_20 := Lib.hid (Hb_19.out.call h)
            have Hm_20 := Lib.hid (Hm_19.out.call h)
            have HF_20 := Lib.hid (HF_19.out.call h)
            have HB_20 := Lib.hid (below_call HB_19.out h)
            clear h
            obtain ⟨w21, hw21⟩ : ∃ w', w20.alloc (.cells #[.int .u64 ra, .int .u64 td, .slice pd (Ld).length cd] 26) = w' := ⟨_, rfl⟩
            have h : Below w20.heap.size w20 w21 := hw21 ▸ below_new w20 _
            have Ha_21 := Lib.hid (Ha_20.out.call h)
            have Hb_21 := Lib.hid (Hb_20.out.call h)
            have Hm_21 := Lib.hid (Hm_20.out.call h)
            have HF_21 := Lib.hid (HF_20.out.call h)
            have HB_21 := Lib.hid (below_call HB_20.out h)
            clear h
            have Hd_21 := Lib.hid (InS.new hw21 hv hs)
            obtain ⟨a0, a1, a2⟩ := Ha_21.out.e3
            obtain ⟨b0, b1, b2⟩ := Hb_21.out.e3
            obtain ⟨m0, m1, m2⟩ := Hm_21.out.e3
            obtain ⟨d0, d1, d2⟩ := Hd_21.out.e3
            clear hv hs
            go_wp2_with fail
            clear hw21
            have HBe := Lib.hid HF_21.out.lt
            refine (HKe.out _ Ha_21.out.ent).mono ?_
            rintro e w22 ⟨ve, rfl, hv, hs, h⟩
            obtain ⟨pe, ce, rfl, _⟩ := hv.any.at'.shape
            clear a0 a1 a2 b0 b1 b2 m0 m1 m2 d0 d1 d2
            have Ha_22 := Lib.hid (Ha_21.out.call h)
            have Hb_22 := Lib.hid (Hb_21.out.call h)
            have Hm_22 := Lib.hid (Hm_21.out.call h)
            have Hd_22 := Lib.hid (Hd_21.out.call h)
            have HF_22 := Lib.hid (HF_21.out.call h)
            have HB_22 := Lib.hid (below_call HB_21.out h)
            clear h
            obtain ⟨w23, hw23⟩ : ∃ w', w22.alloc (.cells #[.int .u64 ra, .int .u64 ta, .slice pe (La).length ce] 26) = w' := ⟨_, rfl⟩
            have h : Below w22.heap.size w22 w23 := hw23 ▸ below_new w22 _
            have Ha_23 := Lib.hid (Ha_22.out.call h)
            have Hb_23 := Lib.hid (Hb_22.out.call h)
            have Hm_23 := Lib.hid (Hm_22.out.call h)
            have Hd_23 := Lib.hid (Hd_22.out.call h)
            have HF_23 := Lib.hid (HF_22.out.call h)
            have HB_23 := Lib.hid (below_call HB_22.out h)
            clear h
            have He_23 := Lib.hid (InS.new hw23 hv hs)
            obtain ⟨a0, a1, a2⟩ := Ha_23.out.e3
            obtain ⟨b0, b1, b2⟩ := Hb_23.out.e3
            obtain ⟨m0, m1, m2⟩ := Hm_23.out.e3
            obtain ⟨d0, d1, d2⟩ := Hd_23.out.e3
            obtain ⟨e0, e1, e2⟩ := He_23.out.e3
            clear hv hs
            go_wp2_with fail
            clear hw23
            have HBw := Lib.hid HF_23.out.lt
            refine (HKw.out _ _ _ Hm_23.out.ent Hd_23.out.ent).mono ?_
            rintro e w24 ⟨vv, rfl, hv, hs, h⟩
            obtain ⟨pv, cv, rfl, _⟩ := hv.any.at'.shape
            clear a0 a1 a2 b0 b1 b2 m0 m1 m2 d0 d1 d2 e0 e1 e2
            have Ha_24 := Lib.hid (Ha_23.out.call h)
            have Hb_24 := Lib.hid (Hb_23.out.call h)
            have Hm_24 := Lib.hid (Hm_23.out.call h)
            have Hd_24 := Lib.hid (Hd_23.out.call h)
            have He_24 := Lib.hid (He_23.out.call h)
            have HF_24 := Lib.hid (HF_23.out.call h)
            have HB_24 := Lib.hid (below_call HB_23.out h)
            obtain ⟨a0, a1, a2⟩ := Ha_24.out.e3
            obtain ⟨b0, b1, b2⟩ := Hb_24.out.e3
            obtain ⟨m0, m1, m2⟩ := Hm_24.out.e3
            obtain ⟨d0, d1, d2⟩ := Hd_24.out.e3
            obtain ⟨e0, e1, e2⟩ := He_24.out.e3
            clear h
            obtain ⟨f0, f1, f2, _⟩ := HF_24.out
            have hZe := He_24.out.kept (Nat.ne_of_gt HF_22.out.lt) HBe.out (.int .u64 ra) (.int .u64 ta) (.slice pv La.length cv)
            have hZm := InI.stored (r' := ra) (m' := ta) (s' := .slice pv La.length cv) Hm_24.out.e3 (soft_kept hv.any.at' hs HBw.out _ _ _)
            have hZB := ((HB_24.out.setCell (p := ⟨w18.heap.size, 0, none⟩) HB_18.out.size (.int .u64 ra)).setCell (p := ⟨w18.heap.size, 1, none⟩) HB_18.out.size (.int .u64 ta)).setCell (p := ⟨w18.heap.size, 2, none⟩) HB_18.out.size (.slice pv La.length cv)
            obtain ⟨w25, hw25⟩ : ∃ w', ((w24.setCell ⟨w18.heap.size, 0, none⟩ (.int .u64 ra)).setCell ⟨w18.heap.size, 1, none⟩ (.int .u64 ta)).setCell ⟨w18.heap.size, 2, none⟩ (.slice pv La.length cv) = w' := ⟨_, rfl⟩
            rw [hw25] at hZe hZm hZB
            have He_25 := Lib.hid hZe; have Hm_25 := Lib.hid hZm; have HB_25 := Lib.hid hZB; clear hZe hZm hZB
            go_wp2_with fail
            try rw [hw25]
            clear a0 a1 a2 b0 b1 b2 m0 m1 m2 d0 d1 d2 e0 e1 e2
            clear f0 f1 f2 hw25
            refine (KL.out _).mono ?_
            rintro e w26 ⟨rfl, h⟩
            have Hm_26 := Lib.hid (Hm_25.out.call h)
            have He_26 := Lib.hid (He_25.out.call h)
            have HB_26 := Lib.hid (below_call HB_25.out h)
            obtain ⟨m0, m1, m2⟩ := Hm_26.out.e3
            obtain ⟨e0, e1, e2⟩ := He_26.out.e3
            go_wp2_with fail
            refine (same_true _ _ _ _ _ _ Hm_26.out.ivs He_26.out.ivs).mono ?_
            rintro e w27 ⟨rfl, h⟩
            clear m0 m1 m2 e0 e1 e2
            have Hm_27 := Lib.hid (Hm_26.out.call h)
            have He_27 := Lib.hid (He_26.out.call h)
            have HB_27 := Lib.hid (below_call HB_26.out h)
            obtain ⟨m0, m1, m2⟩ := Hm_27.out.e3
            obtain ⟨e0, e1, e2⟩ := He_27.out.e3
            go_wp2_with fail
            go_ret
            exact ⟨rfl, HB_27.out⟩
end Go.Proofs.Ytnlbohaealkelaa
