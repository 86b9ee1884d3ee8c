/- The law MeasureParts in every state, out of what package measure says. Conditions: the contracts of package measure. -/
import Derived.Test.YtnihmmhmndgagaaMSplits
import Derived.Test.YtnihmmhmndgagaaCells
namespace Go.Proofs.Ytnihmmhmndgagaa
open Go.RowKit
/-- A list whose numbers may be written, its block from B up to T. -/
def NumL (w : World) (B T : Nat) (v : Value) (n : Nat) : Prop :=
  ∃ p cap, v = .slice p n cap ∧ n ≤ maxLen ∧ (0 < n → ∃ g o, p = some ⟨g, o, none⟩ ∧ B ≤ g ∧ g < T ∧ ∀ i, i < n →
    ((∃ z : Int, w.cell? ⟨g, o + i * 2, none⟩ = some (.int .u64 z)) ∧ w.frozen? ⟨g, o + i * 2, none⟩ = false) ∧ (∃ z : Int, w.cell? ⟨g, o + i * 2 + 1, none⟩ = some (.int .u64 z)) ∧ w.frozen? ⟨g, o + i * 2 + 1, none⟩ = false)
theorem SoftL.num {w : World} {B : Nat} {v : Value} {n : Nat} (h : SoftL w B v n) : NumL w B w.heap.size v n := by
  obtain ⟨p, cap, h1, h2, h3⟩ := h
  refine ⟨p, cap, h1, h2, fun hn => ?_⟩
  obtain ⟨g, o, h4, h5, h6⟩ := h3 hn
  obtain ⟨⟨⟨z, hz⟩, _⟩, _⟩ := h6 0 hn
  exact ⟨g, o, h4, h5, World.block_lt_of_cell? w _ hz, h6⟩
theorem NumL.call {w w' : World} {B T : Nat} {v : Value} {n : Nat} (h : NumL w B T v n) (hT : T ≤ w.heap.size) (hb : Below w.heap.size w w') : NumL w' B T v n := by
  obtain ⟨p, cap, h1, h2, h3⟩ := h
  refine ⟨p, cap, h1, h2, fun hn => ?_⟩
  obtain ⟨g, o, h4, h5, h6, h7⟩ := h3 hn
  refine ⟨g, o, h4, h5, h6, fun i hi => ?_⟩
  obtain ⟨⟨⟨z, hz⟩, hf⟩, ⟨y, hy⟩, hg⟩ := h7 i hi
  exact ⟨⟨⟨z, keep_cell hz hb⟩, keep_free hf (by show g < _; omega) hb⟩, ⟨y, keep_cell hy hb⟩, keep_free hg (by show g < _; omega) hb⟩
theorem num_set {w : World} {g g' j j' : Nat} {z : Int} (h : ∃ y : Int, w.cell? ⟨g', j', none⟩ = some (.int .u64 y)) : ∃ y : Int, (w.setCell ⟨g, j, none⟩ (.int .u64 z)).cell? ⟨g', j', none⟩ = some (.int .u64 y) := by
  obtain ⟨y, hy⟩ := h
  by_cases he : g' = g ∧ j' = j
  · obtain ⟨rfl, rfl⟩ := he
    exact ⟨z, by rw [World.cell?_setCell_same' _ _ _ (by rw [hy]; rfl)]⟩
  · exact ⟨y, by rw [World.cell?_setCell_other _ _ _ _ (by intro e2; injection e2 with e3 e4; exact he ⟨e3.symm, e4.symm⟩)]; exact hy⟩
theorem NumL.set {w : World} {B T : Nat} {v : Value} {n : Nat} (h : NumL w B T v n) (g j : Nat) (z : Int) : NumL (w.setCell ⟨g, j, none⟩ (.int .u64 z)) B T v n := by
  obtain ⟨p, cap, h1, h2, h3⟩ := h
  refine ⟨p, cap, h1, h2, fun hn => ?_⟩
  obtain ⟨g', o, h4, h5, h6, h7⟩ := h3 hn
  refine ⟨g', o, h4, h5, h6, fun i hi => ?_⟩
  obtain ⟨⟨hz, hf⟩, hy, hg⟩ := h7 i hi
  exact ⟨⟨num_set hz, by rw [World.frozen?_setCell]; exact hf⟩, num_set hy, by rw [World.frozen?_setCell]; exact hg⟩
/-- What the law's loops keep: what lay before the parts, the parts' numbers, the box of the sum. -/
structure LoopE (w2 : World) (T Z : Nat) (va vb : Value) (na nb : Nat) (q r : Int) (W : World) : Prop where
  low : Below w2.heap.size w2 W
  a : NumL W w2.heap.size T va na
  b : NumL W w2.heap.size T vb nb
  z0 : W.cell? ⟨Z, 0, none⟩ = some (.int .u64 q)
  z1 : W.cell? ⟨Z, 1, none⟩ = some (.int .u64 r)
theorem LoopE.set {w2 : World} {T Z : Nat} {va vb : Value} {na nb : Nat} {q r : Int} {W : World} (h : LoopE w2 T Z va vb na nb q r W) (hT : T ≤ Z) {g : Nat} (h1 : w2.heap.size ≤ g) (h2 : g < T) (j : Nat) (z : Int) :
    LoopE w2 T Z va vb na nb q r (W.setCell ⟨g, j, none⟩ (.int .u64 z)) := by
  have ne : ∀ k, (⟨Z, k, none⟩ : Addr) ≠ ⟨g, j, none⟩ := fun k e => by injection e with e1 _; omega
  refine ⟨below_set h.low h1 _ _, h.a.set g j z, h.b.set g j z, ?_, ?_⟩
  · rw [World.cell?_setCell_other _ _ _ _ (ne 0).symm]; exact h.z0
  · rw [World.cell?_setCell_other _ _ _ _ (ne 1).symm]; exact h.z1
theorem cmp_pos {q r x : Int} (hr : 0 ≤ r) (hx : 0 ≤ x) (hq : 0 ≤ q) (hr2 : r ≤ 18446744073709551615) (hx2 : x ≤ 18446744073709551615) : decide ((0 : Int) < w_cmpC q r 0 x) = decide (x < q * 18446744073709551616 + r) := by
  unfold w_cmpC w_orI w_cmpI
  rw [Bool.eq_iff_iff]
  simp only [decide_eq_true_eq]
  repeat' split
  all_goals omega
theorem last_first {A B : List Iv} (h : ∀ y ∈ A, ∀ z ∈ B, y.2 < z.1) (ha : someB A = true) (hb : someB B = true) : lastV A < firstV B := by
  unfold someB at ha hb
  cases B with
  | nil => cases hb
  | cons z B =>
    cases hA : A.getLast? with
    | none => rw [List.getLast?_eq_none_iff.1 hA] at ha; cases ha
    | some y =>
      have := h y (List.mem_of_getLast? hA) z (by simp)
      unfold lastV firstV
      rw [hA]
      exact this
theorem some_iff (l : List Iv) : someB l = decide (l ≠ []) := by cases l <;> rfl
set_option maxRecDepth 100000 in
set_option maxHeartbeats 16000000 in
theorem lawParts6_any (C : MeasC) (s : Value) (x : Int) (hx0 : 0 ≤ x) (hx1 : x ≤ 18446744073709551615) (w : World) (hsv : SaneS s) (ha : okArg w s ∨ badArg w s) : Calls Try.prog 7 #[s, .int .u64 x] w (IsEnd true w) := by
  rcases ha with ha | ha
  · obtain ⟨l, ho, hl⟩ := ha.op
    clear ha
    obtain ⟨p, cap, rfl, _⟩ := ho.at'.shape
    have HO := Lib.hid ho; clear ho
    have HB : Hid (Below w.heap.size w w) := Lib.hid (Below.refl _ _)
    have KR := Lib.hid right6_ok
    have KA := Lib.hid (fun W => alive6_any C W)
    have HC := Lib.hid C; clear C
    have GA := splitA_good HO.out.good x
    have GB := splitB_good HO.out.good x
    have LA := splitA_len l x
    have LB := splitB_len l x
    have hcnt := split_cnt HO.out.good x
    have hap := split_apart (l := l) x
    have hsome := splitB_some HO.out.good hx0
    have mA := cnt_max GA
    have mB := cnt_max GB
    have mL := cnt_max HO.out.good
    have hUM : UM = 18446744073709551615 := rfl
    have KSp := Lib.hid (fun s W h h2 => HC.out.split l s x W h h2 hl hx0 hx1)
    generalize splitA l x = A at *
    generalize splitB l x = B at *
    obtain ⟨qa, hqa⟩ : ∃ t, cntL A / 18446744073709551616 = t := ⟨_, rfl⟩
    obtain ⟨ra, hra⟩ : ∃ t, cntL A % 18446744073709551616 = t := ⟨_, rfl⟩
    obtain ⟨qb, hqb⟩ : ∃ t, cntL B / 18446744073709551616 = t := ⟨_, rfl⟩
    obtain ⟨rb, hrb⟩ : ∃ t, cntL B % 18446744073709551616 = t := ⟨_, rfl⟩
    obtain ⟨q, hq⟩ : ∃ t, cntL l / 18446744073709551616 = t := ⟨_, rfl⟩
    obtain ⟨r, hr⟩ : ∃ t, cntL l % 18446744073709551616 = t := ⟨_, rfl⟩
    have KCa : Hid (∀ s W, OpAt W s A → Calls Try.prog 12 #[s] W (fun e w' => e = .returned (.agg #[.int .u64 qa, .int .u64 ra]) ∧ Below W.heap.size W w')) := Lib.hid fun s W h => by
      have k := HC.out.count A s W h
      unfold IsC at k
      rwa [hqa, hra] at k
    have KCb : Hid (∀ s W, OpAt W s B → Calls Try.prog 12 #[s] W (fun e w' => e = .returned (.agg #[.int .u64 qb, .int .u64 rb]) ∧ Below W.heap.size W w')) := Lib.hid fun s W h => by
      have k := HC.out.count B s W h
      unfold IsC at k
      rwa [hqb, hrb] at k
    have KCl : Hid (∀ s W, OpAt W s l → Calls Try.prog 12 #[s] W (fun e w' => e = .returned (.agg #[.int .u64 q, .int .u64 r]) ∧ Below W.heap.size W w')) := Lib.hid fun s W h => by
      have k := HC.out.count l s W h
      unfold IsC at k
      rwa [hq, hr] at k
    have KP := Lib.hid (fun W => w_plus_any qa ra qb rb r ((ra + rb + 0) / 18446744073709551616) q W (by omega) (by omega) (by omega) (by omega) (by omega) rfl (by omega) (by omega) (by omega))
    have KLa := Lib.hid (fun s W h => HC.out.last A s W h)
    have KFb := Lib.hid (fun s W h => HC.out.first B s W h)
    have KCmp := Lib.hid (fun W => w_compare_any q r 0 x W)
    have hcp := cmp_pos (q := q) (r := r) (x := x) (by omega) hx0 (by omega) (by omega) hx1
    rw [show decide (x < q * 18446744073709551616 + r) = someB B from by rw [some_iff, decide_eq_decide]; rw [hsome]; omega] at hcp
    have hlf := last_first hap
    have HSV := Lib.hid hsv; clear hsv
    have KS := Lib.hid (fun (L : List Iv) (a b : Value) (W : World) (h1 : IvsAt W a L) (h2 : IvsAt W b L) => (decide_eq_true (rfl : L = L)) ▸ refSame_any L L a b W h1 h2)
    generalize w_cmpC q r 0 x = cm at *
    generalize lastV A = la at *
    generalize firstV B = fb at *
    have hokA : A.length = 0 ∨ 0 < A.length := by omega
    clear hap hsome hcnt mA mB mL hUM hqa hra hqb hrb hq hr hokA
    generalize someB A = okA at *
    generalize someB B = okB at *
    have HLF := Lib.hid hlf; clear hlf
    have HG := Lib.hid (And.intro GA GB); clear GA GB
    go_enter Try.func7, Try.ntmps7
    go_wp2_with fail
    refine (KR.out _ _ _ HO.out hl).mono ?_
    rintro e w1 ⟨rfl, h⟩
    have HO1 := Lib.hid (HO.out.call h); have HB1 := Lib.hid (below_call HB.out h)
    clear h
    go_wp2_with (at_builtin; refine append_copy rfl _ _ w1 _ (below_new _ _) _ _ l rfl rfl rfl (own_none _ _ rfl _ (Nat.le_refl _)) (HO1.out.at'.call (below_new _ _)) HSV.out.1 hl ?_; intro v' w2 ho hb; obtain ⟨pv, cv, rfl, _⟩ := own_shape ho; have HV := Lib.hid ho; have HO2 := Lib.hid (HO1.out.call hb); have HB2 := Lib.hid (below_call HB1.out hb); clear ho hb)
    have HVO : Hid (OpAt w2 (.slice pv l.length cv) l) := Lib.hid ⟨HV.out.ivs (by omega), HO2.out.good, HO2.out.len⟩
    refine (KSp.out _ _ HVO.out (saneV_own HV.out)).mono ?_
    rintro e w3 ⟨va, vb, rfl, hva, hvb, hsa, hsb, h⟩
    obtain ⟨pa, ca, rfl, _⟩ := hva.shape
    obtain ⟨pb, cb, rfl, _⟩ := hvb.shape
    have HA3 : Hid (OpAt w3 (.slice pa A.length ca) A) := Lib.hid ⟨hva, HG.out.1, by omega⟩
    have HB3' : Hid (OpAt w3 (.slice pb B.length cb) B) := Lib.hid ⟨hvb, HG.out.2, by omega⟩
    have NA3 := Lib.hid hsa.num
    have NB3 := Lib.hid hsb.num
    have HL3 := Lib.hid h
    have HBB3 := Lib.hid (below_call HB2.out h); clear h hva hvb hsa hsb
    go_wp2_with fail
    refine (KCa.out _ _ HA3.out).mono ?_
    rintro e w4 ⟨rfl, h⟩
    have HX4 := Lib.hid h; clear h
    go_wp2_with fail
    refine (KCb.out _ _ (HB3'.out.call HX4.out)).mono ?_
    rintro e w5 ⟨rfl, h⟩
    have HX5 := Lib.hid (below_call HX4.out h); clear h
    go_wp2_with fail
    refine (KP.out _).mono ?_
    rintro e w6 ⟨rfl, h⟩
    have HX6 := Lib.hid (below_call HX5.out h); clear h
    go_wp2_with fail
    have HX7 := Lib.hid (below_alloc HX6.out (.cells #[.int .u64 q, .int .u64 r] 30))
    refine (KLa.out _ _ (HA3.out.call HX7.out)).mono ?_
    rintro e w8 ⟨rfl, h⟩
    have z0 := keep_cell (p := ⟨w6.heap.size, 0, none⟩) (v := .int .u64 q) (by simp) h
    have z1 := keep_cell (p := ⟨w6.heap.size, 1, none⟩) (v := .int .u64 r) (by simp) h
    have HX8 := Lib.hid (below_call HX7.out h); clear h
    go_wp2_with fail
    refine (KFb.out _ _ (HB3'.out.call HX8.out)).mono ?_
    rintro e w9 ⟨rfl, h⟩
    have hz0 := keep_cell z0 h
    have hz1 := keep_cell z1 h
    have HX9 := Lib.hid (below_call HX8.out h); clear h z0 z1
    have hT : w3.heap.size ≤ w6.heap.size := HX6.out.size
    have HE9 : Hid (LoopE w2 w3.heap.size w6.heap.size (.slice pa A.length ca) (.slice pb B.length cb) A.length B.length q r w9) := Lib.hid
      ⟨below_call HL3.out HX9.out, NA3.out.call (Nat.le_refl _) HX9.out, NB3.out.call (Nat.le_refl _) HX9.out, hz0, hz1⟩
    clear hz0 hz1
    go_wp2_with fail
    go_loopw [45] (fun i wr => ∃ k : Nat, i = .int .i64 k ∧ k ≤ A.length ∧ LoopE w2 w3.heap.size w6.heap.size (.slice pa A.length ca) (.slice pb B.length cb) A.length B.length q r wr) (fun i _ => A.length - (intOf i).toNat)
    case atStart => exact ⟨0, rfl, Nat.zero_le _, HE9.out⟩
    case round =>
      obtain ⟨k, rfl, hk, hE⟩ := hrel
      have HE := Lib.hid hE
      by_cases hlt : k < A.length
      · obtain ⟨p', cap', e, _, hn⟩ := hE.a
        cases e
        obtain ⟨g, o, rfl, hB, hT2, hc⟩ := hn (by omega)
        obtain ⟨_, ⟨z, hz⟩, hf⟩ := hc k hlt
        clear hn hc hE
        have i1 : (0 : Int) ≤ (k : Int) := by omega
        have i2 : (k : Int) < (A.length : Int) := by omega
        have hk2 : k ≤ 60 := by omega
        go_wp2_with fail
        go_roundw
        case rel => exact ⟨k + 1, by go_num, by omega, HE.out.set hT hB hT2 _ _⟩
        case measure => simp [intOf]; omega
      · obtain rfl : k = A.length := by omega
        clear hE
        go_wp2_with fail
        obtain ⟨wo, rfl⟩ : ∃ wo : World, wo = wr := ⟨_, rfl⟩
        go_loopw [59] (fun i wr => ∃ k : Nat, i = .int .i64 k ∧ k ≤ B.length ∧ LoopE w2 w3.heap.size w6.heap.size (.slice pa A.length ca) (.slice pb B.length cb) A.length B.length q r wr) (fun i _ => B.length - (intOf i).toNat)
        case atStart => exact ⟨0, rfl, Nat.zero_le _, HE.out⟩
        case round =>
          obtain ⟨k, rfl, hk3, hE2⟩ := hrel
          have HE2 := Lib.hid hE2
          by_cases hlt2 : k < B.length
          · obtain ⟨p', cap', e, _, hn⟩ := hE2.b
            cases e
            obtain ⟨g, o, rfl, hB, hT2, hc⟩ := hn (by omega)
            obtain ⟨⟨⟨z, hz⟩, hf⟩, _⟩ := hc k hlt2
            clear hn hc hE2
            have i1 : (0 : Int) ≤ (k : Int) := by omega
            have i2 : (k : Int) < (B.length : Int) := by omega
            have hk2 : k ≤ 60 := by omega
            go_wp2_with fail
            go_roundw
            case rel => exact ⟨k + 1, by go_num, by omega, HE2.out.set hT hB hT2 _ _⟩
            case measure => simp [intOf]; omega
          · obtain rfl : k = B.length := by omega
            obtain ⟨wz, rfl⟩ : ∃ wz : World, wz = wr := ⟨_, rfl⟩
            have hz0 := hE2.z0
            have hz1 := hE2.z1
            have HOz := Lib.hid (HO2.out.call hE2.low)
            have HVz := Lib.hid (HVO.out.at'.call hE2.low)
            have HBz := Lib.hid (below_call HB2.out hE2.low)
            clear hE2
            go_wp2_with fail
            cases okA with
            | false =>
              refine wp_region_held_drew (S := (fun w' : World => Below wz.heap.size wz w' ∧ w'.cell? ⟨w6.heap.size, 0, none⟩ = some (.int .u64 q) ∧ w'.cell? ⟨w6.heap.size, 1, none⟩ = some (.int .u64 r))) (by kernel_rfl) (⟨(Below.refl wz.heap.size wz).drew, hz0, hz1⟩) (fun hHeld => ?_)
              refine wpAnyH_ready (rs := [0]) (by kernel_rfl) (by simp) (AllReadyH.cons (o := { dst := some 71, op := Op.call { callee := Callee.value (Operand.func 10), args := #[], argTypes := #[] }, type := 4, pos := _, after := #[], guard := none }) rfl (fun K hK => ?_) AllReadyH.nil)
              go_simp
              refine (KA.out _).mono ?_
              rintro en wN ⟨rfl, hbN⟩
              have hbH := Lib.hid hbN; clear hbN
              go_wp2_with fail
              refine hK.out _ _ (keep_boxK hHeld hbH.out) (fun hNew => ?_)
              clear hK K hHeld hbH
              have hHeld := hNew; clear hNew
              try simp only [Act.put, List.setIfInBounds_toArray, List.set_cons_zero, List.set_cons_succ]
              refine rtake (i := 1) (v := ?_) { dst := some 72, op := Op.move (Operand.tmp 71), type := 4, pos := _, after := #[{ on := 0, ground := Ground.data }, { on := 0, ground := Ground.chain }], guard := none } rfl (by kernel_rfl) (by kernel_rfl) (by kernel_rfl) (fun _ _ _ h => h) (by rfl) hHeld ?_ ?_
              rotate_left
              · intro wS hSw; (try dsimp only at hSw); go_simp <;> with_reducible rfl
              try simp only [Act.put, List.setIfInBounds_toArray, List.set_cons_zero, List.set_cons_succ]
              refine rtake (i := 2) (v := ?_) { dst := some 73, op := Op.load 30 (Operand.tmp 8), type := 30, pos := _, after := #[{ on := 1, ground := Ground.guard }], guard := some (1, true) } rfl (by kernel_rfl) (by kernel_rfl) (by kernel_rfl) (fun _ _ _ h => h) (by rfl) hHeld ?_ ?_
              rotate_left
              · intro wS hSw; (try dsimp only at hSw); go_simp <;> with_reducible rfl
              try simp only [Act.put, List.setIfInBounds_toArray, List.set_cons_zero, List.set_cons_succ]
              refine rtake (i := 3) (v := ?_) { dst := some 74, op := Op.move (Operand.tmp 0), type := 23, pos := _, after := #[{ on := 1, ground := Ground.guard }], guard := some (1, true) } rfl (by kernel_rfl) (by kernel_rfl) (by kernel_rfl) (fun _ _ _ h => h) (by rfl) hHeld ?_ ?_
              rotate_left
              · intro wS hSw; (try dsimp only at hSw); go_simp <;> with_reducible rfl
              try simp only [Act.put, List.setIfInBounds_toArray, List.set_cons_zero, List.set_cons_succ]
              refine wpAnyH_ready (rs := [4]) (by kernel_rfl) (by simp) (AllReadyH.cons (o := { dst := some 75, op := Op.call { callee := Callee.value (Operand.func 12), args := #[Operand.tmp 74], argTypes := #[23] }, type := 30, pos := _, after := #[{ on := 3, ground := Ground.data }, { on := 1, ground := Ground.chain }, { on := 1, ground := Ground.guard }], guard := some (1, true) }) rfl (fun K hK => ?_) AllReadyH.nil)
              go_simp
              refine (KCl.out _ _ (HOz.out.call hHeld.1)).mono ?_
              rintro en wN ⟨rfl, hbN⟩
              have hbH := Lib.hid hbN; clear hbN
              go_wp2_with fail
              refine hK.out _ _ (keep_boxK hHeld hbH.out) (fun hNew => ?_)
              clear hK K hHeld hbH
              have hHeld := hNew; clear hNew
              try simp only [Act.put, List.setIfInBounds_toArray, List.set_cons_zero, List.set_cons_succ]
              refine rtake (i := 5) (v := ?_) { dst := some 76, op := Op.binOp BinOp.eql 30 (Operand.tmp 73) (Operand.tmp 75) 30, type := 4, pos := _, after := #[{ on := 2, ground := Ground.data }, { on := 4, ground := Ground.data }, { on := 1, ground := Ground.guard }], guard := some (1, true) } rfl (by kernel_rfl) (by kernel_rfl) (by kernel_rfl) (fun _ _ _ h => h) (by rfl) hHeld ?_ ?_
              rotate_left
              · intro wS hSw; (try dsimp only at hSw); go_simp <;> with_reducible rfl
              try simp only [Act.put, List.setIfInBounds_toArray, List.set_cons_zero, List.set_cons_succ]
              refine rtake (i := 6) (v := ?_) { dst := some 77, op := Op.pick (Operand.tmp 72) (Operand.tmp 76) (Operand.const (Value.bool false)), type := 4, pos := _, after := #[{ on := 1, ground := Ground.data }, { on := 5, ground := Ground.data }], guard := none } rfl (by kernel_rfl) (by kernel_rfl) (by kernel_rfl) (fun _ _ _ h => h) (by rfl) hHeld ?_ ?_
              rotate_left
              · intro wS hSw; (try dsimp only at hSw); go_simp <;> with_reducible rfl
              try simp only [Act.put, List.setIfInBounds_toArray, List.set_cons_zero, List.set_cons_succ]
              refine rtake (i := 7) (v := ?_) { dst := some 78, op := Op.move (Operand.tmp 77), type := 4, pos := _, after := #[{ on := 6, ground := Ground.data }, { on := 4, ground := Ground.chain }], guard := none } rfl (by kernel_rfl) (by kernel_rfl) (by kernel_rfl) (fun _ _ _ h => h) (by rfl) hHeld ?_ ?_
              rotate_left
              · intro wS hSw; (try dsimp only at hSw); go_simp <;> with_reducible rfl
              try simp only [Act.put, List.setIfInBounds_toArray, List.set_cons_zero, List.set_cons_succ]
              refine rtake (i := 8) (v := ?_) { dst := some 79, op := Op.move (Operand.tmp 10), type := 4, pos := _, after := #[{ on := 7, ground := Ground.guard }], guard := some (7, true) } rfl (by kernel_rfl) (by kernel_rfl) (by kernel_rfl) (fun _ _ _ h => h) (by rfl) hHeld ?_ ?_
              rotate_left
              · intro wS hSw; (try dsimp only at hSw); go_simp <;> with_reducible rfl
              try simp only [Act.put, List.setIfInBounds_toArray, List.set_cons_zero, List.set_cons_succ]
              refine rtake (i := 9) (v := ?_) { dst := some 80, op := Op.unOp UnOp.not 4 (Operand.tmp 79), type := 4, pos := _, after := #[{ on := 8, ground := Ground.data }, { on := 7, ground := Ground.guard }], guard := some (7, true) } rfl (by kernel_rfl) (by kernel_rfl) (by kernel_rfl) (fun _ _ _ h => h) (by rfl) hHeld ?_ ?_
              rotate_left
              · intro wS hSw; (try dsimp only at hSw); go_simp <;> with_reducible rfl
              try simp only [Act.put, List.setIfInBounds_toArray, List.set_cons_zero, List.set_cons_succ]
              refine rtake (i := 10) (v := ?_) { dst := some 81, op := Op.move (Operand.tmp 80), type := 4, pos := _, after := #[{ on := 9, ground := Ground.data }, { on := 7, ground := Ground.chain }, { on := 7, ground := Ground.guard }], guard := some (7, true) } rfl (by kernel_rfl) (by kernel_rfl) (by kernel_rfl) (fun _ _ _ h => h) (by rfl) hHeld ?_ ?_
              rotate_left
              · intro wS hSw; (try dsimp only at hSw); go_simp <;> with_reducible rfl
              try simp only [Act.put, List.setIfInBounds_toArray, List.set_cons_zero, List.set_cons_succ]
              refine rskip (i := 11) { dst := some 82, op := Op.move (Operand.tmp 12), type := 4, pos := _, after := #[{ on := 10, ground := Ground.guard }], guard := some (10, false) } rfl (by kernel_rfl) (by kernel_rfl) (by kernel_rfl) (fun _ _ _ h => h) (by rfl) hHeld ?_
              try simp only [Act.put, List.setIfInBounds_toArray, List.set_cons_zero, List.set_cons_succ]
              refine rskip (i := 12) { dst := some 83, op := Op.unOp UnOp.not 4 (Operand.tmp 82), type := 4, pos := _, after := #[{ on := 11, ground := Ground.data }, { on := 10, ground := Ground.guard }], guard := some (10, false) } rfl (by kernel_rfl) (by kernel_rfl) (by kernel_rfl) (fun _ _ _ h => h) (by rfl) hHeld ?_
              try simp only [Act.put, List.setIfInBounds_toArray, List.set_cons_zero, List.set_cons_succ]
              refine rtake (i := 13) (v := ?_) { dst := some 84, op := Op.pick (Operand.tmp 81) (Operand.const (Value.bool true)) (Operand.tmp 83), type := 4, pos := _, after := #[{ on := 10, ground := Ground.data }, { on := 12, ground := Ground.data }, { on := 7, ground := Ground.guard }], guard := some (7, true) } rfl (by kernel_rfl) (by kernel_rfl) (by kernel_rfl) (fun _ _ _ h => h) (by rfl) hHeld ?_ ?_
              rotate_left
              · intro wS hSw; (try dsimp only at hSw); go_simp <;> with_reducible rfl
              try simp only [Act.put, List.setIfInBounds_toArray, List.set_cons_zero, List.set_cons_succ]
              refine rtake (i := 14) (v := ?_) { dst := some 85, op := Op.move (Operand.tmp 84), type := 4, pos := _, after := #[{ on := 13, ground := Ground.data }, { on := 10, ground := Ground.chain }, { on := 7, ground := Ground.guard }], guard := some (7, true) } rfl (by kernel_rfl) (by kernel_rfl) (by kernel_rfl) (fun _ _ _ h => h) (by rfl) hHeld ?_ ?_
              rotate_left
              · intro wS hSw; (try dsimp only at hSw); go_simp <;> with_reducible rfl
              try simp only [Act.put, List.setIfInBounds_toArray, List.set_cons_zero, List.set_cons_succ]
              refine rskip (i := 15) { dst := some 86, op := Op.move (Operand.tmp 9), type := 24, pos := _, after := #[{ on := 14, ground := Ground.guard }], guard := some (14, false) } rfl (by kernel_rfl) (by kernel_rfl) (by kernel_rfl) (fun _ _ _ h => h) (by rfl) hHeld ?_
              try simp only [Act.put, List.setIfInBounds_toArray, List.set_cons_zero, List.set_cons_succ]
              refine rskip (i := 16) { dst := some 87, op := Op.move (Operand.tmp 11), type := 24, pos := _, after := #[{ on := 14, ground := Ground.guard }], guard := some (14, false) } rfl (by kernel_rfl) (by kernel_rfl) (by kernel_rfl) (fun _ _ _ h => h) (by rfl) hHeld ?_
              try simp only [Act.put, List.setIfInBounds_toArray, List.set_cons_zero, List.set_cons_succ]
              refine rskip (i := 17) { dst := some 88, op := Op.binOp BinOp.lss 24 (Operand.tmp 86) (Operand.tmp 87) 24, type := 4, pos := _, after := #[{ on := 15, ground := Ground.data }, { on := 16, ground := Ground.data }, { on := 14, ground := Ground.guard }], guard := some (14, false) } rfl (by kernel_rfl) (by kernel_rfl) (by kernel_rfl) (fun _ _ _ h => h) (by rfl) hHeld ?_
              try simp only [Act.put, List.setIfInBounds_toArray, List.set_cons_zero, List.set_cons_succ]
              refine rtake (i := 18) (v := ?_) { dst := some 89, op := Op.pick (Operand.tmp 85) (Operand.const (Value.bool true)) (Operand.tmp 88), type := 4, pos := _, after := #[{ on := 14, ground := Ground.data }, { on := 17, ground := Ground.data }, { on := 7, ground := Ground.guard }], guard := some (7, true) } rfl (by kernel_rfl) (by kernel_rfl) (by kernel_rfl) (fun _ _ _ h => h) (by rfl) hHeld ?_ ?_
              rotate_left
              · intro wS hSw; (try dsimp only at hSw); go_simp <;> with_reducible rfl
              try simp only [Act.put, List.setIfInBounds_toArray, List.set_cons_zero, List.set_cons_succ]
              refine rtake (i := 19) (v := ?_) { dst := some 90, op := Op.pick (Operand.tmp 78) (Operand.tmp 89) (Operand.const (Value.bool false)), type := 4, pos := _, after := #[{ on := 7, ground := Ground.data }, { on := 18, ground := Ground.data }], guard := none } rfl (by kernel_rfl) (by kernel_rfl) (by kernel_rfl) (fun _ _ _ h => h) (by rfl) hHeld ?_ ?_
              rotate_left
              · intro wS hSw; (try dsimp only at hSw); go_simp <;> with_reducible rfl
              try simp only [Act.put, List.setIfInBounds_toArray, List.set_cons_zero, List.set_cons_succ]
              refine rtake (i := 20) (v := ?_) { dst := some 91, op := Op.move (Operand.tmp 90), type := 4, pos := _, after := #[{ on := 19, ground := Ground.data }, { on := 14, ground := Ground.chain }], guard := none } rfl (by kernel_rfl) (by kernel_rfl) (by kernel_rfl) (fun _ _ _ h => h) (by rfl) hHeld ?_ ?_
              rotate_left
              · intro wS hSw; (try dsimp only at hSw); go_simp <;> with_reducible rfl
              try simp only [Act.put, List.setIfInBounds_toArray, List.set_cons_zero, List.set_cons_succ]
              refine rtake (i := 21) (v := ?_) { dst := some 92, op := Op.move (Operand.tmp 5), type := 23, pos := _, after := #[{ on := 20, ground := Ground.guard }], guard := some (20, true) } rfl (by kernel_rfl) (by kernel_rfl) (by kernel_rfl) (fun _ _ _ h => h) (by rfl) hHeld ?_ ?_
              rotate_left
              · intro wS hSw; (try dsimp only at hSw); go_simp <;> with_reducible rfl
              try simp only [Act.put, List.setIfInBounds_toArray, List.set_cons_zero, List.set_cons_succ]
              refine rtake (i := 22) (v := ?_) { dst := some 93, op := Op.move (Operand.tmp 0), type := 23, pos := _, after := #[{ on := 20, ground := Ground.guard }], guard := some (20, true) } rfl (by kernel_rfl) (by kernel_rfl) (by kernel_rfl) (fun _ _ _ h => h) (by rfl) hHeld ?_ ?_
              rotate_left
              · intro wS hSw; (try dsimp only at hSw); go_simp <;> with_reducible rfl
              try simp only [Act.put, List.setIfInBounds_toArray, List.set_cons_zero, List.set_cons_succ]
              refine wpAnyH_ready (rs := [23]) (by kernel_rfl) (by simp) (AllReadyH.cons (o := { dst := some 94, op := Op.call { callee := Callee.value (Operand.func 22), args := #[Operand.tmp 92, Operand.tmp 93], argTypes := #[23, 23] }, type := 4, pos := _, after := #[{ on := 21, ground := Ground.data }, { on := 22, ground := Ground.data }, { on := 20, ground := Ground.chain }, { on := 20, ground := Ground.guard }], guard := some (20, true) }) rfl (fun K hK => ?_) AllReadyH.nil)
              go_simp
              refine (KS.out _ _ _ _ (HVz.out.call hHeld.1) (HOz.out.call hHeld.1).at').mono ?_
              rintro en wN ⟨rfl, hbN⟩
              have hbH := Lib.hid hbN; clear hbN
              go_wp2_with fail
              refine hK.out _ _ (keep_boxK hHeld hbH.out) (fun hNew => ?_)
              clear hK K hHeld hbH
              have hHeld := hNew; clear hNew
              try simp only [Act.put, List.setIfInBounds_toArray, List.set_cons_zero, List.set_cons_succ]
              refine rtake (i := 24) (v := ?_) { dst := some 95, op := Op.pick (Operand.tmp 91) (Operand.tmp 94) (Operand.const (Value.bool false)), type := 4, pos := _, after := #[{ on := 20, ground := Ground.data }, { on := 23, ground := Ground.data }], guard := none } rfl (by kernel_rfl) (by kernel_rfl) (by kernel_rfl) (fun _ _ _ h => h) (by rfl) hHeld ?_ ?_
              rotate_left
              · intro wS hSw; (try dsimp only at hSw); go_simp <;> with_reducible rfl
              try simp only [Act.put, List.setIfInBounds_toArray, List.set_cons_zero, List.set_cons_succ]
              refine rtake (i := 25) (v := ?_) { dst := some 96, op := Op.move (Operand.tmp 95), type := 4, pos := _, after := #[{ on := 24, ground := Ground.data }, { on := 23, ground := Ground.chain }], guard := none } rfl (by kernel_rfl) (by kernel_rfl) (by kernel_rfl) (fun _ _ _ h => h) (by rfl) hHeld ?_ ?_
              rotate_left
              · intro wS hSw; (try dsimp only at hSw); go_simp <;> with_reducible rfl
              try simp only [Act.put, List.setIfInBounds_toArray, List.set_cons_zero, List.set_cons_succ]
              refine rtake (i := 26) (v := ?_) { dst := some 97, op := Op.move (Operand.tmp 12), type := 4, pos := _, after := #[{ on := 25, ground := Ground.guard }], guard := some (25, true) } rfl (by kernel_rfl) (by kernel_rfl) (by kernel_rfl) (fun _ _ _ h => h) (by rfl) hHeld ?_ ?_
              rotate_left
              · intro wS hSw; (try dsimp only at hSw); go_simp <;> with_reducible rfl
              try simp only [Act.put, List.setIfInBounds_toArray, List.set_cons_zero, List.set_cons_succ]
              refine rtake (i := 27) (v := ?_) { dst := some 98, op := Op.move (Operand.tmp 0), type := 23, pos := _, after := #[{ on := 25, ground := Ground.guard }], guard := some (25, true) } rfl (by kernel_rfl) (by kernel_rfl) (by kernel_rfl) (fun _ _ _ h => h) (by rfl) hHeld ?_ ?_
              rotate_left
              · intro wS hSw; (try dsimp only at hSw); go_simp <;> with_reducible rfl
              try simp only [Act.put, List.setIfInBounds_toArray, List.set_cons_zero, List.set_cons_succ]
              refine rtake (i := 29) (v := ?_) { dst := some 100, op := Op.move (Operand.tmp 1), type := 24, pos := _, after := #[{ on := 25, ground := Ground.guard }], guard := some (25, true) } rfl (by kernel_rfl) (by kernel_rfl) (by kernel_rfl) (fun _ _ _ h => h) (by rfl) hHeld ?_ ?_
              rotate_left
              · intro wS hSw; (try dsimp only at hSw); go_simp <;> with_reducible rfl
              try simp only [Act.put, List.setIfInBounds_toArray, List.set_cons_zero, List.set_cons_succ]
              refine rtake (i := 30) (v := ?_) { dst := some 101, op := Op.build 30 #[(1, Operand.tmp 100)], type := 30, pos := _, after := #[{ on := 29, ground := Ground.data }, { on := 25, ground := Ground.guard }], guard := some (25, true) } rfl (by kernel_rfl) (by kernel_rfl) (by kernel_rfl) (fun _ _ _ h => h) (by rfl) hHeld ?_ ?_
              rotate_left
              · intro wS hSw; (try dsimp only at hSw); go_simp <;> with_reducible rfl
              try simp only [Act.put, List.setIfInBounds_toArray, List.set_cons_zero, List.set_cons_succ]
              refine wpAnyH_ready (rs := [28]) (by kernel_rfl) (by simp) (AllReadyH.cons (o := { dst := some 99, op := Op.call { callee := Callee.value (Operand.func 12), args := #[Operand.tmp 98], argTypes := #[23] }, type := 30, pos := _, after := #[{ on := 27, ground := Ground.data }, { on := 25, ground := Ground.chain }, { on := 25, ground := Ground.guard }], guard := some (25, true) }) rfl (fun K hK => ?_) AllReadyH.nil)
              go_simp
              refine (KCl.out _ _ (HOz.out.call hHeld.1)).mono ?_
              rintro en wN ⟨rfl, hbN⟩
              have hbH := Lib.hid hbN; clear hbN
              go_wp2_with fail
              refine hK.out _ _ (keep_boxK hHeld hbH.out) (fun hNew => ?_)
              clear hK K hHeld hbH
              have hHeld := hNew; clear hNew
              try simp only [Act.put, List.setIfInBounds_toArray, List.set_cons_zero, List.set_cons_succ]
              refine wpAnyH_ready (rs := [31]) (by kernel_rfl) (by simp) (AllReadyH.cons (o := { dst := some 102, op := Op.call { callee := Callee.value (Operand.func 24), args := #[Operand.tmp 99, Operand.tmp 101], argTypes := #[30, 30] }, type := 3, pos := _, after := #[{ on := 28, ground := Ground.data }, { on := 30, ground := Ground.data }, { on := 28, ground := Ground.chain }, { on := 25, ground := Ground.guard }], guard := some (25, true) }) rfl (fun K hK => ?_) AllReadyH.nil)
              go_simp
              refine (KCmp.out _).mono ?_
              rintro en wN ⟨rfl, hbN⟩
              have hbH := Lib.hid hbN; clear hbN
              go_wp2_with fail
              refine hK.out _ _ (keep_boxK hHeld hbH.out) (fun hNew => ?_)
              clear hK K hHeld hbH
              have hHeld := hNew; clear hNew
              try simp only [Act.put, List.setIfInBounds_toArray, List.set_cons_zero, List.set_cons_succ]
              refine rtake (i := 32) (v := ?_) { dst := some 103, op := Op.binOp BinOp.gtr 3 (Operand.tmp 102) (Operand.const (Value.int IntKind.i64 0)) 3, type := 4, pos := _, after := #[{ on := 31, ground := Ground.data }, { on := 25, ground := Ground.guard }], guard := some (25, true) } rfl (by kernel_rfl) (by kernel_rfl) (by kernel_rfl) (fun _ _ _ h => h) (by rfl) hHeld ?_ ?_
              rotate_left
              · intro wS hSw; (try dsimp only at hSw); go_simp <;> with_reducible rfl
              try simp only [Act.put, List.setIfInBounds_toArray, List.set_cons_zero, List.set_cons_succ]
              refine rtake (i := 33) (v := ?_) { dst := some 104, op := Op.binOp BinOp.eql 4 (Operand.tmp 97) (Operand.tmp 103) 4, type := 4, pos := _, after := #[{ on := 26, ground := Ground.data }, { on := 32, ground := Ground.data }, { on := 25, ground := Ground.guard }], guard := some (25, true) } rfl (by kernel_rfl) (by kernel_rfl) (by kernel_rfl) (fun _ _ _ h => h) (by rfl) hHeld ?_ ?_
              rotate_left
              · intro wS hSw; (try dsimp only at hSw); go_simp <;> with_reducible rfl
              try simp only [Act.put, List.setIfInBounds_toArray, List.set_cons_zero, List.set_cons_succ]
              refine rtake (i := 34) (v := ?_) { dst := some 105, op := Op.pick (Operand.tmp 96) (Operand.tmp 104) (Operand.const (Value.bool false)), type := 4, pos := _, after := #[{ on := 25, ground := Ground.data }, { on := 33, ground := Ground.data }], guard := none } rfl (by kernel_rfl) (by kernel_rfl) (by kernel_rfl) (fun _ _ _ h => h) (by rfl) hHeld ?_ ?_
              rotate_left
              · intro wS hSw; (try dsimp only at hSw); go_simp <;> with_reducible rfl
              try simp only [Act.put, List.setIfInBounds_toArray, List.set_cons_zero, List.set_cons_succ]
              refine rtake (i := 35) (v := ?_) { dst := some 4, op := Op.assign (Operand.tmp 105), type := 4, pos := _, after := #[{ on := 34, ground := Ground.data }, { on := 31, ground := Ground.chain }, { on := 0, ground := Ground.phase }, { on := 1, ground := Ground.phase }, { on := 2, ground := Ground.phase }, { on := 3, ground := Ground.phase }, { on := 4, ground := Ground.phase }, { on := 5, ground := Ground.phase }, { on := 6, ground := Ground.phase }, { on := 7, ground := Ground.phase }, { on := 8, ground := Ground.phase }, { on := 9, ground := Ground.phase }, { on := 10, ground := Ground.phase }, { on := 11, ground := Ground.phase }, { on := 12, ground := Ground.phase }, { on := 13, ground := Ground.phase }, { on := 14, ground := Ground.phase }, { on := 15, ground := Ground.phase }, { on := 16, ground := Ground.phase }, { on := 17, ground := Ground.phase }, { on := 18, ground := Ground.phase }, { on := 19, ground := Ground.phase }, { on := 20, ground := Ground.phase }, { on := 21, ground := Ground.phase }, { on := 22, ground := Ground.phase }, { on := 23, ground := Ground.phase }, { on := 24, ground := Ground.phase }, { on := 25, ground := Ground.phase }, { on := 26, ground := Ground.phase }, { on := 27, ground := Ground.phase }, { on := 28, ground := Ground.phase }, { on := 29, ground := Ground.phase }, { on := 30, ground := Ground.phase }, { on := 31, ground := Ground.phase }, { on := 32, ground := Ground.phase }, { on := 33, ground := Ground.phase }, { on := 34, ground := Ground.phase }], guard := none } rfl (by kernel_rfl) (by kernel_rfl) (by kernel_rfl) (fun _ _ _ h => h) (by rfl) hHeld ?_ ?_
              rotate_left
              · intro wS hSw; (try dsimp only at hSw); go_simp <;> with_reducible rfl
              try simp only [Act.put, List.setIfInBounds_toArray, List.set_cons_zero, List.set_cons_succ]
              refine wpAnyH_done (by kernel_rfl) ?_ _
              go_wp2_with fail
              go_ret
              exact ⟨rfl, below_call HBz.out hHeld.1⟩
            | true =>
              cases okB with
              | false =>
                refine wp_region_held_drew (S := (fun w' : World => Below wz.heap.size wz w' ∧ w'.cell? ⟨w6.heap.size, 0, none⟩ = some (.int .u64 q) ∧ w'.cell? ⟨w6.heap.size, 1, none⟩ = some (.int .u64 r))) (by kernel_rfl) (⟨(Below.refl wz.heap.size wz).drew, hz0, hz1⟩) (fun hHeld => ?_)
                refine wpAnyH_ready (rs := [0]) (by kernel_rfl) (by simp) (AllReadyH.cons (o := { dst := some 71, op := Op.call { callee := Callee.value (Operand.func 10), args := #[], argTypes := #[] }, type := 4, pos := _, after := #[], guard := none }) rfl (fun K hK => ?_) AllReadyH.nil)
                go_simp
                refine (KA.out _).mono ?_
                rintro en wN ⟨rfl, hbN⟩
                have hbH := Lib.hid hbN; clear hbN
                go_wp2_with fail
                refine hK.out _ _ (keep_boxK hHeld hbH.out) (fun hNew => ?_)
                clear hK K hHeld hbH
                have hHeld := hNew; clear hNew
                try simp only [Act.put, List.setIfInBounds_toArray, List.set_cons_zero, List.set_cons_succ]
                refine rtake (i := 1) (v := ?_) { dst := some 72, op := Op.move (Operand.tmp 71), type := 4, pos := _, after := #[{ on := 0, ground := Ground.data }, { on := 0, ground := Ground.chain }], guard := none } rfl (by kernel_rfl) (by kernel_rfl) (by kernel_rfl) (fun _ _ _ h => h) (by rfl) hHeld ?_ ?_
                rotate_left
                · intro wS hSw; (try dsimp only at hSw); go_simp <;> with_reducible rfl
                try simp only [Act.put, List.setIfInBounds_toArray, List.set_cons_zero, List.set_cons_succ]
                refine rtake (i := 2) (v := ?_) { dst := some 73, op := Op.load 30 (Operand.tmp 8), type := 30, pos := _, after := #[{ on := 1, ground := Ground.guard }], guard := some (1, true) } rfl (by kernel_rfl) (by kernel_rfl) (by kernel_rfl) (fun _ _ _ h => h) (by rfl) hHeld ?_ ?_
                rotate_left
                · intro wS hSw; (try dsimp only at hSw); go_simp <;> with_reducible rfl
                try simp only [Act.put, List.setIfInBounds_toArray, List.set_cons_zero, List.set_cons_succ]
                refine rtake (i := 3) (v := ?_) { dst := some 74, op := Op.move (Operand.tmp 0), type := 23, pos := _, after := #[{ on := 1, ground := Ground.guard }], guard := some (1, true) } rfl (by kernel_rfl) (by kernel_rfl) (by kernel_rfl) (fun _ _ _ h => h) (by rfl) hHeld ?_ ?_
                rotate_left
                · intro wS hSw; (try dsimp only at hSw); go_simp <;> with_reducible rfl
                try simp only [Act.put, List.setIfInBounds_toArray, List.set_cons_zero, List.set_cons_succ]
                refine wpAnyH_ready (rs := [4]) (by kernel_rfl) (by simp) (AllReadyH.cons (o := { dst := some 75, op := Op.call { callee := Callee.value (Operand.func 12), args := #[Operand.tmp 74], argTypes := #[23] }, type := 30, pos := _, after := #[{ on := 3, ground := Ground.data }, { on := 1, ground := Ground.chain }, { on := 1, ground := Ground.guard }], guard := some (1, true) }) rfl (fun K hK => ?_) AllReadyH.nil)
                go_simp
                refine (KCl.out _ _ (HOz.out.call hHeld.1)).mono ?_
                rintro en wN ⟨rfl, hbN⟩
                have hbH := Lib.hid hbN; clear hbN
                go_wp2_with fail
                refine hK.out _ _ (keep_boxK hHeld hbH.out) (fun hNew => ?_)
                clear hK K hHeld hbH
                have hHeld := hNew; clear hNew
                try simp only [Act.put, List.setIfInBounds_toArray, List.set_cons_zero, List.set_cons_succ]
                refine rtake (i := 5) (v := ?_) { dst := some 76, op := Op.binOp BinOp.eql 30 (Operand.tmp 73) (Operand.tmp 75) 30, type := 4, pos := _, after := #[{ on := 2, ground := Ground.data }, { on := 4, ground := Ground.data }, { on := 1, ground := Ground.guard }], guard := some (1, true) } rfl (by kernel_rfl) (by kernel_rfl) (by kernel_rfl) (fun _ _ _ h => h) (by rfl) hHeld ?_ ?_
                rotate_left
                · intro wS hSw; (try dsimp only at hSw); go_simp <;> with_reducible rfl
                try simp only [Act.put, List.setIfInBounds_toArray, List.set_cons_zero, List.set_cons_succ]
                refine rtake (i := 6) (v := ?_) { dst := some 77, op := Op.pick (Operand.tmp 72) (Operand.tmp 76) (Operand.const (Value.bool false)), type := 4, pos := _, after := #[{ on := 1, ground := Ground.data }, { on := 5, ground := Ground.data }], guard := none } rfl (by kernel_rfl) (by kernel_rfl) (by kernel_rfl) (fun _ _ _ h => h) (by rfl) hHeld ?_ ?_
                rotate_left
                · intro wS hSw; (try dsimp only at hSw); go_simp <;> with_reducible rfl
                try simp only [Act.put, List.setIfInBounds_toArray, List.set_cons_zero, List.set_cons_succ]
                refine rtake (i := 7) (v := ?_) { dst := some 78, op := Op.move (Operand.tmp 77), type := 4, pos := _, after := #[{ on := 6, ground := Ground.data }, { on := 4, ground := Ground.chain }], guard := none } rfl (by kernel_rfl) (by kernel_rfl) (by kernel_rfl) (fun _ _ _ h => h) (by rfl) hHeld ?_ ?_
                rotate_left
                · intro wS hSw; (try dsimp only at hSw); go_simp <;> with_reducible rfl
                try simp only [Act.put, List.setIfInBounds_toArray, List.set_cons_zero, List.set_cons_succ]
                refine rtake (i := 8) (v := ?_) { dst := some 79, op := Op.move (Operand.tmp 10), type := 4, pos := _, after := #[{ on := 7, ground := Ground.guard }], guard := some (7, true) } rfl (by kernel_rfl) (by kernel_rfl) (by kernel_rfl) (fun _ _ _ h => h) (by rfl) hHeld ?_ ?_
                rotate_left
                · intro wS hSw; (try dsimp only at hSw); go_simp <;> with_reducible rfl
                try simp only [Act.put, List.setIfInBounds_toArray, List.set_cons_zero, List.set_cons_succ]
                refine rtake (i := 9) (v := ?_) { dst := some 80, op := Op.unOp UnOp.not 4 (Operand.tmp 79), type := 4, pos := _, after := #[{ on := 8, ground := Ground.data }, { on := 7, ground := Ground.guard }], guard := some (7, true) } rfl (by kernel_rfl) (by kernel_rfl) (by kernel_rfl) (fun _ _ _ h => h) (by rfl) hHeld ?_ ?_
                rotate_left
                · intro wS hSw; (try dsimp only at hSw); go_simp <;> with_reducible rfl
                try simp only [Act.put, List.setIfInBounds_toArray, List.set_cons_zero, List.set_cons_succ]
                refine rtake (i := 10) (v := ?_) { dst := some 81, op := Op.move (Operand.tmp 80), type := 4, pos := _, after := #[{ on := 9, ground := Ground.data }, { on := 7, ground := Ground.chain }, { on := 7, ground := Ground.guard }], guard := some (7, true) } rfl (by kernel_rfl) (by kernel_rfl) (by kernel_rfl) (fun _ _ _ h => h) (by rfl) hHeld ?_ ?_
                rotate_left
                · intro wS hSw; (try dsimp only at hSw); go_simp <;> with_reducible rfl
                try simp only [Act.put, List.setIfInBounds_toArray, List.set_cons_zero, List.set_cons_succ]
                refine rtake (i := 11) (v := ?_) { dst := some 82, op := Op.move (Operand.tmp 12), type := 4, pos := _, after := #[{ on := 10, ground := Ground.guard }], guard := some (10, false) } rfl (by kernel_rfl) (by kernel_rfl) (by kernel_rfl) (fun _ _ _ h => h) (by rfl) hHeld ?_ ?_
                rotate_left
                · intro wS hSw; (try dsimp only at hSw); go_simp <;> with_reducible rfl
                try simp only [Act.put, List.setIfInBounds_toArray, List.set_cons_zero, List.set_cons_succ]
                refine rtake (i := 12) (v := ?_) { dst := some 83, op := Op.unOp UnOp.not 4 (Operand.tmp 82), type := 4, pos := _, after := #[{ on := 11, ground := Ground.data }, { on := 10, ground := Ground.guard }], guard := some (10, false) } rfl (by kernel_rfl) (by kernel_rfl) (by kernel_rfl) (fun _ _ _ h => h) (by rfl) hHeld ?_ ?_
                rotate_left
                · intro wS hSw; (try dsimp only at hSw); go_simp <;> with_reducible rfl
                try simp only [Act.put, List.setIfInBounds_toArray, List.set_cons_zero, List.set_cons_succ]
                refine rtake (i := 13) (v := ?_) { dst := some 84, op := Op.pick (Operand.tmp 81) (Operand.const (Value.bool true)) (Operand.tmp 83), type := 4, pos := _, after := #[{ on := 10, ground := Ground.data }, { on := 12, ground := Ground.data }, { on := 7, ground := Ground.guard }], guard := some (7, true) } rfl (by kernel_rfl) (by kernel_rfl) (by kernel_rfl) (fun _ _ _ h => h) (by rfl) hHeld ?_ ?_
                rotate_left
                · intro wS hSw; (try dsimp only at hSw); go_simp <;> with_reducible rfl
                try simp only [Act.put, List.setIfInBounds_toArray, List.set_cons_zero, List.set_cons_succ]
                refine rtake (i := 14) (v := ?_) { dst := some 85, op := Op.move (Operand.tmp 84), type := 4, pos := _, after := #[{ on := 13, ground := Ground.data }, { on := 10, ground := Ground.chain }, { on := 7, ground := Ground.guard }], guard := some (7, true) } rfl (by kernel_rfl) (by kernel_rfl) (by kernel_rfl) (fun _ _ _ h => h) (by rfl) hHeld ?_ ?_
                rotate_left
                · intro wS hSw; (try dsimp only at hSw); go_simp <;> with_reducible rfl
                try simp only [Act.put, List.setIfInBounds_toArray, List.set_cons_zero, List.set_cons_succ]
                refine rskip (i := 15) { dst := some 86, op := Op.move (Operand.tmp 9), type := 24, pos := _, after := #[{ on := 14, ground := Ground.guard }], guard := some (14, false) } rfl (by kernel_rfl) (by kernel_rfl) (by kernel_rfl) (fun _ _ _ h => h) (by rfl) hHeld ?_
                try simp only [Act.put, List.setIfInBounds_toArray, List.set_cons_zero, List.set_cons_succ]
                refine rskip (i := 16) { dst := some 87, op := Op.move (Operand.tmp 11), type := 24, pos := _, after := #[{ on := 14, ground := Ground.guard }], guard := some (14, false) } rfl (by kernel_rfl) (by kernel_rfl) (by kernel_rfl) (fun _ _ _ h => h) (by rfl) hHeld ?_
                try simp only [Act.put, List.setIfInBounds_toArray, List.set_cons_zero, List.set_cons_succ]
                refine rskip (i := 17) { dst := some 88, op := Op.binOp BinOp.lss 24 (Operand.tmp 86) (Operand.tmp 87) 24, type := 4, pos := _, after := #[{ on := 15, ground := Ground.data }, { on := 16, ground := Ground.data }, { on := 14, ground := Ground.guard }], guard := some (14, false) } rfl (by kernel_rfl) (by kernel_rfl) (by kernel_rfl) (fun _ _ _ h => h) (by rfl) hHeld ?_
                try simp only [Act.put, List.setIfInBounds_toArray, List.set_cons_zero, List.set_cons_succ]
                refine rtake (i := 18) (v := ?_) { dst := some 89, op := Op.pick (Operand.tmp 85) (Operand.const (Value.bool true)) (Operand.tmp 88), type := 4, pos := _, after := #[{ on := 14, ground := Ground.data }, { on := 17, ground := Ground.data }, { on := 7, ground := Ground.guard }], guard := some (7, true) } rfl (by kernel_rfl) (by kernel_rfl) (by kernel_rfl) (fun _ _ _ h => h) (by rfl) hHeld ?_ ?_
                rotate_left
                · intro wS hSw; (try dsimp only at hSw); go_simp <;> with_reducible rfl
                try simp only [Act.put, List.setIfInBounds_toArray, List.set_cons_zero, List.set_cons_succ]
                refine rtake (i := 19) (v := ?_) { dst := some 90, op := Op.pick (Operand.tmp 78) (Operand.tmp 89) (Operand.const (Value.bool false)), type := 4, pos := _, after := #[{ on := 7, ground := Ground.data }, { on := 18, ground := Ground.data }], guard := none } rfl (by kernel_rfl) (by kernel_rfl) (by kernel_rfl) (fun _ _ _ h => h) (by rfl) hHeld ?_ ?_
                rotate_left
                · intro wS hSw; (try dsimp only at hSw); go_simp <;> with_reducible rfl
                try simp only [Act.put, List.setIfInBounds_toArray, List.set_cons_zero, List.set_cons_succ]
                refine rtake (i := 20) (v := ?_) { dst := some 91, op := Op.move (Operand.tmp 90), type := 4, pos := _, after := #[{ on := 19, ground := Ground.data }, { on := 14, ground := Ground.chain }], guard := none } rfl (by kernel_rfl) (by kernel_rfl) (by kernel_rfl) (fun _ _ _ h => h) (by rfl) hHeld ?_ ?_
                rotate_left
                · intro wS hSw; (try dsimp only at hSw); go_simp <;> with_reducible rfl
                try simp only [Act.put, List.setIfInBounds_toArray, List.set_cons_zero, List.set_cons_succ]
                refine rtake (i := 21) (v := ?_) { dst := some 92, op := Op.move (Operand.tmp 5), type := 23, pos := _, after := #[{ on := 20, ground := Ground.guard }], guard := some (20, true) } rfl (by kernel_rfl) (by kernel_rfl) (by kernel_rfl) (fun _ _ _ h => h) (by rfl) hHeld ?_ ?_
                rotate_left
                · intro wS hSw; (try dsimp only at hSw); go_simp <;> with_reducible rfl
                try simp only [Act.put, List.setIfInBounds_toArray, List.set_cons_zero, List.set_cons_succ]
                refine rtake (i := 22) (v := ?_) { dst := some 93, op := Op.move (Operand.tmp 0), type := 23, pos := _, after := #[{ on := 20, ground := Ground.guard }], guard := some (20, true) } rfl (by kernel_rfl) (by kernel_rfl) (by kernel_rfl) (fun _ _ _ h => h) (by rfl) hHeld ?_ ?_
                rotate_left
                · intro wS hSw; (try dsimp only at hSw); go_simp <;> with_reducible rfl
                try simp only [Act.put, List.setIfInBounds_toArray, List.set_cons_zero, List.set_cons_succ]
                refine wpAnyH_ready (rs := [23]) (by kernel_rfl) (by simp) (AllReadyH.cons (o := { dst := some 94, op := Op.call { callee := Callee.value (Operand.func 22), args := #[Operand.tmp 92, Operand.tmp 93], argTypes := #[23, 23] }, type := 4, pos := _, after := #[{ on := 21, ground := Ground.data }, { on := 22, ground := Ground.data }, { on := 20, ground := Ground.chain }, { on := 20, ground := Ground.guard }], guard := some (20, true) }) rfl (fun K hK => ?_) AllReadyH.nil)
                go_simp
                refine (KS.out _ _ _ _ (HVz.out.call hHeld.1) (HOz.out.call hHeld.1).at').mono ?_
                rintro en wN ⟨rfl, hbN⟩
                have hbH := Lib.hid hbN; clear hbN
                go_wp2_with fail
                refine hK.out _ _ (keep_boxK hHeld hbH.out) (fun hNew => ?_)
                clear hK K hHeld hbH
                have hHeld := hNew; clear hNew
                try simp only [Act.put, List.setIfInBounds_toArray, List.set_cons_zero, List.set_cons_succ]
                refine rtake (i := 24) (v := ?_) { dst := some 95, op := Op.pick (Operand.tmp 91) (Operand.tmp 94) (Operand.const (Value.bool false)), type := 4, pos := _, after := #[{ on := 20, ground := Ground.data }, { on := 23, ground := Ground.data }], guard := none } rfl (by kernel_rfl) (by kernel_rfl) (by kernel_rfl) (fun _ _ _ h => h) (by rfl) hHeld ?_ ?_
                rotate_left
                · intro wS hSw; (try dsimp only at hSw); go_simp <;> with_reducible rfl
                try simp only [Act.put, List.setIfInBounds_toArray, List.set_cons_zero, List.set_cons_succ]
                refine rtake (i := 25) (v := ?_) { dst := some 96, op := Op.move (Operand.tmp 95), type := 4, pos := _, after := #[{ on := 24, ground := Ground.data }, { on := 23, ground := Ground.chain }], guard := none } rfl (by kernel_rfl) (by kernel_rfl) (by kernel_rfl) (fun _ _ _ h => h) (by rfl) hHeld ?_ ?_
                rotate_left
                · intro wS hSw; (try dsimp only at hSw); go_simp <;> with_reducible rfl
                try simp only [Act.put, List.setIfInBounds_toArray, List.set_cons_zero, List.set_cons_succ]
                refine rtake (i := 26) (v := ?_) { dst := some 97, op := Op.move (Operand.tmp 12), type := 4, pos := _, after := #[{ on := 25, ground := Ground.guard }], guard := some (25, true) } rfl (by kernel_rfl) (by kernel_rfl) (by kernel_rfl) (fun _ _ _ h => h) (by rfl) hHeld ?_ ?_
                rotate_left
                · intro wS hSw; (try dsimp only at hSw); go_simp <;> with_reducible rfl
                try simp only [Act.put, List.setIfInBounds_toArray, List.set_cons_zero, List.set_cons_succ]
                refine rtake (i := 27) (v := ?_) { dst := some 98, op := Op.move (Operand.tmp 0), type := 23, pos := _, after := #[{ on := 25, ground := Ground.guard }], guard := some (25, true) } rfl (by kernel_rfl) (by kernel_rfl) (by kernel_rfl) (fun _ _ _ h => h) (by rfl) hHeld ?_ ?_
                rotate_left
                · intro wS hSw; (try dsimp only at hSw); go_simp <;> with_reducible rfl
                try simp only [Act.put, List.setIfInBounds_toArray, List.set_cons_zero, List.set_cons_succ]
                refine rtake (i := 29) (v := ?_) { dst := some 100, op := Op.move (Operand.tmp 1), type := 24, pos := _, after := #[{ on := 25, ground := Ground.guard }], guard := some (25, true) } rfl (by kernel_rfl) (by kernel_rfl) (by kernel_rfl) (fun _ _ _ h => h) (by rfl) hHeld ?_ ?_
                rotate_left
                · intro wS hSw; (try dsimp only at hSw); go_simp <;> with_reducible rfl
                try simp only [Act.put, List.setIfInBounds_toArray, List.set_cons_zero, List.set_cons_succ]
                refine rtake (i := 30) (v := ?_) { dst := some 101, op := Op.build 30 #[(1, Operand.tmp 100)], type := 30, pos := _, after := #[{ on := 29, ground := Ground.data }, { on := 25, ground := Ground.guard }], guard := some (25, true) } rfl (by kernel_rfl) (by kernel_rfl) (by kernel_rfl) (fun _ _ _ h => h) (by rfl) hHeld ?_ ?_
                rotate_left
                · intro wS hSw; (try dsimp only at hSw); go_simp <;> with_reducible rfl
                try simp only [Act.put, List.setIfInBounds_toArray, List.set_cons_zero, List.set_cons_succ]
                refine wpAnyH_ready (rs := [28]) (by kernel_rfl) (by simp) (AllReadyH.cons (o := { dst := some 99, op := Op.call { callee := Callee.value (Operand.func 12), args := #[Operand.tmp 98], argTypes := #[23] }, type := 30, pos := _, after := #[{ on := 27, ground := Ground.data }, { on := 25, ground := Ground.chain }, { on := 25, ground := Ground.guard }], guard := some (25, true) }) rfl (fun K hK => ?_) AllReadyH.nil)
                go_simp
                refine (KCl.out _ _ (HOz.out.call hHeld.1)).mono ?_
                rintro en wN ⟨rfl, hbN⟩
                have hbH := Lib.hid hbN; clear hbN
                go_wp2_with fail
                refine hK.out _ _ (keep_boxK hHeld hbH.out) (fun hNew => ?_)
                clear hK K hHeld hbH
                have hHeld := hNew; clear hNew
                try simp only [Act.put, List.setIfInBounds_toArray, List.set_cons_zero, List.set_cons_succ]
                refine wpAnyH_ready (rs := [31]) (by kernel_rfl) (by simp) (AllReadyH.cons (o := { dst := some 102, op := Op.call { callee := Callee.value (Operand.func 24), args := #[Operand.tmp 99, Operand.tmp 101], argTypes := #[30, 30] }, type := 3, pos := _, after := #[{ on := 28, ground := Ground.data }, { on := 30, ground := Ground.data }, { on := 28, ground := Ground.chain }, { on := 25, ground := Ground.guard }], guard := some (25, true) }) rfl (fun K hK => ?_) AllReadyH.nil)
                go_simp
                refine (KCmp.out _).mono ?_
                rintro en wN ⟨rfl, hbN⟩
                have hbH := Lib.hid hbN; clear hbN
                go_wp2_with fail
                refine hK.out _ _ (keep_boxK hHeld hbH.out) (fun hNew => ?_)
                clear hK K hHeld hbH
                have hHeld := hNew; clear hNew
                try simp only [Act.put, List.setIfInBounds_toArray, List.set_cons_zero, List.set_cons_succ]
                refine rtake (i := 32) (v := ?_) { dst := some 103, op := Op.binOp BinOp.gtr 3 (Operand.tmp 102) (Operand.const (Value.int IntKind.i64 0)) 3, type := 4, pos := _, after := #[{ on := 31, ground := Ground.data }, { on := 25, ground := Ground.guard }], guard := some (25, true) } rfl (by kernel_rfl) (by kernel_rfl) (by kernel_rfl) (fun _ _ _ h => h) (by rfl) hHeld ?_ ?_
                rotate_left
                · intro wS hSw; (try dsimp only at hSw); go_simp <;> with_reducible rfl
                try simp only [Act.put, List.setIfInBounds_toArray, List.set_cons_zero, List.set_cons_succ]
                refine rtake (i := 33) (v := ?_) { dst := some 104, op := Op.binOp BinOp.eql 4 (Operand.tmp 97) (Operand.tmp 103) 4, type := 4, pos := _, after := #[{ on := 26, ground := Ground.data }, { on := 32, ground := Ground.data }, { on := 25, ground := Ground.guard }], guard := some (25, true) } rfl (by kernel_rfl) (by kernel_rfl) (by kernel_rfl) (fun _ _ _ h => h) (by rfl) hHeld ?_ ?_
                rotate_left
                · intro wS hSw; (try dsimp only at hSw); go_simp <;> with_reducible rfl
                try simp only [Act.put, List.setIfInBounds_toArray, List.set_cons_zero, List.set_cons_succ]
                refine rtake (i := 34) (v := ?_) { dst := some 105, op := Op.pick (Operand.tmp 96) (Operand.tmp 104) (Operand.const (Value.bool false)), type := 4, pos := _, after := #[{ on := 25, ground := Ground.data }, { on := 33, ground := Ground.data }], guard := none } rfl (by kernel_rfl) (by kernel_rfl) (by kernel_rfl) (fun _ _ _ h => h) (by rfl) hHeld ?_ ?_
                rotate_left
                · intro wS hSw; (try dsimp only at hSw); go_simp <;> with_reducible rfl
                try simp only [Act.put, List.setIfInBounds_toArray, List.set_cons_zero, List.set_cons_succ]
                refine rtake (i := 35) (v := ?_) { dst := some 4, op := Op.assign (Operand.tmp 105), type := 4, pos := _, after := #[{ on := 34, ground := Ground.data }, { on := 31, ground := Ground.chain }, { on := 0, ground := Ground.phase }, { on := 1, ground := Ground.phase }, { on := 2, ground := Ground.phase }, { on := 3, ground := Ground.phase }, { on := 4, ground := Ground.phase }, { on := 5, ground := Ground.phase }, { on := 6, ground := Ground.phase }, { on := 7, ground := Ground.phase }, { on := 8, ground := Ground.phase }, { on := 9, ground := Ground.phase }, { on := 10, ground := Ground.phase }, { on := 11, ground := Ground.phase }, { on := 12, ground := Ground.phase }, { on := 13, ground := Ground.phase }, { on := 14, ground := Ground.phase }, { on := 15, ground := Ground.phase }, { on := 16, ground := Ground.phase }, { on := 17, ground := Ground.phase }, { on := 18, ground := Ground.phase }, { on := 19, ground := Ground.phase }, { on := 20, ground := Ground.phase }, { on := 21, ground := Ground.phase }, { on := 22, ground := Ground.phase }, { on := 23, ground := Ground.phase }, { on := 24, ground := Ground.phase }, { on := 25, ground := Ground.phase }, { on := 26, ground := Ground.phase }, { on := 27, ground := Ground.phase }, { on := 28, ground := Ground.phase }, { on := 29, ground := Ground.phase }, { on := 30, ground := Ground.phase }, { on := 31, ground := Ground.phase }, { on := 32, ground := Ground.phase }, { on := 33, ground := Ground.phase }, { on := 34, ground := Ground.phase }], guard := none } rfl (by kernel_rfl) (by kernel_rfl) (by kernel_rfl) (fun _ _ _ h => h) (by rfl) hHeld ?_ ?_
                rotate_left
                · intro wS hSw; (try dsimp only at hSw); go_simp <;> with_reducible rfl
                try simp only [Act.put, List.setIfInBounds_toArray, List.set_cons_zero, List.set_cons_succ]
                refine wpAnyH_done (by kernel_rfl) ?_ _
                go_wp2_with fail
                go_ret
                exact ⟨rfl, below_call HBz.out hHeld.1⟩
              | true =>
                have hlt3 : decide (la < fb) = true := by simpa using HLF.out rfl rfl
                refine wp_region_held_drew (S := (fun w' : World => Below wz.heap.size wz w' ∧ w'.cell? ⟨w6.heap.size, 0, none⟩ = some (.int .u64 q) ∧ w'.cell? ⟨w6.heap.size, 1, none⟩ = some (.int .u64 r))) (by kernel_rfl) (⟨(Below.refl wz.heap.size wz).drew, hz0, hz1⟩) (fun hHeld => ?_)
                refine wpAnyH_ready (rs := [0]) (by kernel_rfl) (by simp) (AllReadyH.cons (o := { dst := some 71, op := Op.call { callee := Callee.value (Operand.func 10), args := #[], argTypes := #[] }, type := 4, pos := _, after := #[], guard := none }) rfl (fun K hK => ?_) AllReadyH.nil)
                go_simp
                refine (KA.out _).mono ?_
                rintro en wN ⟨rfl, hbN⟩
                have hbH := Lib.hid hbN; clear hbN
                go_wp2_with fail
                refine hK.out _ _ (keep_boxK hHeld hbH.out) (fun hNew => ?_)
                clear hK K hHeld hbH
                have hHeld := hNew; clear hNew
                try simp only [Act.put, List.setIfInBounds_toArray, List.set_cons_zero, List.set_cons_succ]
                refine rtake (i := 1) (v := ?_) { dst := some 72, op := Op.move (Operand.tmp 71), type := 4, pos := _, after := #[{ on := 0, ground := Ground.data }, { on := 0, ground := Ground.chain }], guard := none } rfl (by kernel_rfl) (by kernel_rfl) (by kernel_rfl) (fun _ _ _ h => h) (by rfl) hHeld ?_ ?_
                rotate_left
                · intro wS hSw; (try dsimp only at hSw); go_simp <;> with_reducible rfl
                try simp only [Act.put, List.setIfInBounds_toArray, List.set_cons_zero, List.set_cons_succ]
                refine rtake (i := 2) (v := ?_) { dst := some 73, op := Op.load 30 (Operand.tmp 8), type := 30, pos := _, after := #[{ on := 1, ground := Ground.guard }], guard := some (1, true) } rfl (by kernel_rfl) (by kernel_rfl) (by kernel_rfl) (fun _ _ _ h => h) (by rfl) hHeld ?_ ?_
                rotate_left
                · intro wS hSw; (try dsimp only at hSw); go_simp <;> with_reducible rfl
                try simp only [Act.put, List.setIfInBounds_toArray, List.set_cons_zero, List.set_cons_succ]
                refine rtake (i := 3) (v := ?_) { dst := some 74, op := Op.move (Operand.tmp 0), type := 23, pos := _, after := #[{ on := 1, ground := Ground.guard }], guard := some (1, true) } rfl (by kernel_rfl) (by kernel_rfl) (by kernel_rfl) (fun _ _ _ h => h) (by rfl) hHeld ?_ ?_
                rotate_left
                · intro wS hSw; (try dsimp only at hSw); go_simp <;> with_reducible rfl
                try simp only [Act.put, List.setIfInBounds_toArray, List.set_cons_zero, List.set_cons_succ]
                refine wpAnyH_ready (rs := [4]) (by kernel_rfl) (by simp) (AllReadyH.cons (o := { dst := some 75, op := Op.call { callee := Callee.value (Operand.func 12), args := #[Operand.tmp 74], argTypes := #[23] }, type := 30, pos := _, after := #[{ on := 3, ground := Ground.data }, { on := 1, ground := Ground.chain }, { on := 1, ground := Ground.guard }], guard := some (1, true) }) rfl (fun K hK => ?_) AllReadyH.nil)
                go_simp
                refine (KCl.out _ _ (HOz.out.call hHeld.1)).mono ?_
                rintro en wN ⟨rfl, hbN⟩
                have hbH := Lib.hid hbN; clear hbN
                go_wp2_with fail
                refine hK.out _ _ (keep_boxK hHeld hbH.out) (fun hNew => ?_)
                clear hK K hHeld hbH
                have hHeld := hNew; clear hNew
                try simp only [Act.put, List.setIfInBounds_toArray, List.set_cons_zero, List.set_cons_succ]
                refine rtake (i := 5) (v := ?_) { dst := some 76, op := Op.binOp BinOp.eql 30 (Operand.tmp 73) (Operand.tmp 75) 30, type := 4, pos := _, after := #[{ on := 2, ground := Ground.data }, { on := 4, ground := Ground.data }, { on := 1, ground := Ground.guard }], guard := some (1, true) } rfl (by kernel_rfl) (by kernel_rfl) (by kernel_rfl) (fun _ _ _ h => h) (by rfl) hHeld ?_ ?_
                rotate_left
                · intro wS hSw; (try dsimp only at hSw); go_simp <;> with_reducible rfl
                try simp only [Act.put, List.setIfInBounds_toArray, List.set_cons_zero, List.set_cons_succ]
                refine rtake (i := 6) (v := ?_) { dst := some 77, op := Op.pick (Operand.tmp 72) (Operand.tmp 76) (Operand.const (Value.bool false)), type := 4, pos := _, after := #[{ on := 1, ground := Ground.data }, { on := 5, ground := Ground.data }], guard := none } rfl (by kernel_rfl) (by kernel_rfl) (by kernel_rfl) (fun _ _ _ h => h) (by rfl) hHeld ?_ ?_
                rotate_left
                · intro wS hSw; (try dsimp only at hSw); go_simp <;> with_reducible rfl
                try simp only [Act.put, List.setIfInBounds_toArray, List.set_cons_zero, List.set_cons_succ]
                refine rtake (i := 7) (v := ?_) { dst := some 78, op := Op.move (Operand.tmp 77), type := 4, pos := _, after := #[{ on := 6, ground := Ground.data }, { on := 4, ground := Ground.chain }], guard := none } rfl (by kernel_rfl) (by kernel_rfl) (by kernel_rfl) (fun _ _ _ h => h) (by rfl) hHeld ?_ ?_
                rotate_left
                · intro wS hSw; (try dsimp only at hSw); go_simp <;> with_reducible rfl
                try simp only [Act.put, List.setIfInBounds_toArray, List.set_cons_zero, List.set_cons_succ]
                refine rtake (i := 8) (v := ?_) { dst := some 79, op := Op.move (Operand.tmp 10), type := 4, pos := _, after := #[{ on := 7, ground := Ground.guard }], guard := some (7, true) } rfl (by kernel_rfl) (by kernel_rfl) (by kernel_rfl) (fun _ _ _ h => h) (by rfl) hHeld ?_ ?_
                rotate_left
                · intro wS hSw; (try dsimp only at hSw); go_simp <;> with_reducible rfl
                try simp only [Act.put, List.setIfInBounds_toArray, List.set_cons_zero, List.set_cons_succ]
                refine rtake (i := 9) (v := ?_) { dst := some 80, op := Op.unOp UnOp.not 4 (Operand.tmp 79), type := 4, pos := _, after := #[{ on := 8, ground := Ground.data }, { on := 7, ground := Ground.guard }], guard := some (7, true) } rfl (by kernel_rfl) (by kernel_rfl) (by kernel_rfl) (fun _ _ _ h => h) (by rfl) hHeld ?_ ?_
                rotate_left
                · intro wS hSw; (try dsimp only at hSw); go_simp <;> with_reducible rfl
                try simp only [Act.put, List.setIfInBounds_toArray, List.set_cons_zero, List.set_cons_succ]
                refine rtake (i := 10) (v := ?_) { dst := some 81, op := Op.move (Operand.tmp 80), type := 4, pos := _, after := #[{ on := 9, ground := Ground.data }, { on := 7, ground := Ground.chain }, { on := 7, ground := Ground.guard }], guard := some (7, true) } rfl (by kernel_rfl) (by kernel_rfl) (by kernel_rfl) (fun _ _ _ h => h) (by rfl) hHeld ?_ ?_
                rotate_left
                · intro wS hSw; (try dsimp only at hSw); go_simp <;> with_reducible rfl
                try simp only [Act.put, List.setIfInBounds_toArray, List.set_cons_zero, List.set_cons_succ]
                refine rtake (i := 11) (v := ?_) { dst := some 82, op := Op.move (Operand.tmp 12), type := 4, pos := _, after := #[{ on := 10, ground := Ground.guard }], guard := some (10, false) } rfl (by kernel_rfl) (by kernel_rfl) (by kernel_rfl) (fun _ _ _ h => h) (by rfl) hHeld ?_ ?_
                rotate_left
                · intro wS hSw; (try dsimp only at hSw); go_simp <;> with_reducible rfl
                try simp only [Act.put, List.setIfInBounds_toArray, List.set_cons_zero, List.set_cons_succ]
                refine rtake (i := 12) (v := ?_) { dst := some 83, op := Op.unOp UnOp.not 4 (Operand.tmp 82), type := 4, pos := _, after := #[{ on := 11, ground := Ground.data }, { on := 10, ground := Ground.guard }], guard := some (10, false) } rfl (by kernel_rfl) (by kernel_rfl) (by kernel_rfl) (fun _ _ _ h => h) (by rfl) hHeld ?_ ?_
                rotate_left
                · intro wS hSw; (try dsimp only at hSw); go_simp <;> with_reducible rfl
                try simp only [Act.put, List.setIfInBounds_toArray, List.set_cons_zero, List.set_cons_succ]
                refine rtake (i := 13) (v := ?_) { dst := some 84, op := Op.pick (Operand.tmp 81) (Operand.const (Value.bool true)) (Operand.tmp 83), type := 4, pos := _, after := #[{ on := 10, ground := Ground.data }, { on := 12, ground := Ground.data }, { on := 7, ground := Ground.guard }], guard := some (7, true) } rfl (by kernel_rfl) (by kernel_rfl) (by kernel_rfl) (fun _ _ _ h => h) (by rfl) hHeld ?_ ?_
                rotate_left
                · intro wS hSw; (try dsimp only at hSw); go_simp <;> with_reducible rfl
                try simp only [Act.put, List.setIfInBounds_toArray, List.set_cons_zero, List.set_cons_succ]
                refine rtake (i := 14) (v := ?_) { dst := some 85, op := Op.move (Operand.tmp 84), type := 4, pos := _, after := #[{ on := 13, ground := Ground.data }, { on := 10, ground := Ground.chain }, { on := 7, ground := Ground.guard }], guard := some (7, true) } rfl (by kernel_rfl) (by kernel_rfl) (by kernel_rfl) (fun _ _ _ h => h) (by rfl) hHeld ?_ ?_
                rotate_left
                · intro wS hSw; (try dsimp only at hSw); go_simp <;> with_reducible rfl
                try simp only [Act.put, List.setIfInBounds_toArray, List.set_cons_zero, List.set_cons_succ]
                refine rtake (i := 15) (v := ?_) { dst := some 86, op := Op.move (Operand.tmp 9), type := 24, pos := _, after := #[{ on := 14, ground := Ground.guard }], guard := some (14, false) } rfl (by kernel_rfl) (by kernel_rfl) (by kernel_rfl) (fun _ _ _ h => h) (by rfl) hHeld ?_ ?_
                rotate_left
                · intro wS hSw; (try dsimp only at hSw); go_simp <;> with_reducible rfl
                try simp only [Act.put, List.setIfInBounds_toArray, List.set_cons_zero, List.set_cons_succ]
                refine rtake (i := 16) (v := ?_) { dst := some 87, op := Op.move (Operand.tmp 11), type := 24, pos := _, after := #[{ on := 14, ground := Ground.guard }], guard := some (14, false) } rfl (by kernel_rfl) (by kernel_rfl) (by kernel_rfl) (fun _ _ _ h => h) (by rfl) hHeld ?_ ?_
                rotate_left
                · intro wS hSw; (try dsimp only at hSw); go_simp <;> with_reducible rfl
                try simp only [Act.put, List.setIfInBounds_toArray, List.set_cons_zero, List.set_cons_succ]
                refine rtake (i := 17) (v := ?_) { dst := some 88, op := Op.binOp BinOp.lss 24 (Operand.tmp 86) (Operand.tmp 87) 24, type := 4, pos := _, after := #[{ on := 15, ground := Ground.data }, { on := 16, ground := Ground.data }, { on := 14, ground := Ground.guard }], guard := some (14, false) } rfl (by kernel_rfl) (by kernel_rfl) (by kernel_rfl) (fun _ _ _ h => h) (by rfl) hHeld ?_ ?_
                rotate_left
                · intro wS hSw; (try dsimp only at hSw); go_simp <;> with_reducible rfl
                try simp only [Act.put, List.setIfInBounds_toArray, List.set_cons_zero, List.set_cons_succ]
                refine rtake (i := 18) (v := ?_) { dst := some 89, op := Op.pick (Operand.tmp 85) (Operand.const (Value.bool true)) (Operand.tmp 88), type := 4, pos := _, after := #[{ on := 14, ground := Ground.data }, { on := 17, ground := Ground.data }, { on := 7, ground := Ground.guard }], guard := some (7, true) } rfl (by kernel_rfl) (by kernel_rfl) (by kernel_rfl) (fun _ _ _ h => h) (by rfl) hHeld ?_ ?_
                rotate_left
                · intro wS hSw; (try dsimp only at hSw); go_simp <;> with_reducible rfl
                try simp only [Act.put, List.setIfInBounds_toArray, List.set_cons_zero, List.set_cons_succ]
                refine rtake (i := 19) (v := ?_) { dst := some 90, op := Op.pick (Operand.tmp 78) (Operand.tmp 89) (Operand.const (Value.bool false)), type := 4, pos := _, after := #[{ on := 7, ground := Ground.data }, { on := 18, ground := Ground.data }], guard := none } rfl (by kernel_rfl) (by kernel_rfl) (by kernel_rfl) (fun _ _ _ h => h) (by rfl) hHeld ?_ ?_
                rotate_left
                · intro wS hSw; (try dsimp only at hSw); go_simp <;> with_reducible rfl
                try simp only [Act.put, List.setIfInBounds_toArray, List.set_cons_zero, List.set_cons_succ]
                refine rtake (i := 20) (v := ?_) { dst := some 91, op := Op.move (Operand.tmp 90), type := 4, pos := _, after := #[{ on := 19, ground := Ground.data }, { on := 14, ground := Ground.chain }], guard := none } rfl (by kernel_rfl) (by kernel_rfl) (by kernel_rfl) (fun _ _ _ h => h) (by rfl) hHeld ?_ ?_
                rotate_left
                · intro wS hSw; (try dsimp only at hSw); go_simp <;> with_reducible rfl
                try simp only [Act.put, List.setIfInBounds_toArray, List.set_cons_zero, List.set_cons_succ]
                refine rtake (i := 21) (v := ?_) { dst := some 92, op := Op.move (Operand.tmp 5), type := 23, pos := _, after := #[{ on := 20, ground := Ground.guard }], guard := some (20, true) } rfl (by kernel_rfl) (by kernel_rfl) (by kernel_rfl) (fun _ _ _ h => h) (by rfl) hHeld ?_ ?_
                rotate_left
                · intro wS hSw; (try dsimp only at hSw); go_simp <;> with_reducible rfl
                try simp only [Act.put, List.setIfInBounds_toArray, List.set_cons_zero, List.set_cons_succ]
                refine rtake (i := 22) (v := ?_) { dst := some 93, op := Op.move (Operand.tmp 0), type := 23, pos := _, after := #[{ on := 20, ground := Ground.guard }], guard := some (20, true) } rfl (by kernel_rfl) (by kernel_rfl) (by kernel_rfl) (fun _ _ _ h => h) (by rfl) hHeld ?_ ?_
                rotate_left
                · intro wS hSw; (try dsimp only at hSw); go_simp <;> with_reducible rfl
                try simp only [Act.put, List.setIfInBounds_toArray, List.set_cons_zero, List.set_cons_succ]
                refine wpAnyH_ready (rs := [23]) (by kernel_rfl) (by simp) (AllReadyH.cons (o := { dst := some 94, op := Op.call { callee := Callee.value (Operand.func 22), args := #[Operand.tmp 92, Operand.tmp 93], argTypes := #[23, 23] }, type := 4, pos := _, after := #[{ on := 21, ground := Ground.data }, { on := 22, ground := Ground.data }, { on := 20, ground := Ground.chain }, { on := 20, ground := Ground.guard }], guard := some (20, true) }) rfl (fun K hK => ?_) AllReadyH.nil)
                go_simp
                refine (KS.out _ _ _ _ (HVz.out.call hHeld.1) (HOz.out.call hHeld.1).at').mono ?_
                rintro en wN ⟨rfl, hbN⟩
                have hbH := Lib.hid hbN; clear hbN
                go_wp2_with fail
                refine hK.out _ _ (keep_boxK hHeld hbH.out) (fun hNew => ?_)
                clear hK K hHeld hbH
                have hHeld := hNew; clear hNew
                try simp only [Act.put, List.setIfInBounds_toArray, List.set_cons_zero, List.set_cons_succ]
                refine rtake (i := 24) (v := ?_) { dst := some 95, op := Op.pick (Operand.tmp 91) (Operand.tmp 94) (Operand.const (Value.bool false)), type := 4, pos := _, after := #[{ on := 20, ground := Ground.data }, { on := 23, ground := Ground.data }], guard := none } rfl (by kernel_rfl) (by kernel_rfl) (by kernel_rfl) (fun _ _ _ h => h) (by rfl) hHeld ?_ ?_
                rotate_left
                · intro wS hSw; (try dsimp only at hSw); go_simp <;> with_reducible rfl
                try simp only [Act.put, List.setIfInBounds_toArray, List.set_cons_zero, List.set_cons_succ]
                refine rtake (i := 25) (v := ?_) { dst := some 96, op := Op.move (Operand.tmp 95), type := 4, pos := _, after := #[{ on := 24, ground := Ground.data }, { on := 23, ground := Ground.chain }], guard := none } rfl (by kernel_rfl) (by kernel_rfl) (by kernel_rfl) (fun _ _ _ h => h) (by rfl) hHeld ?_ ?_
                rotate_left
                · intro wS hSw; (try dsimp only at hSw); go_simp <;> with_reducible rfl
                try simp only [Act.put, List.setIfInBounds_toArray, List.set_cons_zero, List.set_cons_succ]
                refine rtake (i := 26) (v := ?_) { dst := some 97, op := Op.move (Operand.tmp 12), type := 4, pos := _, after := #[{ on := 25, ground := Ground.guard }], guard := some (25, true) } rfl (by kernel_rfl) (by kernel_rfl) (by kernel_rfl) (fun _ _ _ h => h) (by rfl) hHeld ?_ ?_
                rotate_left
                · intro wS hSw; (try dsimp only at hSw); go_simp <;> with_reducible rfl
                try simp only [Act.put, List.setIfInBounds_toArray, List.set_cons_zero, List.set_cons_succ]
                refine rtake (i := 27) (v := ?_) { dst := some 98, op := Op.move (Operand.tmp 0), type := 23, pos := _, after := #[{ on := 25, ground := Ground.guard }], guard := some (25, true) } rfl (by kernel_rfl) (by kernel_rfl) (by kernel_rfl) (fun _ _ _ h => h) (by rfl) hHeld ?_ ?_
                rotate_left
                · intro wS hSw; (try dsimp only at hSw); go_simp <;> with_reducible rfl
                try simp only [Act.put, List.setIfInBounds_toArray, List.set_cons_zero, List.set_cons_succ]
                refine rtake (i := 29) (v := ?_) { dst := some 100, op := Op.move (Operand.tmp 1), type := 24, pos := _, after := #[{ on := 25, ground := Ground.guard }], guard := some (25, true) } rfl (by kernel_rfl) (by kernel_rfl) (by kernel_rfl) (fun _ _ _ h => h) (by rfl) hHeld ?_ ?_
                rotate_left
                · intro wS hSw; (try dsimp only at hSw); go_simp <;> with_reducible rfl
                try simp only [Act.put, List.setIfInBounds_toArray, List.set_cons_zero, List.set_cons_succ]
                refine rtake (i := 30) (v := ?_) { dst := some 101, op := Op.build 30 #[(1, Operand.tmp 100)], type := 30, pos := _, after := #[{ on := 29, ground := Ground.data }, { on := 25, ground := Ground.guard }], guard := some (25, true) } rfl (by kernel_rfl) (by kernel_rfl) (by kernel_rfl) (fun _ _ _ h => h) (by rfl) hHeld ?_ ?_
                rotate_left
                · intro wS hSw; (try dsimp only at hSw); go_simp <;> with_reducible rfl
                try simp only [Act.put, List.setIfInBounds_toArray, List.set_cons_zero, List.set_cons_succ]
                refine wpAnyH_ready (rs := [28]) (by kernel_rfl) (by simp) (AllReadyH.cons (o := { dst := some 99, op := Op.call { callee := Callee.value (Operand.func 12), args := #[Operand.tmp 98], argTypes := #[23] }, type := 30, pos := _, after := #[{ on := 27, ground := Ground.data }, { on := 25, ground := Ground.chain }, { on := 25, ground := Ground.guard }], guard := some (25, true) }) rfl (fun K hK => ?_) AllReadyH.nil)
                go_simp
                refine (KCl.out _ _ (HOz.out.call hHeld.1)).mono ?_
                rintro en wN ⟨rfl, hbN⟩
                have hbH := Lib.hid hbN; clear hbN
                go_wp2_with fail
                refine hK.out _ _ (keep_boxK hHeld hbH.out) (fun hNew => ?_)
                clear hK K hHeld hbH
                have hHeld := hNew; clear hNew
                try simp only [Act.put, List.setIfInBounds_toArray, List.set_cons_zero, List.set_cons_succ]
                refine wpAnyH_ready (rs := [31]) (by kernel_rfl) (by simp) (AllReadyH.cons (o := { dst := some 102, op := Op.call { callee := Callee.value (Operand.func 24), args := #[Operand.tmp 99, Operand.tmp 101], argTypes := #[30, 30] }, type := 3, pos := _, after := #[{ on := 28, ground := Ground.data }, { on := 30, ground := Ground.data }, { on := 28, ground := Ground.chain }, { on := 25, ground := Ground.guard }], guard := some (25, true) }) rfl (fun K hK => ?_) AllReadyH.nil)
                go_simp
                refine (KCmp.out _).mono ?_
                rintro en wN ⟨rfl, hbN⟩
                have hbH := Lib.hid hbN; clear hbN
                go_wp2_with fail
                refine hK.out _ _ (keep_boxK hHeld hbH.out) (fun hNew => ?_)
                clear hK K hHeld hbH
                have hHeld := hNew; clear hNew
                try simp only [Act.put, List.setIfInBounds_toArray, List.set_cons_zero, List.set_cons_succ]
                refine rtake (i := 32) (v := ?_) { dst := some 103, op := Op.binOp BinOp.gtr 3 (Operand.tmp 102) (Operand.const (Value.int IntKind.i64 0)) 3, type := 4, pos := _, after := #[{ on := 31, ground := Ground.data }, { on := 25, ground := Ground.guard }], guard := some (25, true) } rfl (by kernel_rfl) (by kernel_rfl) (by kernel_rfl) (fun _ _ _ h => h) (by rfl) hHeld ?_ ?_
                rotate_left
                · intro wS hSw; (try dsimp only at hSw); go_simp <;> with_reducible rfl
                try simp only [Act.put, List.setIfInBounds_toArray, List.set_cons_zero, List.set_cons_succ]
                refine rtake (i := 33) (v := ?_) { dst := some 104, op := Op.binOp BinOp.eql 4 (Operand.tmp 97) (Operand.tmp 103) 4, type := 4, pos := _, after := #[{ on := 26, ground := Ground.data }, { on := 32, ground := Ground.data }, { on := 25, ground := Ground.guard }], guard := some (25, true) } rfl (by kernel_rfl) (by kernel_rfl) (by kernel_rfl) (fun _ _ _ h => h) (by rfl) hHeld ?_ ?_
                rotate_left
                · intro wS hSw; (try dsimp only at hSw); go_simp <;> with_reducible rfl
                try simp only [Act.put, List.setIfInBounds_toArray, List.set_cons_zero, List.set_cons_succ]
                refine rtake (i := 34) (v := ?_) { dst := some 105, op := Op.pick (Operand.tmp 96) (Operand.tmp 104) (Operand.const (Value.bool false)), type := 4, pos := _, after := #[{ on := 25, ground := Ground.data }, { on := 33, ground := Ground.data }], guard := none } rfl (by kernel_rfl) (by kernel_rfl) (by kernel_rfl) (fun _ _ _ h => h) (by rfl) hHeld ?_ ?_
                rotate_left
                · intro wS hSw; (try dsimp only at hSw); go_simp <;> with_reducible rfl
                try simp only [Act.put, List.setIfInBounds_toArray, List.set_cons_zero, List.set_cons_succ]
                refine rtake (i := 35) (v := ?_) { dst := some 4, op := Op.assign (Operand.tmp 105), type := 4, pos := _, after := #[{ on := 34, ground := Ground.data }, { on := 31, ground := Ground.chain }, { on := 0, ground := Ground.phase }, { on := 1, ground := Ground.phase }, { on := 2, ground := Ground.phase }, { on := 3, ground := Ground.phase }, { on := 4, ground := Ground.phase }, { on := 5, ground := Ground.phase }, { on := 6, ground := Ground.phase }, { on := 7, ground := Ground.phase }, { on := 8, ground := Ground.phase }, { on := 9, ground := Ground.phase }, { on := 10, ground := Ground.phase }, { on := 11, ground := Ground.phase }, { on := 12, ground := Ground.phase }, { on := 13, ground := Ground.phase }, { on := 14, ground := Ground.phase }, { on := 15, ground := Ground.phase }, { on := 16, ground := Ground.phase }, { on := 17, ground := Ground.phase }, { on := 18, ground := Ground.phase }, { on := 19, ground := Ground.phase }, { on := 20, ground := Ground.phase }, { on := 21, ground := Ground.phase }, { on := 22, ground := Ground.phase }, { on := 23, ground := Ground.phase }, { on := 24, ground := Ground.phase }, { on := 25, ground := Ground.phase }, { on := 26, ground := Ground.phase }, { on := 27, ground := Ground.phase }, { on := 28, ground := Ground.phase }, { on := 29, ground := Ground.phase }, { on := 30, ground := Ground.phase }, { on := 31, ground := Ground.phase }, { on := 32, ground := Ground.phase }, { on := 33, ground := Ground.phase }, { on := 34, ground := Ground.phase }], guard := none } rfl (by kernel_rfl) (by kernel_rfl) (by kernel_rfl) (fun _ _ _ h => h) (by rfl) hHeld ?_ ?_
                rotate_left
                · intro wS hSw; (try dsimp only at hSw); go_simp <;> with_reducible rfl
                try simp only [Act.put, List.setIfInBounds_toArray, List.set_cons_zero, List.set_cons_succ]
                refine wpAnyH_done (by kernel_rfl) ?_ _
                go_wp2_with fail
                go_ret
                exact ⟨rfl, below_call HBz.out hHeld.1⟩
  · obtain ⟨p, n0, cap, rfl⟩ := arg_shape (.inr ha)
    have KR := Lib.hid (right6_bad _ w ha)
    have KA := Lib.hid (fun W => alive6_any C W)
    clear ha C
    go_enter Try.func7, Try.ntmps7
    go_wp2_with fail
    refine KR.out.mono ?_
    rintro e w1 ⟨rfl, h⟩
    have H1 := Lib.hid h; clear h
    go_wp2_with fail
    refine (KA.out _).mono ?_
    rintro e w2 ⟨rfl, h⟩
    have H2 := Lib.hid (below_call H1.out h); clear h
    go_wp2_with fail
    go_ret
    exact ⟨rfl, H2.out⟩
end Go.Proofs.Ytnihmmhmndgagaa
