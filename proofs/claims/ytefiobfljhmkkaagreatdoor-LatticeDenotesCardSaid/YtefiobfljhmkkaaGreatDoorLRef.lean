/- The reference's calculations with vectors: what is known of a replica, one version, how many; and the laws' look at their vectors. Conditions: as each theorem says. -/
import Derived.Test.YtefiobfljhmkkaaGreatDoorPMath
import Derived.Test.YtefiobfljhmkkaaGreatDoorRPut
import Derived.Test.YtefiobfljhmkkaaGreatDoorPAlive
import Derived.Test.YtefiobfljhmkkaaGreatDoorRRef2
import Derived.Test.YtefiobfljhmkkaaGreatDoorOAlg
import Derived.Test.YtefiobfljhmkkaaGreatDoorMCount
namespace Go.Proofs.YtefiobfljhmkkaaGreatDoor
open Go.RowKit
/-- A vector of moderate size. -/
def smallV (n h : Nat) (V : List (Int × Int × List Iv)) : Prop := V.length ≤ n ∧ ∀ x ∈ V, x.2.2.length ≤ h
/-- A vector that the laws take; one that they turn away. -/
def okV10 (w : World) (v : Value) : Prop := ∃ V, VecS w v V ∧ GoodV V ∧ smallV 20 30 V
theorem okV10.call {w w' : World} {v : Value} (h : okV10 w v) (hb : Below w.heap.size w w') : okV10 w' v := by
  obtain ⟨V, h1, h2, h3⟩ := h
  exact ⟨V, h1.call hb, h2, h3⟩
/-- What the look says of a vector that came in: (Few, Right). -/
structure Look10 (w : World) (v : Value) (b c : Bool) : Prop where
  sh : ∃ p n c, v = .slice p n c
  few : ∀ W, Below w.heap.size w W → Calls Tryz.prog 12 #[v] W (IsEnd b W)
  right : b = true → ∀ W, Below w.heap.size w W → Calls Tryz.prog 13 #[v] W (IsEnd c W)
  ok : b = true → c = true → okV10 w v
theorem vecArg.look {w : World} {v : Value} (h : vecArg w v) : ∃ b c, Look10 w v b c := by
  obtain ⟨hsh, b, hf, hv⟩ := h.few
  cases b with
  | false => exact ⟨false, false, hsh, hf, (fun e => by cases e), fun e => by cases e⟩
  | true =>
    obtain ⟨V, h1, h2, h3⟩ := hv rfl
    exact ⟨true, rightV V, hsh, hf, fun _ W hb => refRight9_any V v W (h1.m.call hb), fun _ e => ⟨V, h1, good_of_right h1.m.all64 e, h2, h3⟩⟩
set_option maxRecDepth 100000 in
set_option maxHeartbeats 4000000 in
/-- The look at a literal list of vectors: the first m are right, the next one is not, if there is one. -/
theorem rights10_upto (n bl cp : Nat) (vs : Nat → Value) (bs cs : Nat → Bool) (w W0 : World) (m : Nat) (hm : m ≤ n) (hn : n ≤ 100) (hW : Below W0.heap.size W0 w) (hcell : ∀ i, i < n → w.cell? ⟨bl, i, none⟩ = some (vs i))
    (hl : ∀ i, i < n → Look10 W0 (vs i) (bs i) (cs i)) (hok : ∀ i, i < m → bs i = true ∧ cs i = true) (hbad : m < n → bs m = false ∨ cs m = false) :
    Calls Tryz.prog 4 #[.slice (some ⟨bl, 0, none⟩) n cp] w (IsEnd (decide (m = n)) w) := by
  have HC := Lib.hid hcell; have HK := Lib.hid hok; have HD := Lib.hid hbad; have HL := Lib.hid hl; have HW := Lib.hid hW
  clear hcell hok hbad hl hW
  go_enter Tryz.func4, Tryz.ntmps4
  go_wp2_with fail
  go_loopw [7] (fun i wr => ∃ k : Nat, k ≤ m ∧ i = .int .i64 k ∧ Below w.heap.size w wr) (fun i _ => n - (intOf i).toNat)
  case atStart => exact ⟨0, Nat.zero_le _, rfl, Below.refl _ _⟩
  case round =>
    obtain ⟨k, hk, rfl, hb⟩ := hrel
    have HB := Lib.hid hb; clear hb
    have HBW := Lib.hid (below_call HW.out HB.out)
    by_cases hlt : k < n
    · have c0 := keep_cell (HC.out k hlt) HB.out
      obtain ⟨⟨pv, nv, cv, hv⟩, hf, hr, _⟩ := HL.out k hlt
      have i1 : (0 : Int) ≤ (k : Int) := by omega
      have i2 : (k : Int) < (n : Int) := by omega
      have c1 : wr.cell? ⟨bl, 0 + k, none⟩ = some (.slice pv nv cv) := by rw [Nat.zero_add, ← hv]; simpa using c0
      have c2 : wr.cell? ⟨bl, k, none⟩ = some (.slice pv nv cv) := by rw [← hv]; simpa using c0
      rw [hv] at hf hr
      have KF := Lib.hid hf; have KR := Lib.hid hr
      clear hf hr c0 hv
      have hkb : k < m → bs k = true ∧ cs k = true := HK.out k
      have hkd : ¬ k < m → (bs k = false ∨ cs k = false) ∧ k = m := fun h => by
        obtain rfl : k = m := by omega
        exact ⟨HD.out hlt, rfl⟩
      obtain ⟨b, hbk⟩ : ∃ b, bs k = b := ⟨_, rfl⟩
      obtain ⟨c, hck⟩ : ∃ c, cs k = c := ⟨_, rfl⟩
      rw [hbk] at KF KR
      rw [hck] at KR
      rw [hbk, hck] at hkb hkd
      have HKB := Lib.hid hkb; have HKD := Lib.hid hkd
      clear hkb hkd hbk hck
      go_wp2_with fail
      refine (KF.out _ HBW.out).mono ?_
      rintro e w1 ⟨rfl, h⟩
      have H1 := Lib.hid (below_call HB.out h)
      have H1W := Lib.hid (below_call HBW.out h); clear h c1 c2
      cases b with
      | false =>
        have hnm : ¬ k < m := fun h => by have := (HKB.out h).1; cases this
        obtain ⟨_, rfl⟩ := HKD.out hnm
        have hd : decide (k = n) = false := by simp; omega
        go_wp2_with fail
        go_ret
        exact ⟨by rw [hd]; rfl, H1.out⟩
      | true =>
        go_wp2_with fail
        refine (KR.out (by trivial) _ H1W.out).mono ?_
        rintro e w2 ⟨rfl, h⟩
        have H2 := Lib.hid (below_call H1.out h); clear h
        cases c with
        | false =>
          have hnm : ¬ k < m := fun h => by have := (HKB.out h).2; cases this
          obtain ⟨_, rfl⟩ := HKD.out hnm
          have hd : decide (k = n) = false := by simp; omega
          go_wp2_with fail
          go_ret
          exact ⟨by rw [hd]; rfl, H2.out⟩
        | true =>
          have hkm : k < m := Nat.lt_of_not_le fun h => by
            rcases (HKD.out (by omega)).1 with e | e <;> cases e
          go_wp2_with fail
          go_roundw
          case rel => exact ⟨k + 1, by omega, by go_num, H2.out⟩
          case measure => simp [intOf]; omega
    · obtain rfl : k = n := by omega
      obtain rfl : k = m := by omega
      rw [decide_eq_true rfl]
      go_wp2_with fail
      go_ret
      exact ⟨rfl, HB.out⟩
theorem rights10_any (n bl cp : Nat) (vs : Nat → Value) (w W0 : World) (hn : n ≤ 100) (hW : Below W0.heap.size W0 w) (hcell : ∀ i, i < n → w.cell? ⟨bl, i, none⟩ = some (vs i)) (ha : ∀ i, i < n → vecArg W0 (vs i)) :
    ∃ b : Bool, (b = true → ∀ i, i < n → okV10 W0 (vs i)) ∧ Calls Tryz.prog 4 #[.slice (some ⟨bl, 0, none⟩) n cp] w (IsEnd b w) := by
  have hex : ∃ (bs cs : Nat → Bool), ∀ i, i < n → Look10 W0 (vs i) (bs i) (cs i) := by
    refine ⟨fun i => if h : i < n then Classical.choose (ha i h).look else false, fun i => if h : i < n then Classical.choose (Classical.choose_spec (ha i h).look) else false, fun i h => ?_⟩
    simp only [dif_pos h]
    exact Classical.choose_spec (Classical.choose_spec (ha i h).look)
  obtain ⟨bs, cs, hl⟩ := hex
  have first : ∀ d, d ≤ n → (∀ i, i < d → bs i = true ∧ cs i = true) ∨ ∃ m, m < d ∧ (∀ i, i < m → bs i = true ∧ cs i = true) ∧ (bs m = false ∨ cs m = false) := by
    intro d
    induction d with
    | zero => intro _; exact .inl fun i hi => absurd hi (Nat.not_lt_zero i)
    | succ d ih =>
      intro hd
      rcases ih (by omega) with h | ⟨m, h1, h2, h3⟩
      · cases hb : bs d with
        | false => exact .inr ⟨d, Nat.lt_succ_self d, h, .inl hb⟩
        | true =>
          cases hc : cs d with
          | false => exact .inr ⟨d, Nat.lt_succ_self d, h, .inr hc⟩
          | true =>
            refine .inl fun i hi => ?_
            rcases Nat.lt_or_eq_of_le (Nat.le_of_lt_succ hi) with h' | h'
            · exact h i h'
            · subst h'; exact ⟨hb, hc⟩
      · exact .inr ⟨m, by omega, h2, h3⟩
  rcases first n (Nat.le_refl _) with h | ⟨m, h1, h2, h3⟩
  · refine ⟨true, fun _ i hi => (hl i hi).ok (h i hi).1 (h i hi).2, ?_⟩
    have k := rights10_upto n bl cp vs bs cs w W0 n (Nat.le_refl _) hn hW hcell hl h (fun e => absurd e (Nat.lt_irrefl _))
    rwa [decide_eq_true rfl] at k
  · refine ⟨false, (fun e => by cases e), ?_⟩
    have k := rights10_upto n bl cp vs bs cs w W0 m (by omega) hn hW hcell hl h2 (fun _ => h3)
    rwa [show decide (m = n) = false from by simp; omega] at k
end Go.Proofs.YtefiobfljhmkkaaGreatDoor

/- What the laws of layer 10 ask of package lattice, and of the reference's operations. Conditions: as each theorem says. -/
namespace Go.Proofs.YtefiobfljhmkkaaGreatDoor
open Go.RowKit
theorem smallV.mono {n h n' h' : Nat} {V : List (Int × Int × List Iv)} (s : smallV n h V) (hn : n ≤ n') (hh : h ≤ h') : smallV n' h' V := ⟨Nat.le_trans s.1 hn, fun x hx => Nat.le_trans (s.2 x hx) hh⟩
theorem or_good {A B : List (Int × Int × List Iv)} (gA : GoodV A) (gB : GoodV B) : GoodV (opV orL A B) := (opV_good (fun _ _ h h' => orL_good h h') gA gB).1
theorem and_good {A B : List (Int × Int × List Iv)} (gA : GoodV A) (gB : GoodV B) : GoodV (opV andL A B) := (opV_good (fun _ _ h h' => andL_good h h') gA gB).1
theorem sub_good {A B : List (Int × Int × List Iv)} (gA : GoodV A) (gB : GoodV B) : GoodV (opV subL A B) := (opV_good (fun _ _ h h' => subL_good h h') gA gB).1
theorem or_kn {A B : List (Int × Int × List Iv)} (gA : GoodV A) (gB : GoodV B) (r : Int) : knV (opV orL A B) r = orL (knV A r) (knV B r) := opV_kn (fun _ _ h h' => orL_good h h') rfl gA gB r
theorem and_kn {A B : List (Int × Int × List Iv)} (gA : GoodV A) (gB : GoodV B) (r : Int) : knV (opV andL A B) r = andL (knV A r) (knV B r) := opV_kn (fun _ _ h h' => andL_good h h') rfl gA gB r
theorem sub_kn {A B : List (Int × Int × List Iv)} (gA : GoodV A) (gB : GoodV B) (r : Int) : knV (opV subL A B) r = subL (knV A r) (knV B r) := opV_kn (fun _ _ h h' => subL_good h h') rfl gA gB r
/-- A result is what it is known by. -/
theorem op_is {f : List Iv → List Iv → List Iv} (hf : ∀ K L, GoodL K → GoodL L → GoodL (f K L)) (f0 : f [] [] = []) {A B W : List (Int × Int × List Iv)} (gA : GoodV A) (gB : GoodV B) (gW : GoodV W) (cW : ∀ y ∈ W, canonB y.2.1 y.2.2 = true) (h : ∀ r, f (knV A r) (knV B r) = knV W r) : opV f A B = W :=
  canV_eq (opV_good hf gA gB).1 (opV_good hf gA gB).2 gW cW fun r => by rw [opV_kn hf f0 gA gB, h r]
theorem sub_nil_of {K L : List Iv} (hK : GoodL K) (hL : GoodL L) (h : ∀ x, hasL K x = true → hasL L x = true) : subL K L = [] := good_eq (subL_good hK hL) good_nil fun x => by
  rw [sub_has hK hL]
  cases hk : hasL K x with
  | false => rfl
  | true => rw [h x hk]; rfl
theorem sub_or10 {A B : List (Int × Int × List Iv)} (gA : GoodV A) (gB : GoodV B) : opV subL A (opV orL A B) = [] := (opV_nil (fun _ _ h h' => subL_good h h') rfl gA (or_good gA gB)).2 fun r => by
  rw [or_kn gA gB]
  exact sub_nil_of (knV_good gA r) (orL_good (knV_good gA r) (knV_good gB r)) fun x hx => by rw [or_has (knV_good gA r) (knV_good gB r), hx]; rfl
theorem small_one (r c : Int) : smallV 1 6 (oneV r c) := ⟨by simp [oneV], fun x hx => by
  rw [List.mem_singleton.1 hx]
  have := holes_len (L := [(c, c)])
  simp at this
  dsimp only
  omega⟩
/-- A call that returns a count. -/
def IsCt (n : Int) (w : World) (e : Ending) (w' : World) : Prop := e = .returned (.agg #[.int .u64 (n / 18446744073709551616), .int .u64 (n % 18446744073709551616)]) ∧ Below w.heap.size w w'
/-- The contracts of package lattice. -/
structure LatC : Prop where
  uni : ∀ (A B : List (Int × Int × List Iv)) (a b : Value) (w : World), VecS w a A → VecS w b B → GoodV A → GoodV B → smallV 1000 1000 A → smallV 1000 1000 B → Calls Tryz.prog 6 #[a, b] w (IsVN (opV orL A B) w)
  meet : ∀ (A B : List (Int × Int × List Iv)) (a b : Value) (w : World), VecS w a A → VecS w b B → GoodV A → GoodV B → smallV 1000 1000 A → smallV 1000 1000 B → Calls Tryz.prog 7 #[a, b] w (IsVN (opV andL A B) w)
  minus : ∀ (A B : List (Int × Int × List Iv)) (a b : Value) (w : World), VecS w a A → VecS w b B → GoodV A → GoodV B → smallV 1000 1000 A → smallV 1000 1000 B → Calls Tryz.prog 8 #[a, b] w (IsVN (opV subL A B) w)
  sub : ∀ (A B : List (Int × Int × List Iv)) (a b : Value) (w : World), VecS w a A → VecS w b B → GoodV A → GoodV B → smallV 1000 1000 A → smallV 1000 1000 B → Calls Tryz.prog 15 #[a, b] w (IsEnd (decide (opV subL A B = [])) w)
  add : ∀ (V : List (Int × Int × List Iv)) (v : Value) (r c : Int) (w : World), VecS w v V → GoodV V → smallV 1000 1000 V → 0 ≤ r → r ≤ 18446744073709551615 → 0 ≤ c → c ≤ 18446744073709551615 → Calls Tryz.prog 17 #[v, .int .u64 r, .int .u64 c] w (IsVN (opV orL V (oneV r c)) w)
  cnt : ∀ (V : List (Int × Int × List Iv)) (v : Value) (w : World), VecS w v V → GoodV V → smallV 1000 1000 V → Calls Tryz.prog 16 #[v] w (IsCt (cntV V) w)
/-- What the laws of layer 10 ask of package vector. -/
def VHasC : Prop := ∀ (V : List (Int × Int × List Iv)) (v : Value) (r c : Int) (w : World), VecS w v V → GoodV V → 0 ≤ r → r ≤ 18446744073709551615 → 0 ≤ c → c ≤ 18446744073709551615 → Calls Tryz.prog 11 #[v, .int .u64 r, .int .u64 c] w (IsEnd (hasV V r c) w)
end Go.Proofs.YtefiobfljhmkkaaGreatDoor

/- The example of chapter 10, in every state. Conditions: the contracts of package lattice. -/
namespace Go.Proofs.YtefiobfljhmkkaaGreatDoor
open Go.RowKit
theorem known_nil {m : Int} (h0 : 0 ≤ m) (h1 : m ≤ 18446744073709551615) : knownL m [] = [(0, m)] := by
  have g : GoodE m [] := ⟨good_nil, h0, h1, fun y hy => by cases hy⟩
  refine good_ext (known_good g) (good_one h0 (Int.le_refl _) h1) fun c hc => ?_
  rw [known_has g hc, one_has hc]
  unfold hasE
  simp [hasL]
def aV10 : List (Int × Int × List Iv) := [(1, 4, [])]
def bV10 : List (Int × Int × List Iv) := [(2, 3, [])]
def uV10 : List (Int × Int × List Iv) := [(1, 4, []), (2, 3, [])]
theorem ent10 {m : Int} (h0 : 0 ≤ m) (h1 : m ≤ 18446744073709551615) : GoodE m [] := ⟨good_nil, h0, h1, fun y hy => by cases hy⟩
theorem aG10 : GoodV aV10 := ⟨fun x hx => by rw [List.mem_singleton.1 hx]; exact ent10 (by decide) (by decide), List.pairwise_singleton _ _⟩
theorem bG10 : GoodV bV10 := ⟨fun x hx => by rw [List.mem_singleton.1 hx]; exact ent10 (by decide) (by decide), List.pairwise_singleton _ _⟩
theorem uG10 : GoodV uV10 := ⟨fun x hx => by
  simp [uV10] at hx
  rcases hx with rfl | rfl
  · exact ent10 (by decide) (by decide)
  · exact ent10 (by decide) (by decide), by
  unfold uV10
  exact List.pairwise_cons.2 ⟨fun y hy => by rw [List.mem_singleton.1 hy]; decide, List.pairwise_singleton _ _⟩⟩
theorem bC10 : ∀ y ∈ bV10, canonB y.2.1 y.2.2 = true := fun y hy => by rw [List.mem_singleton.1 hy]; rfl
theorem uC10 : ∀ y ∈ uV10, canonB y.2.1 y.2.2 = true := fun y hy => by
  simp [uV10] at hy
  rcases hy with rfl | rfl <;> rfl
theorem aK10 (r : Int) : knV aV10 r = if r = 1 then [(0, 4)] else [] := by
  by_cases h : r = 1
  · subst h
    rw [if_pos rfl, ← known_nil (m := 4) (by decide) (by decide)]
    exact knV_mem aG10.asc (x := (1, 4, [])) (by simp [aV10])
  · rw [if_neg h]
    exact knV_none fun x hx e => by rw [List.mem_singleton.1 hx] at e; exact h e.symm
theorem bK10 (r : Int) : knV bV10 r = if r = 2 then [(0, 3)] else [] := by
  by_cases h : r = 2
  · subst h
    rw [if_pos rfl, ← known_nil (m := 3) (by decide) (by decide)]
    exact knV_mem bG10.asc (x := (2, 3, [])) (by simp [bV10])
  · rw [if_neg h]
    exact knV_none fun x hx e => by rw [List.mem_singleton.1 hx] at e; exact h e.symm
theorem uK10 (r : Int) : knV uV10 r = if r = 1 then [(0, 4)] else if r = 2 then [(0, 3)] else [] := by
  by_cases h : r = 1
  · subst h
    rw [if_pos rfl, ← known_nil (m := 4) (by decide) (by decide)]
    exact knV_mem uG10.asc (x := (1, 4, [])) (by simp [uV10])
  · rw [if_neg h]
    by_cases h2 : r = 2
    · subst h2
      rw [if_pos rfl, ← known_nil (m := 3) (by decide) (by decide)]
      exact knV_mem uG10.asc (x := (2, 3, [])) (by simp [uV10])
    · rw [if_neg h2]
      exact knV_none fun x hx e => by
        simp [uV10] at hx
        rcases hx with rfl | rfl
        · exact h e.symm
        · exact h2 e.symm
theorem g04 : GoodL [((0 : Int), (4 : Int))] := good_one (by decide) (by decide) (by decide)
theorem g03 : GoodL [((0 : Int), (3 : Int))] := good_one (by decide) (by decide) (by decide)
theorem and_nil10 {K : List Iv} (hK : GoodL K) : andL K [] = [] := good_eq (andL_good hK good_nil) good_nil fun x => by rw [and_has hK good_nil]; simp [hasL]
theorem nil_and10 {K : List Iv} (hK : GoodL K) : andL [] K = [] := good_eq (andL_good good_nil hK) good_nil fun x => by rw [and_has good_nil hK]; simp [hasL]
theorem sub_nil10 {K : List Iv} (hK : GoodL K) : subL K [] = K := good_eq (subL_good hK good_nil) hK fun x => by rw [sub_has hK good_nil]; simp [hasL]
theorem ex10_or : opV orL aV10 bV10 = uV10 := op_is (fun _ _ h h' => orL_good h h') rfl aG10 bG10 uG10 uC10 fun r => by
  rw [aK10, bK10, uK10]
  by_cases h : r = 1
  · subst h; rw [if_pos rfl, if_neg (by decide), if_pos rfl, or_nil8' g04]
  · rw [if_neg h, if_neg h]
    by_cases h2 : r = 2
    · rw [if_pos h2, or_nil8 g03]
    · rw [if_neg h2]; rfl
theorem ex10_and : opV andL aV10 bV10 = [] := (opV_nil (fun _ _ h h' => andL_good h h') rfl aG10 bG10).2 fun r => by
  rw [aK10, bK10]
  by_cases h : r = 1
  · subst h; rw [if_pos rfl, if_neg (by decide), and_nil10 g04]
  · rw [if_neg h]
    by_cases h2 : r = 2
    · rw [if_pos h2, nil_and10 g03]
    · rw [if_neg h2]; rfl
theorem ex10_sub : opV subL uV10 aV10 = bV10 := op_is (fun _ _ h h' => subL_good h h') rfl uG10 aG10 bG10 bC10 fun r => by
  rw [aK10, bK10, uK10]
  by_cases h : r = 1
  · subst h; rw [if_pos rfl, if_pos rfl, if_neg (by decide), sub_self' g04]
  · rw [if_neg h, if_neg h]
    by_cases h2 : r = 2
    · rw [if_pos h2, sub_nil10 g03]
    · rw [if_neg h2]; rfl
theorem ex10_in : decide (opV subL aV10 uV10 = []) = true := by
  rw [← ex10_or, sub_or10 aG10 bG10]; rfl
theorem ex10_out : decide (opV subL uV10 aV10 = []) = false := by rw [ex10_sub]; rfl
theorem ex10_cnt : cntV uV10 = 9 := by
  unfold cntV uV10
  simp only [List.map_cons, List.map_nil]
  rw [known_nil (m := 4) (by decide) (by decide), known_nil (m := 3) (by decide) (by decide)]
  rfl
theorem nilG10 : GoodV [] := ⟨(fun x hx => by cases hx), List.Pairwise.nil⟩
theorem oneH10 : holesL [((0 : Int), (0 : Int))] = [] := by
  unfold holesL
  rw [if_neg (by simp)]
  exact sub_self' (single_good (by decide) (by decide))
theorem ex10_add : opV orL [] (oneV 3 0) = [(3, 0, [])] := by
  have g1 := oneV_good (r := 3) (c := 0) (by decide) (by decide)
  have e : oneV 3 0 = [(3, 0, [])] := by unfold oneV; rw [oneH10]; rfl
  have c : ∀ y ∈ oneV 3 0, canonB y.2.1 y.2.2 = true := fun y hy => by rw [e] at hy; rw [List.mem_singleton.1 hy]; rfl
  rw [op_is (fun _ _ h h' => orL_good h h') rfl nilG10 g1 g1 c fun r => by rw [show knV [] r = [] from rfl, or_nil8 (knV_good g1 r)], e]
theorem small10 {V : List (Int × Int × List Iv)} (h : V.length ≤ 2) (h' : ∀ x ∈ V, x.2.2 = []) : smallV 1000 1000 V := ⟨by omega, fun x hx => by rw [h' x hx]; simp⟩
theorem aS10 : smallV 1000 1000 aV10 := small10 (by decide) fun x hx => by rw [List.mem_singleton.1 hx]
theorem bS10 : smallV 1000 1000 bV10 := small10 (by decide) fun x hx => by rw [List.mem_singleton.1 hx]
theorem uS10 : smallV 1000 1000 uV10 := small10 (by decide) fun x hx => by
  simp [uV10] at hx
  rcases hx with rfl | rfl <;> rfl
theorem any10 (w : World) (m : Int) (h0 : 0 ≤ m) (h1 : m ≤ 18446744073709551615) : AnyAt w (.slice none 0 0) m [] := ⟨ivs_nil _, (fun x hx => by cases hx), sane_nil, h0, h1, by simp⟩
set_option maxRecDepth 100000 in
set_option maxHeartbeats 4000000 in
theorem alive10_any (C : LatC) (w : World) : Calls Tryz.prog 5 #[] w (IsEnd true w) := by
  have K1 := Lib.hid (fun a b W ha hb => (by have k := C.uni aV10 bV10 a b W ha hb aG10 bG10 aS10 bS10; rw [ex10_or] at k; exact k : Calls Tryz.prog 6 #[a, b] W (IsVN uV10 W)))
  have K2 := Lib.hid (fun a b W ha hb => (by have k := C.meet aV10 bV10 a b W ha hb aG10 bG10 aS10 bS10; rw [ex10_and] at k; exact k : Calls Tryz.prog 7 #[a, b] W (IsVN [] W)))
  have K3 := Lib.hid (fun a b W ha hb => (by have k := C.minus uV10 aV10 a b W ha hb uG10 aG10 uS10 aS10; rw [ex10_sub] at k; exact k : Calls Tryz.prog 8 #[a, b] W (IsVN bV10 W)))
  have K4 := Lib.hid (fun a b W ha hb => (by have k := C.sub aV10 uV10 a b W ha hb aG10 uG10 aS10 uS10; rw [ex10_in] at k; exact k : Calls Tryz.prog 15 #[a, b] W (IsEnd true W)))
  have K5 := Lib.hid (fun a b W ha hb => (by have k := C.sub uV10 aV10 a b W ha hb uG10 aG10 uS10 aS10; rw [ex10_out] at k; exact k : Calls Tryz.prog 15 #[a, b] W (IsEnd false W)))
  have K6 := Lib.hid (fun a W ha => (by have k := C.cnt uV10 a W ha uG10 uS10; rw [ex10_cnt] at k; exact k : Calls Tryz.prog 16 #[a] W (fun e w' => e = .returned (.agg #[.int .u64 0, .int .u64 9]) ∧ Below W.heap.size W w')))
  have K7 := Lib.hid (fun W => (by have k := C.add [] (.slice none 0 0) 3 0 W (vec_nil9 W) nilG10 (small10 (by decide) fun x hx => by cases hx) (by decide) (by decide) (by decide) (by decide); rw [ex10_add] at k; exact k : Calls Tryz.prog 17 #[.slice none 0 0, .int .u64 3, .int .u64 0] W (IsVN [(3, 0, [])] W)))
  have KS := Lib.hid (fun V v v' W h h2 => same9_self V v v' W h h2)
  clear C
  obtain ⟨w1, hw1⟩ : ∃ w', w.alloc (.cells #[.int .u64 1, .int .u64 4, .slice none 0 0] 36) = w' := ⟨_, rfl⟩
  have h : Below w.heap.size w w1 := hw1 ▸ below_new w _
  have HB_1 := Lib.hid h
  clear h
  have hA : VecS w1 (.slice (some ⟨w.heap.size, 0, none⟩) 1 1) aV10 := vec_one9 (by rw [← hw1]; simp) (by rw [← hw1]; simp) (by rw [← hw1]; simp) (any10 _ 4 (by decide) (by decide)) (by decide)
  have HVA_1 := Lib.hid (hA)
  clear hA
  obtain ⟨w2, hw2⟩ : ∃ w', w1.alloc (.cells #[.int .u64 2, .int .u64 3, .slice none 0 0] 36) = w' := ⟨_, rfl⟩
  have h : Below w1.heap.size w1 w2 := hw2 ▸ below_new w1 _
  have HVA_2 := Lib.hid (HVA_1.out.call h)
  clear HVA_1
  have HB_2 := Lib.hid (below_call HB_1.out h)
  clear h
  have hB : VecS w2 (.slice (some ⟨w1.heap.size, 0, none⟩) 1 1) bV10 := vec_one9 (by rw [← hw2]; simp) (by rw [← hw2]; simp) (by rw [← hw2]; simp) (any10 _ 3 (by decide) (by decide)) (by decide)
  have HVB_2 := Lib.hid (hB)
  clear hB
  go_enter Tryz.func5, Tryz.ntmps5
  go_wp2_with fail
  clear hw1 hw2
  refine (K1.out _ _ _ HVA_2.out HVB_2.out).mono ?_
  rintro e w3 ⟨u, rfl, hu, _, h⟩
  obtain ⟨pu, cu, eu⟩ := hu.m.shape
  subst eu
  have HVA_3 := Lib.hid (HVA_2.out.call h)
  clear HVA_2
  have HVB_3 := Lib.hid (HVB_2.out.call h)
  clear HVB_2
  have HB_3 := Lib.hid (below_call HB_2.out h)
  clear h
  have HU_3 := Lib.hid (hu)
  clear hu
  obtain ⟨w4, hw4⟩ : ∃ w', w3.alloc (.cells #[.int .u64 1, .int .u64 4, .slice none 0 0, .int .u64 2, .int .u64 3, .slice none 0 0] 36) = w' := ⟨_, rfl⟩
  have h : Below w3.heap.size w3 w4 := hw4 ▸ below_new w3 _
  have HVA_4 := Lib.hid (HVA_3.out.call h)
  clear HVA_3
  have HVB_4 := Lib.hid (HVB_3.out.call h)
  clear HVB_3
  have HU_4 := Lib.hid (HU_3.out.call h)
  clear HU_3
  have HB_4 := Lib.hid (below_call HB_3.out h)
  clear h
  have hT : VecS w4 (.slice (some ⟨w3.heap.size, 0, none⟩) 2 2) uV10 := vec_two9 (by rw [← hw4]; simp) (by rw [← hw4]; simp) (by rw [← hw4]; simp) (by rw [← hw4]; simp) (by rw [← hw4]; simp) (by rw [← hw4]; simp) (any10 _ 4 (by decide) (by decide)) (any10 _ 3 (by decide) (by decide)) (by decide) (by decide)
  have HT_4 := Lib.hid (hT)
  clear hT
  go_wp2_with fail
  clear hw4
  refine (KS.out uV10 _ _ _ HU_4.out.m.i HT_4.out.m.i).mono ?_
  rintro e w5 ⟨rfl, h⟩
  have HVA_5 := Lib.hid (HVA_4.out.call h)
  clear HVA_4
  have HVB_5 := Lib.hid (HVB_4.out.call h)
  clear HVB_4
  have HU_5 := Lib.hid (HU_4.out.call h)
  clear HU_4
  have HT_5 := Lib.hid (HT_4.out.call h)
  clear HT_4
  have HB_5 := Lib.hid (below_call HB_4.out h)
  clear h
  go_wp2_with fail
  refine (K2.out _ _ _ HVA_5.out HVB_5.out).mono ?_
  rintro e w6 ⟨u2, rfl, hu2, _, h⟩
  obtain ⟨p2, c2, eu⟩ := hu2.m.shape
  subst eu
  clear hu2
  have HVA_6 := Lib.hid (HVA_5.out.call h)
  clear HVA_5
  have HVB_6 := Lib.hid (HVB_5.out.call h)
  clear HVB_5
  have HU_6 := Lib.hid (HU_5.out.call h)
  clear HU_5
  have HB_6 := Lib.hid (below_call HB_5.out h)
  clear h
  go_wp2_with fail
  refine (K3.out _ _ _ HU_6.out HVA_6.out).mono ?_
  rintro e w7 ⟨u3, rfl, hu3, _, h⟩
  obtain ⟨p3, c3, eu⟩ := hu3.m.shape
  subst eu
  have HVA_7 := Lib.hid (HVA_6.out.call h)
  clear HVA_6
  have HVB_7 := Lib.hid (HVB_6.out.call h)
  clear HVB_6
  have HU_7 := Lib.hid (HU_6.out.call h)
  clear HU_6
  have HB_7 := Lib.hid (below_call HB_6.out h)
  clear h
  have HT_7 := Lib.hid (hu3)
  clear hu3
  go_wp2_with fail
  refine (KS.out bV10 _ _ _ HT_7.out.m.i HVB_7.out.m.i).mono ?_
  rintro e w8 ⟨rfl, h⟩
  have HVA_8 := Lib.hid (HVA_7.out.call h)
  clear HVA_7
  have HVB_8 := Lib.hid (HVB_7.out.call h)
  clear HVB_7
  have HU_8 := Lib.hid (HU_7.out.call h)
  clear HU_7
  have HT_8 := Lib.hid (HT_7.out.call h)
  clear HT_7
  have HB_8 := Lib.hid (below_call HB_7.out h)
  clear h
  go_wp2_with fail
  refine (K4.out _ _ _ HVA_8.out HU_8.out).mono ?_
  rintro e w9 ⟨rfl, h⟩
  have HVA_9 := Lib.hid (HVA_8.out.call h)
  clear HVA_8
  have HVB_9 := Lib.hid (HVB_8.out.call h)
  clear HVB_8
  have HU_9 := Lib.hid (HU_8.out.call h)
  clear HU_8
  have HB_9 := Lib.hid (below_call HB_8.out h)
  clear h
  go_wp2_with fail
  refine (K5.out _ _ _ HU_9.out HVA_9.out).mono ?_
  rintro e w10 ⟨rfl, h⟩
  have HVA_10 := Lib.hid (HVA_9.out.call h)
  clear HVA_9
  have HVB_10 := Lib.hid (HVB_9.out.call h)
  clear HVB_9
  have HU_10 := Lib.hid (HU_9.out.call h)
  clear HU_9
  have HB_10 := Lib.hid (below_call HB_9.out h)
  clear h
  go_wp2_with fail
  refine (K6.out _ _ HU_10.out).mono ?_
  rintro e w11 ⟨rfl, h⟩
  have HVA_11 := Lib.hid (HVA_10.out.call h)
  clear HVA_10
  have HVB_11 := Lib.hid (HVB_10.out.call h)
  clear HVB_10
  have HU_11 := Lib.hid (HU_10.out.call h)
  clear HU_10
  have HB_11 := Lib.hid (below_call HB_10.out h)
  clear h
  go_wp2_with fail
  refine (K7.out _).mono ?_
  rintro e w12 ⟨u4, rfl, hu4, _, h⟩
  obtain ⟨p4, c4, eu⟩ := hu4.m.shape
  subst eu
  have HVA_12 := Lib.hid (HVA_11.out.call h)
  clear HVA_11
  have HVB_12 := Lib.hid (HVB_11.out.call h)
  clear HVB_11
  have HU_12 := Lib.hid (HU_11.out.call h)
  clear HU_11
  have HB_12 := Lib.hid (below_call HB_11.out h)
  clear h
  have HT_12 := Lib.hid (hu4)
  clear hu4
  obtain ⟨w13, hw13⟩ : ∃ w', w12.alloc (.cells #[.int .u64 3, .int .u64 0, .slice none 0 0] 36) = w' := ⟨_, rfl⟩
  have h : Below w12.heap.size w12 w13 := hw13 ▸ below_new w12 _
  have HVA_13 := Lib.hid (HVA_12.out.call h)
  clear HVA_12
  have HVB_13 := Lib.hid (HVB_12.out.call h)
  clear HVB_12
  have HU_13 := Lib.hid (HU_12.out.call h)
  clear HU_12
  have HT_13 := Lib.hid (HT_12.out.call h)
  clear HT_12
  have HB_13 := Lib.hid (below_call HB_12.out h)
  clear h
  have hZ : VecS w13 (.slice (some ⟨w12.heap.size, 0, none⟩) 1 1) [(3, 0, [])] := vec_one9 (by rw [← hw13]; simp) (by rw [← hw13]; simp) (by rw [← hw13]; simp) (any10 _ 0 (by decide) (by decide)) (by decide)
  have HZ_13 := Lib.hid (hZ)
  clear hZ
  go_wp2_with fail
  clear hw13
  refine (KS.out [(3, 0, [])] _ _ _ HT_13.out.m.i HZ_13.out.m.i).mono ?_
  rintro e w14 ⟨rfl, h⟩
  have HVA_14 := Lib.hid (HVA_13.out.call h)
  clear HVA_13
  have HVB_14 := Lib.hid (HVB_13.out.call h)
  clear HVB_13
  have HU_14 := Lib.hid (HU_13.out.call h)
  clear HU_13
  have HT_14 := Lib.hid (HT_13.out.call h)
  clear HT_13
  have HZ_14 := Lib.hid (HZ_13.out.call h)
  clear HZ_13
  have HB_14 := Lib.hid (below_call HB_13.out h)
  clear h
  go_wp2_with fail
  go_ret
  exact ⟨rfl, HB_14.out⟩
end Go.Proofs.YtefiobfljhmkkaaGreatDoor
