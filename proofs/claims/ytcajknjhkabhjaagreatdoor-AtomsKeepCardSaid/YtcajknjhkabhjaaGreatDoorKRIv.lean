/- Lists of intervals in memory. No conditions. -/
import Derived.Test.YtcajknjhkabhjaaGreatDoorKSRel
import Derived.Test.YtcajknjhkabhjaaGreatDoorKRMath
import Derived.Laws.AppendOwn
import Derived.WalkSmall
import Derived.IntWalk
namespace Go.Proofs.YtcajknjhkabhjaaGreatDoor
open Go.RowKit Go.ChangeShapes Go.WideShapes
def IvsAt (w : World) (s : Value) (l : List Iv) : Prop :=
 ∃ p cap, s = .slice p l.length cap ∧ l.length ≤ 1048576 ∧
  (l ≠ [] → ∃ b o, p = some ⟨b, o, none⟩ ∧ ∀ i x, l[i]? = some x → w.cell? ⟨b, o + i * 2, none⟩ = some (.int .u64 x.1) ∧ w.cell? ⟨b, o + i * 2 + 1, none⟩ = some (.int .u64 x.2))
theorem IvsAt.call {w w' : World} {s : Value} {l : List Iv} (h : IvsAt w s l) (hb : Below w.heap.size w w') : IvsAt w' s l := by
 obtain ⟨p, cap, h1, h2, h3⟩ := h
 refine ⟨p, cap, h1, h2, fun hne => ?_⟩
 obtain ⟨b, o, h5, h6⟩ := h3 hne
 exact ⟨b, o, h5, fun i x hi => ⟨keep_cell (h6 i x hi).1 hb, keep_cell (h6 i x hi).2 hb⟩⟩
theorem flat_two : ∀ (l : List Iv) (i : Nat) (x : Iv), l[i]? = some x →
 (l.flatMap fun x => [Value.int .u64 x.1, .int .u64 x.2])[i * 2]? = some (.int .u64 x.1) ∧ (l.flatMap fun x => [Value.int .u64 x.1, .int .u64 x.2])[i * 2 + 1]? = some (.int .u64 x.2) := by
 intro l
 induction l with
 | nil => intro i x h; simp at h
 | cons y l ih =>
   intro i x h
   cases i with
   | zero =>
     simp at h
     subst h
     simp
   | succ i =>
     have := ih i x (by simpa using h)
     have e1 : (i + 1) * 2 = i * 2 + 1 + 1 := by omega
     rw [e1]
     simpa using this
theorem ivs_of_own {w : World} {base : Nat} {v : Value} {l : List Iv} (h : w.ownsRow base 35 2 v l.length (l.flatMap fun x => [.int .u64 x.1, .int .u64 x.2])) (hl : l.length ≤ 1048576) : IvsAt w v l := by
 obtain ⟨h1, h2⟩ := h
 rcases h2 with ⟨rfl, hn⟩ | ⟨g, cap, cur, rfl, hg, hh, hnc, _, hcs, ht⟩
 ·obtain rfl : l = [] := List.length_eq_zero_iff.1 hn
  exact ⟨none, 0, rfl, by simp, fun h => absurd rfl h⟩
 ·refine ⟨_, cap, rfl, hl, fun _ => ⟨g, 0, rfl, fun i x hi => ?_⟩⟩
  have key : ∀ j u, (l.flatMap fun x => [Value.int .u64 x.1, .int .u64 x.2])[j]? = some u → w.cell? ⟨g, j, none⟩ = some u := by
   intro j u hj
   have e1 : w.cell? ⟨g, j, none⟩ = cur[j]? := by simp [World.cell?, hh]
   rw [e1, ← Array.getElem?_toList]
   rw [← ht] at hj
   rw [List.getElem?_take] at hj
   split at hj
   ·exact hj
   ·cases hj
  have hf := flat_two l i x hi
  simp only [Nat.zero_add]
  exact ⟨key _ _ hf.1, key _ _ hf.2⟩
theorem IvsAt.elem {w : World} {s : Value} {l : List Iv} (h : IvsAt w s l) {i : Nat} {x : Iv} (hi : l[i]? = some x) :
 ∃ b o cap, s = .slice (some ⟨b, o, none⟩) l.length cap ∧ w.cell? ⟨b, o + i * 2, none⟩ = some (.int .u64 x.1) ∧ w.cell? ⟨b, o + i * 2 + 1, none⟩ = some (.int .u64 x.2) := by
 obtain ⟨p, cap, rfl, _, h3⟩ := h
 obtain ⟨b, o, rfl, h6⟩ := h3 (by intro e; subst e; simp at hi)
 exact ⟨b, o, cap, rfl, h6 i x hi⟩
theorem IvsAt.shape {w : World} {s : Value} {l : List Iv} (h : IvsAt w s l) : ∃ p cap, s = .slice p l.length cap ∧ l.length ≤ 1048576 := by
 obtain ⟨p, cap, h1, h2, _⟩ := h; exact ⟨p, cap, h1, h2⟩
theorem IvsAt.cells {w : World} {b o n cap : Nat} {l : List Iv} (h : IvsAt w (.slice (some ⟨b, o, none⟩) n cap) l) {i : Nat} {x : Iv} (hi : l[i]? = some x) :
 w.cell? ⟨b, o + i * 2, none⟩ = some (.int .u64 x.1) ∧ w.cell? ⟨b, o + i * 2 + 1, none⟩ = some (.int .u64 x.2) := by
 obtain ⟨b', o', cap', e, h1⟩ := h.elem hi
 cases e
 exact h1
def In64 (x : Iv) : Prop := (0 ≤ x.1 ∧ x.1 ≤ 18446744073709551615) ∧ (0 ≤ x.2 ∧ x.2 ≤ 18446744073709551615)
def All64 (l : List Iv) : Prop := ∀ x ∈ l, In64 x
theorem All64.at {l : List Iv} (h : All64 l) {i : Nat} {x : Iv} (hi : l[i]? = some x) : In64 x := h x (List.mem_of_getElem? hi)
theorem relN_zero (a b c d : Int) : relN a b c d = 0 ↔ b + 1 < c := by
 unfold relN
 constructor
 ·intro h
  split at h
  ·omega
  ·split at h
   ·omega
   ·split at h
    ·omega
    ·split at h <;> omega
 ·intro h; rw [if_neg (by omega), if_pos (by omega)]
end Go.Proofs.YtcajknjhkabhjaaGreatDoor
namespace Go.Proofs.YtcajknjhkabhjaaGreatDoor
open Go.RowKit
set_option maxRecDepth 100000 in
theorem one_ok (l : List Iv) (s : Value) (i : Nat) (x : Iv) (w : World) (hl : IvsAt w s l) (hi : l[i]? = some x) (hx : x.1 ≤ x.2) :
 Calls Tryz.prog 153 #[s, .int .i64 i] w (fun e w' => e = .returned .nilIface ∧ Below w.heap.size w w') := by
 obtain ⟨b, o, cap, rfl, c0, c1⟩ := hl.elem hi
 have hlt : i < l.length := (List.getElem?_eq_some_iff.1 hi).1
 have k := fun w => check_any x.1 x.2 w
 rw [show errV (chkE x.1 x.2) = .nilIface from by unfold chkE; rw [if_pos hx]; rfl] at k
 have K := Lib.hid k
 have hlen := hl.shape.choose_spec.choose_spec.2
 clear k hl hi hx
 obtain ⟨x1, x2⟩ := x
 go_enter Tryz.func153, Tryz.ntmps153
 go_wp2_with fail
 refine (K.out _).mono ?_
 rintro e w1 ⟨rfl, h1⟩
 have H1 := Lib.hid h1; clear h1
 go_wp2_with fail
 go_ret
 exact ⟨rfl, H1.out⟩
end Go.Proofs.YtcajknjhkabhjaaGreatDoor
namespace Go.Proofs.YtcajknjhkabhjaaGreatDoor
open Go.RowKit
def chkV (l : List Iv) : Option (Int × Option Int) := (chkL l).map fun x => (x.1, some (x.2 : Int))
theorem keep_four {W w1 w2 : World} {p q r t : Addr} {a b c d : Value}
 (h : Below W.heap.size W w1 ∧ w1.cell? p = some a ∧ w1.cell? q = some b ∧ w1.cell? r = some c ∧ w1.cell? t = some d) (hb : Hid (Below w1.heap.size w1 w2)) :
 Below W.heap.size W w2 ∧ w2.cell? p = some a ∧ w2.cell? q = some b ∧ w2.cell? r = some c ∧ w2.cell? t = some d :=
 ⟨below_call h.1 hb.out, keep_cell h.2.1 hb.out, keep_cell h.2.2.1 hb.out, keep_cell h.2.2.2.1 hb.out, keep_cell h.2.2.2.2 hb.out⟩
theorem keep_four_drew {W w1 : World} {p q r t : Addr} {a b c d : Value}
 (h : Below W.heap.size W w1 ∧ w1.cell? p = some a ∧ w1.cell? q = some b ∧ w1.cell? r = some c ∧ w1.cell? t = some d) :
 Below W.heap.size W w1.drew ∧ w1.drew.cell? p = some a ∧ w1.drew.cell? q = some b ∧ w1.drew.cell? r = some c ∧ w1.drew.cell? t = some d := keep_four h (Below.refl _ _).drew
end Go.Proofs.YtcajknjhkabhjaaGreatDoor
namespace Go.Proofs.YtcajknjhkabhjaaGreatDoor
open Go.RowKit
def IsPair (a b : Int) (w : World) (e : Ending) (w' : World) : Prop := e = .returned (.tuple #[.int .i64 a, .int .i64 b]) ∧ Below w.heap.size w w'
set_option maxRecDepth 100000 in
set_option maxHeartbeats 2000000 in
theorem refCheck_any (l : List Iv) (s : Value) (w : World) (hl : IvsAt w s l) (h64 : All64 l) :
 Calls Tryz.prog 134 #[s] w (IsPair (codeE (chkV l)) ((atE (chkV l)).getD (-1)) w) := by
 obtain ⟨p, cap, rfl, hlen⟩ := hl.shape
 have I := Lib.hid hl; clear hl
 have KR := Lib.hid refRelate_any
 go_enter Tryz.func134, Tryz.ntmps134
 go_wp2_with fail
 go_loopw [4] (fun i wr => ∃ k : Nat, k ≤ l.length ∧ i = .int .i64 k ∧ (∀ j, j < k → badAt l j = 0) ∧ Below w.heap.size w wr) (fun i _ => l.length - (intOf i).toNat)
 case atStart => exact ⟨0, Nat.zero_le _, rfl, fun j h => absurd h (Nat.not_lt_zero j), Below.refl _ _⟩
 case round =>
  obtain ⟨k, hk, rfl, hall, hb⟩ := hrel
  have HB := Lib.hid hb; clear hb
  have HA := Lib.hid hall; clear hall
  by_cases hlt : k < l.length
  ·obtain ⟨x, hx⟩ : ∃ x, l[k]? = some x := ⟨l[k], by simp [hlt]⟩
   by_cases hle : x.1 ≤ x.2
   ·obtain ⟨b0, o0, cap0, e0, z0, z1⟩ := (I.out.call HB.out).elem hx
    cases e0
    have k1 := fun w => right_any x.1 x.2 w
    rw [show decide (x.1 ≤ x.2) = true from by simpa using hle] at k1
    have K1 := Lib.hid k1; clear k1
    go_wp2_with fail
    refine (K1.out _).mono ?_
    rintro e w1 ⟨rfl, h1⟩
    clear z0 z1
    have H1 := Lib.hid (below_call HB.out h1); clear h1
    cases k with
    | zero =>
      have hbad := Lib.hid (bad_first hx hle)
      clear hx hle
      go_wp2_with fail
      go_quiet (fail)
      go_wp2_with fail
      go_roundw
      case rel => exact ⟨1, by omega, by go_num, (fun j hj => (show j = 0 by omega) ▸ hbad.out), below_drewN H1.out _⟩
      case measure => simp [intOf]; omega
    | succ j =>
      obtain ⟨y, hy⟩ : ∃ y, l[j]? = some y := ⟨l[j], by simp [show j < l.length by omega]⟩
      obtain ⟨b, o, cap', e, cx0, cx1⟩ := (I.out.call H1.out).elem hx
      have cy := (I.out.call H1.out).elem hy
      rw [e] at cy
      obtain ⟨b', o', cap'', e', cy0, cy1⟩ := cy
      cases e; cases e'
      have bx := h64.at hx
      have by' := h64.at hy
      have KX := Lib.hid (fun w => KR.out y.1 y.2 x.1 x.2 w by'.2.1 bx.1.2 bx.2.1 by'.1.2)
      have hz := relN_zero y.1 y.2 x.1 x.2
      obtain ⟨r, hr⟩ : ∃ r, relN y.1 y.2 x.1 x.2 = r := ⟨_, rfl⟩
      rw [hr] at KX hz
      have hbad : badAt l (j + 1) = if r = 0 then 0 else 3 := by
       by_cases h0 : r = 0
       ·rw [if_pos h0, bad_fine hx hy hle (hz.1 h0)]
       ·rw [if_neg h0, bad_order hx hy hle (fun h => h0 (hz.2 h))]
      have HBad := Lib.hid hbad
      obtain ⟨x1, x2⟩ := x
      obtain ⟨y1, y2⟩ := y
      dsimp only at cx0 cx1 cy0 cy1
      have hs : Below w.heap.size w w1 ∧ w1.cell? ⟨b0, o0 + j * 2, none⟩ = some (.int .u64 y1) ∧ w1.cell? ⟨b0, o0 + j * 2 + 1, none⟩ = some (.int .u64 y2) ∧ w1.cell? ⟨b0, o0 + (j + 1) * 2, none⟩ = some (.int .u64 x1) ∧ w1.cell? ⟨b0, o0 + (j + 1) * 2 + 1, none⟩ = some (.int .u64 x2) := ⟨H1.out, cy0, cy1, cx0, cx1⟩
      have hj0 : (0 : Int) ≤ (j : Int) := by omega
      have hj1 : (j : Int) < (l.length : Int) := by omega
      have hj2 : (0 : Int) ≤ (j : Int) + 1 := by omega
      have hj3 : (j : Int) + 1 < (l.length : Int) := by omega
      have hw1 : IntKind.i64.wrap ((j : Int) + 1 - 1) = (j : Int) := (IntWalk.i64_in _ (by omega)).trans (by omega)
      have hw2 : IntKind.i64.wrap (j : Int) = (j : Int) := IntWalk.i64_in _ (by omega)
      have hw3 : IntKind.i64.wrap (((j + 1 : Nat) : Int) - 1) = (j : Int) := (IntWalk.i64_in _ (by omega)).trans (by omega)
      clear hx hy bx by' hle hz hbad hr cx0 cx1 cy0 cy1
      go_wp2_with fail
      go_region_held3 (fun w' => Below w.heap.size w w' ∧ w'.cell? ⟨b0, o0 + j * 2, none⟩ = some (.int .u64 y1) ∧ w'.cell? ⟨b0, o0 + j * 2 + 1, none⟩ = some (.int .u64 y2) ∧ w'.cell? ⟨b0, o0 + (j + 1) * 2, none⟩ = some (.int .u64 x1) ∧ w'.cell? ⟨b0, o0 + (j + 1) * 2 + 1, none⟩ = some (.int .u64 x2))
       (first
         | exact keep_four (by assumption) (by assumption)
         | exact keep_four_drew (by assumption)
         | exact hs
         | assumption)
       (first
         | (go_at_call 198; refine (KX.out _).mono ?_; rintro en w' ⟨rfl, hb4'⟩; have hb4 := Lib.hid hb4'; clear hb4'))
      all_goals
       rename_i hE
       have HE := Lib.hid hE.1
       clear hs hE
       by_cases h0 : r = 0
       ·have h0b : (r != 0) = false := by simpa using h0
        have HZ := Lib.hid h0
        clear h0
        go_wp2_with fail
        go_roundw
        case rel =>
         refine ⟨j + 1 + 1, by omega, by go_num, fun i hi => ?_, HE.out⟩
         rcases Nat.lt_or_eq_of_le (Nat.le_of_lt_succ hi) with h | h
         ·exact HA.out i h
         ·rw [h, HBad.out, if_pos HZ.out]
        case measure => simp [intOf]; omega
       ·have h0b : (r != 0) = true := by simpa using h0
        have HZ := Lib.hid h0
        clear h0
        go_wp2_with fail
        go_ret2
        refine ⟨?_, HE.out⟩
        have hc := chk_some hlt HA.out (by rw [HBad.out, if_neg HZ.out]; decide)
        have hv : chkV l = some (3, some ((j : Int) + 1)) := by unfold chkV; rw [hc, HBad.out, if_neg HZ.out]; rfl
        rw [hv]
        rfl
   ·have hbad := Lib.hid (bad_inverted hx hle)
    obtain ⟨b0, o0, cap0, e0, z0, z1⟩ := (I.out.call HB.out).elem hx
    cases e0
    have k1 := fun w => right_any x.1 x.2 w
    rw [show decide (x.1 ≤ x.2) = false from by simpa using hle] at k1
    have K1 := Lib.hid k1; clear k1
    clear hx hle
    go_wp2_with fail
    refine (K1.out _).mono ?_
    rintro e w1 ⟨rfl, h1⟩
    have H1 := Lib.hid (below_call HB.out h1); clear h1 z0 z1
    go_wp2_with fail
    go_ret2
    refine ⟨?_, H1.out⟩
    have hc := chk_some hlt HA.out (by rw [hbad.out]; decide)
    have hv : chkV l = some (2, some (k : Int)) := by unfold chkV; rw [hc, hbad.out]; rfl
    rw [hv]
    rfl
  ·obtain rfl : k = l.length := by omega
   go_wp2_with fail
   go_ret2
   refine ⟨?_, HB.out⟩
   have hv : chkV l = none := by unfold chkV; rw [chk_none HA.out]; rfl
   rw [hv]
   rfl
def rightB (l : List Iv) : Bool := decide (codeE (chkV l) = 0)
theorem rightB_iff (l : List Iv) : rightB l = true ↔ canon l := by
 unfold rightB chkV
 rw [← canon_iff]
 cases h : chkL l with
 | none => simp [codeE]
 | some x =>
   obtain ⟨c, k⟩ := x
   simp only [Option.map_some, codeE, reduceCtorEq, iff_false]
   intro hc
   have hc := of_decide_eq_true hc
   subst hc
   unfold chkL at h
   obtain ⟨j, _, hj⟩ := List.exists_of_findSome?_eq_some h
   split at hj
   ·cases hj
   ·rename_i hb
    have e := congrArg (fun o : Option (Int × Nat) => o.map Prod.fst) hj
    simp only [Option.map_some, Option.some.injEq] at e
    exact hb e
theorem hasB_inI (a b x : Int) : hasB a b x = inI (a, b) x := rfl
theorem refHasR (a b x : Int) (r : Bool) (w : World) (h : hasB a b x = r) :
 Calls Tryz.prog 107 #[.agg #[.int .u64 a, .int .u64 b], .int .u64 x] w (IsEnd r w) := by
 subst h; exact refHas_any a b x w
theorem hasL_take (l : List Iv) (x : Int) (k : Nat) (y : Iv) (h : l[k]? = some y) : hasL (l.take (k + 1)) x = (hasL (l.take k) x || inI y x) := by
 unfold hasL
 rw [List.take_add_one, h]
 simp
set_option maxRecDepth 100000 in
theorem refHasL_any (l : List Iv) (s : Value) (x : Int) (w : World) (hl : IvsAt w s l) :
 Calls Tryz.prog 64 #[s, .int .u64 x] w (IsEnd (hasL l x) w) := by
 obtain ⟨p, cap, rfl, hlen⟩ := hl.shape
 have I := Lib.hid hl; clear hl
 have K := Lib.hid refHasR
 go_enter Tryz.func64, Tryz.ntmps64
 go_wp2_with fail
 go_loopw [5] (fun i wr => ∃ k : Nat, k ≤ l.length ∧ i = .int .i64 k ∧ hasL (l.take k) x = false ∧ Below w.heap.size w wr) (fun i _ => l.length - (intOf i).toNat)
 case atStart => exact ⟨0, Nat.zero_le _, rfl, rfl, Below.refl _ _⟩
 case round =>
  obtain ⟨k, hk, rfl, hall, hb⟩ := hrel
  have HB := Lib.hid hb; clear hb
  have HA := Lib.hid hall; clear hall
  by_cases hlt : k < l.length
  ·obtain ⟨y, hy⟩ : ∃ y, l[k]? = some y := ⟨l[k], by simp [hlt]⟩
   obtain ⟨b0, o0, cap0, e0, z0, z1⟩ := (I.out.call HB.out).elem hy
   cases e0
   have HT := Lib.hid (hasL_take l x k y hy)
   have HM := Lib.hid (List.mem_of_getElem? hy)
   clear hy
   obtain ⟨y1, y2⟩ := y
   cases hr : hasB y1 y2 x with
   | true =>
     have KR := Lib.hid (fun w => K.out y1 y2 x true w hr)
     have HR := Lib.hid hr; clear hr
     go_wp2_with fail
     refine (KR.out _).mono ?_
     rintro e w1 ⟨rfl, h1⟩
     have H1 := Lib.hid (below_call HB.out h1); clear h1
     go_wp2_with fail
     go_ret
     exact ⟨ret_bool ((hasL_iff l x).2 ⟨_, HM.out, (inI_iff (y1, y2) x).1 HR.out⟩).symm, H1.out⟩
   | false =>
     have KR := Lib.hid (fun w => K.out y1 y2 x false w hr)
     have HR := Lib.hid hr; clear hr
     go_wp2_with fail
     refine (KR.out _).mono ?_
     rintro e w1 ⟨rfl, h1⟩
     have H1 := Lib.hid (below_call HB.out h1); clear h1
     go_wp2_with fail
     go_roundw
     case rel => exact ⟨k + 1, by omega, by go_num, by rw [HT.out, HA.out, ← hasB_inI, HR.out]; rfl, H1.out⟩
     case measure => simp [intOf]; omega
  ·obtain rfl : k = l.length := by omega
   rw [List.take_length] at HA
   go_wp2_with fail
   go_ret
   exact ⟨ret_bool HA.out.symm, HB.out⟩
end Go.Proofs.YtcajknjhkabhjaaGreatDoor
namespace Go.Proofs.YtcajknjhkabhjaaGreatDoor
open Go.RowKit Go.ChangeShapes Go.WideShapes
set_option maxRecDepth 100000 in
theorem refSame_any (l m : List Iv) (s t : Value) (w : World) (hl : IvsAt w s l) (hm : IvsAt w t m) :
 Calls Tryz.prog 20 #[s, t] w (IsEnd (decide (l = m)) w) := by
 obtain ⟨p, cap, rfl, hl1, hl2⟩ := hl
 obtain ⟨q, caq, rfl, hm1, hm2⟩ := hm
 have HL := Lib.hid hl2; clear hl2
 have HM := Lib.hid hm2; clear hm2
 by_cases hlen : l.length = m.length
 ·go_enter Tryz.func20, Tryz.ntmps20
  have hb : ((l.length : Int) != (m.length : Int)) = false := by simp [hlen]
  have HLEN := Lib.hid hlen; clear hlen
  go_wp2_with fail
  go_loopw [5] (fun i wr => ∃ k : Nat, k ≤ l.length ∧ i = .int .i64 k ∧ l.take k = m.take k ∧ Below w.heap.size w wr) (fun i _ => l.length - (intOf i).toNat)
  case atStart => exact ⟨0, Nat.zero_le _, rfl, by simp, Below.refl _ _⟩
  case round =>
   obtain ⟨k, hk, rfl, heq, hb⟩ := hrel
   have HB := Lib.hid hb; clear hb
   have HE := Lib.hid heq; clear heq
   by_cases hlt : k < l.length
   ·obtain ⟨b, o, rfl, hcl⟩ := HL.out (by intro h; subst h; simp at hlt)
    obtain ⟨b', o', rfl, hcm⟩ := HM.out (fun h => by rw [HLEN.out, h] at hlt; exact absurd hlt (Nat.not_lt_zero k))
    have hgl : l[k]? = some l[k] := by simp [hlt]
    have hlt2 : k < m.length := by have := HLEN.out; omega
    have i1 : (0 : Int) ≤ (k : Int) := by omega
    have i2 : (k : Int) < (l.length : Int) := by omega
    have i3 : (k : Int) < (m.length : Int) := by omega
    have hgm : m[k]? = some m[k] := by simp [hlt2]
    generalize hX : l[k] = X at *
    generalize hY : m[k] = Y at *
    have c0 : wr.cell? ⟨b, o + k * 2, none⟩ = some (.int .u64 X.1) := keep_cell (hcl k X hgl).1 HB.out
    have c1 : wr.cell? ⟨b, o + k * 2 + 1, none⟩ = some (.int .u64 X.2) := keep_cell (hcl k X hgl).2 HB.out
    have d0 : wr.cell? ⟨b', o' + k * 2, none⟩ = some (.int .u64 Y.1) := keep_cell (hcm k Y hgm).1 HB.out
    have d1 : wr.cell? ⟨b', o' + k * 2 + 1, none⟩ = some (.int .u64 Y.2) := keep_cell (hcm k Y hgm).2 HB.out
    clear hcl hcm hgl hgm
    have HX := Lib.hid hX; clear hX
    have HY := Lib.hid hY; clear hY
    obtain ⟨x1, x2⟩ := X
    obtain ⟨y1, y2⟩ := Y
    by_cases hxy : x1 = y1 ∧ x2 = y2
    ·obtain ⟨rfl, rfl⟩ := hxy
     go_wp2_with fail
     go_quiet (fail)
     go_wp2_with fail
     go_roundw
     case rel =>
      refine ⟨k + 1, by omega, by go_num, ?_, below_drewN HB.out _⟩
      rw [List.take_succ_eq_append_getElem hlt, List.take_succ_eq_append_getElem hlt2, HE.out, HX.out, HY.out]
     case measure => simp [intOf]; omega
    ·have hne : decide (l = m) = false := by
      simp only [decide_eq_false_iff_not]
      intro e
      subst e
      have e2 := HX.out.symm.trans HY.out
      simp at e2
      exact hxy e2
     have HN := Lib.hid hne; clear hne
     by_cases h1 : x1 = y1
     ·subst h1
      have e2 : (x2 == y2) = false := by simpa using hxy
      clear hxy
      go_wp2_with fail
      go_quiet (fail)
      go_wp2_with fail
      go_ret
      exact ⟨ret_bool HN.out.symm, below_drewN HB.out _⟩
     ·have e1 : (x1 == y1) = false := by simpa using h1
      clear hxy h1
      go_wp2_with fail
      go_quiet (fail)
      go_wp2_with fail
      go_ret
      exact ⟨ret_bool HN.out.symm, below_drewN HB.out _⟩
   ·obtain rfl : k = l.length := by omega
    have hall : decide (l = m) = true := by
     have e := HE.out
     rw [List.take_length, HLEN.out, List.take_length] at e
     simpa using e
    have HN := Lib.hid hall; clear hall
    go_wp2_with fail
    go_ret
    exact ⟨ret_bool HN.out.symm, HB.out⟩
 ·have hb : ((l.length : Int) != (m.length : Int)) = true := by simp; omega
  have hne : decide (l = m) = false := by
   simp only [decide_eq_false_iff_not]
   intro e
   exact hlen (congrArg List.length e)
  have HN := Lib.hid hne; clear hne
  clear hlen
  go_enter Tryz.func20, Tryz.ntmps20
  go_wp2_with fail
  go_ret
  exact ⟨ret_bool HN.out.symm, Below.refl _ _⟩
end Go.Proofs.YtcajknjhkabhjaaGreatDoor
