/- The contracts of package setops over its code. No conditions. -/
import Derived.Test.YtefiobfljhmkkaaRStarts
import Derived.Test.YtefiobfljhmkkaaVPiecesU
import Derived.Test.YtefiobfljhmkkaaVPiecesM
import Derived.Test.YtefiobfljhmkkaaVPiecesS
import Derived.Test.YtefiobfljhmkkaaVCollect
namespace Go.Proofs.Ytefiobfljhmkkaa
open Go.RowKit
/-- The call of pieces: the closure over three new boxes. -/
def IsPc (s t T : Value) (w : World) (e : Ending) (w' : World) : Prop :=
  e = .returned (.func (.func 79) #[] #[.pointer (some ⟨w.heap.size, 0, none⟩), .pointer (some ⟨w.heap.size + 1, 0, none⟩), .pointer (some ⟨w.heap.size + 1 + 1, 0, none⟩)]) ∧
    w' = ((w.alloc (.cells #[s] 41)).alloc (.cells #[t] 41)).alloc (.cells #[T] 104)
set_option maxRecDepth 100000 in
theorem pieces_call (p q : Option Addr) (m k cp cq F : Nat) (w : World) : Calls Try.prog 67 #[.slice p m cp, .slice q k cq, .func (.func F) #[] #[]] w (IsPc (.slice p m cp) (.slice q k cq) (.func (.func F) #[] #[]) w) := by
  go_enter Try.func67, Try.ntmps67
  go_wp2
  go_ret
  exact ⟨rfl, rfl⟩
theorem um0 : (0 : Int) ≤ UM := by decide
set_option maxRecDepth 100000 in
theorem union_call (p q : Option Addr) (m k cp cq : Nat) (w : World) : Calls Try.prog 46 #[.slice p m cp, .slice q k cq] w (IsPc (.slice p m cp) (.slice q k cq) (.func (.func 68) #[] #[]) w) := by
  have K := Lib.hid (pieces_call p q m k cp cq 68 w)
  go_enter Try.func46, Try.ntmps46
  go_wp2_with (go_at_call 67; refine K.out.mono ?_; rintro e w' ⟨rfl, rfl⟩)
  go_ret
  exact ⟨rfl, rfl⟩
theorem union_seq (a b : List Iv) (s t : Value) (w w3 : World) (ha : OpAt w s a) (hb : OpAt w t b) (h3 : ((w.alloc (.cells #[s] 41)).alloc (.cells #[t] 41)).alloc (.cells #[.func (.func 68) #[] #[]] 104) = w3) :
    SeqX 79 #[.pointer (some ⟨w.heap.size, 0, none⟩), .pointer (some ⟨w.heap.size + 1, 0, none⟩), .pointer (some ⟨w.heap.size + 1 + 1, 0, none⟩)] (orL a b) (w.heap.size + 3) w3 ∧ Below w.heap.size w w3 ∧ w3.heap.size = w.heap.size + 3 := by
  subst h3
  have hb3 := below_alloc (below_alloc (below_new w (.cells #[s] 41)) (.cells #[t] 41)) (.cells #[.func (.func 68) #[] #[]] 104)
  have b0 := ((Boxed.new w 41 s).alloc (.cells #[t] 41)).alloc (.cells #[.func (.func 68) #[] #[]] 104)
  have b1 := (Boxed.new (w.alloc (.cells #[s] 41)) 41 t).alloc (.cells #[.func (.func 68) #[] #[]] 104)
  have b2 := Boxed.new ((w.alloc (.cells #[s] 41)).alloc (.cells #[t] 41)) 104 (.func (.func 68) #[] #[])
  simp only [World.size_alloc] at b1 b2
  refine ⟨⟨?_, enters_of Try.func79 (by kernel_rfl) rfl, fun W0 hc hb0 => ?_⟩, hb3, by simp⟩
  · have h1 := orL_len a b
    have h2 := ha.len
    have h3 := hb.len
    omega
  · have hp := pieces_union 4 (by omega) (w.heap.size + 3) w.heap.size (w.heap.size + 1) (w.heap.size + 1 + 1) s t a b W0 hc (by omega) (KeptL.of ha fun k hk => by omega) (KeptL.of hb fun k hk => by omega)
      ⟨keep_cell b0.cell hb0, keep_cell b1.cell hb0, (ha.call hb3).call hb0, (hb.call hb3).call hb0⟩ (keep_cell b2.cell hb0)
    rw [pc_op um0 fOr rfl ha.good.can hb.good.can ha.good.ok hb.good.ok] at hp
    exact hp
set_option maxRecDepth 100000 in
theorem setUnion_any (a b : List Iv) (s t : Value) (w : World) (ha : OpAt w s a) (hb : OpAt w t b) : Calls Try.prog 24 #[s, t] w (IsOwnR (orL a b) w) := by
  obtain ⟨p, cp, rfl, _⟩ := ha.at'.shape
  obtain ⟨q, cq, rfl, _⟩ := hb.at'.shape
  have HS := Lib.hid (fun w3 => union_seq a b _ _ w w3 ha hb)
  have K := Lib.hid (union_call p q a.length b.length cp cq w)
  have KC := Lib.hid collect_any
  clear ha hb
  obtain ⟨L, hL⟩ : ∃ L, orL a b = L := ⟨_, rfl⟩
  rw [hL] at HS ⊢
  clear hL
  go_enter Try.func24, Try.ntmps24
  go_wp2_with (go_at_call 46; refine K.out.mono ?_; rintro e w3 ⟨rfl, hw⟩; obtain ⟨hS, hb3, hs3⟩ := HS.out _ hw.symm; clear hw; have HSX := Lib.hid (And.intro hS (And.intro hb3 hs3)); clear hS hb3 hs3)
  refine (KC.out _ _ _ _ _ HSX.out.1 (by rw [HSX.out.2.2]; omega)).mono ?_
  rintro e w1 ⟨v, rfl, hv, h1⟩
  have HV := Lib.hid hv; have H1 := Lib.hid h1; clear hv h1
  go_wp2_with fail
  go_ret
  exact ⟨v, rfl, own_base HV.out HSX.out.2.1.size, below_call HSX.out.2.1 H1.out⟩
set_option maxRecDepth 100000 in
theorem meet_call (p q : Option Addr) (m k cp cq : Nat) (w : World) : Calls Try.prog 54 #[.slice p m cp, .slice q k cq] w (IsPc (.slice p m cp) (.slice q k cq) (.func (.func 71) #[] #[]) w) := by
  have K := Lib.hid (pieces_call p q m k cp cq 71 w)
  go_enter Try.func54, Try.ntmps54
  go_wp2_with (go_at_call 67; refine K.out.mono ?_; rintro e w' ⟨rfl, rfl⟩)
  go_ret
  exact ⟨rfl, rfl⟩
theorem meet_seq (a b : List Iv) (s t : Value) (w w3 : World) (ha : OpAt w s a) (hb : OpAt w t b) (h3 : ((w.alloc (.cells #[s] 41)).alloc (.cells #[t] 41)).alloc (.cells #[.func (.func 71) #[] #[]] 104) = w3) :
    SeqX 79 #[.pointer (some ⟨w.heap.size, 0, none⟩), .pointer (some ⟨w.heap.size + 1, 0, none⟩), .pointer (some ⟨w.heap.size + 1 + 1, 0, none⟩)] (andL a b) (w.heap.size + 3) w3 ∧ Below w.heap.size w w3 ∧ w3.heap.size = w.heap.size + 3 := by
  subst h3
  have hb3 := below_alloc (below_alloc (below_new w (.cells #[s] 41)) (.cells #[t] 41)) (.cells #[.func (.func 71) #[] #[]] 104)
  have b0 := ((Boxed.new w 41 s).alloc (.cells #[t] 41)).alloc (.cells #[.func (.func 71) #[] #[]] 104)
  have b1 := (Boxed.new (w.alloc (.cells #[s] 41)) 41 t).alloc (.cells #[.func (.func 71) #[] #[]] 104)
  have b2 := Boxed.new ((w.alloc (.cells #[s] 41)).alloc (.cells #[t] 41)) 104 (.func (.func 71) #[] #[])
  simp only [World.size_alloc] at b1 b2
  refine ⟨⟨?_, enters_of Try.func79 (by kernel_rfl) rfl, fun W0 hc hb0 => ?_⟩, hb3, by simp⟩
  · have h1 := andL_len a b
    have h2 := ha.len
    have h3 := hb.len
    omega
  · have hp := pieces_meet 4 (by omega) (w.heap.size + 3) w.heap.size (w.heap.size + 1) (w.heap.size + 1 + 1) s t a b W0 hc (by omega) (KeptL.of ha fun k hk => by omega) (KeptL.of hb fun k hk => by omega)
      ⟨keep_cell b0.cell hb0, keep_cell b1.cell hb0, (ha.call hb3).call hb0, (hb.call hb3).call hb0⟩ (keep_cell b2.cell hb0)
    rw [pc_op um0 fAnd rfl ha.good.can hb.good.can ha.good.ok hb.good.ok] at hp
    exact hp
set_option maxRecDepth 100000 in
theorem setMeet_any (a b : List Iv) (s t : Value) (w : World) (ha : OpAt w s a) (hb : OpAt w t b) : Calls Try.prog 29 #[s, t] w (IsOwnR (andL a b) w) := by
  obtain ⟨p, cp, rfl, _⟩ := ha.at'.shape
  obtain ⟨q, cq, rfl, _⟩ := hb.at'.shape
  have HS := Lib.hid (fun w3 => meet_seq a b _ _ w w3 ha hb)
  have K := Lib.hid (meet_call p q a.length b.length cp cq w)
  have KC := Lib.hid collect_any
  clear ha hb
  obtain ⟨L, hL⟩ : ∃ L, andL a b = L := ⟨_, rfl⟩
  rw [hL] at HS ⊢
  clear hL
  go_enter Try.func29, Try.ntmps29
  go_wp2_with (go_at_call 54; refine K.out.mono ?_; rintro e w3 ⟨rfl, hw⟩; obtain ⟨hS, hb3, hs3⟩ := HS.out _ hw.symm; clear hw; have HSX := Lib.hid (And.intro hS (And.intro hb3 hs3)); clear hS hb3 hs3)
  refine (KC.out _ _ _ _ _ HSX.out.1 (by rw [HSX.out.2.2]; omega)).mono ?_
  rintro e w1 ⟨v, rfl, hv, h1⟩
  have HV := Lib.hid hv; have H1 := Lib.hid h1; clear hv h1
  go_wp2_with fail
  go_ret
  exact ⟨v, rfl, own_base HV.out HSX.out.2.1.size, below_call HSX.out.2.1 H1.out⟩
set_option maxRecDepth 100000 in
theorem minus_call (p q : Option Addr) (m k cp cq : Nat) (w : World) : Calls Try.prog 55 #[.slice p m cp, .slice q k cq] w (IsPc (.slice p m cp) (.slice q k cq) (.func (.func 72) #[] #[]) w) := by
  have K := Lib.hid (pieces_call p q m k cp cq 72 w)
  go_enter Try.func55, Try.ntmps55
  go_wp2_with (go_at_call 67; refine K.out.mono ?_; rintro e w' ⟨rfl, rfl⟩)
  go_ret
  exact ⟨rfl, rfl⟩
theorem minus_seq (a b : List Iv) (s t : Value) (w w3 : World) (ha : OpAt w s a) (hb : OpAt w t b) (h3 : ((w.alloc (.cells #[s] 41)).alloc (.cells #[t] 41)).alloc (.cells #[.func (.func 72) #[] #[]] 104) = w3) :
    SeqX 79 #[.pointer (some ⟨w.heap.size, 0, none⟩), .pointer (some ⟨w.heap.size + 1, 0, none⟩), .pointer (some ⟨w.heap.size + 1 + 1, 0, none⟩)] (subL a b) (w.heap.size + 3) w3 ∧ Below w.heap.size w w3 ∧ w3.heap.size = w.heap.size + 3 := by
  subst h3
  have hb3 := below_alloc (below_alloc (below_new w (.cells #[s] 41)) (.cells #[t] 41)) (.cells #[.func (.func 72) #[] #[]] 104)
  have b0 := ((Boxed.new w 41 s).alloc (.cells #[t] 41)).alloc (.cells #[.func (.func 72) #[] #[]] 104)
  have b1 := (Boxed.new (w.alloc (.cells #[s] 41)) 41 t).alloc (.cells #[.func (.func 72) #[] #[]] 104)
  have b2 := Boxed.new ((w.alloc (.cells #[s] 41)).alloc (.cells #[t] 41)) 104 (.func (.func 72) #[] #[])
  simp only [World.size_alloc] at b1 b2
  refine ⟨⟨?_, enters_of Try.func79 (by kernel_rfl) rfl, fun W0 hc hb0 => ?_⟩, hb3, by simp⟩
  · have h1 := subL_len a b
    have h2 := ha.len
    have h3 := hb.len
    omega
  · have hp := pieces_minus 4 (by omega) (w.heap.size + 3) w.heap.size (w.heap.size + 1) (w.heap.size + 1 + 1) s t a b W0 hc (by omega) (KeptL.of ha fun k hk => by omega) (KeptL.of hb fun k hk => by omega)
      ⟨keep_cell b0.cell hb0, keep_cell b1.cell hb0, (ha.call hb3).call hb0, (hb.call hb3).call hb0⟩ (keep_cell b2.cell hb0)
    rw [pc_op um0 fSub rfl ha.good.can hb.good.can ha.good.ok hb.good.ok] at hp
    exact hp
set_option maxRecDepth 100000 in
theorem setMinus_any (a b : List Iv) (s t : Value) (w : World) (ha : OpAt w s a) (hb : OpAt w t b) : Calls Try.prog 30 #[s, t] w (IsOwnR (subL a b) w) := by
  obtain ⟨p, cp, rfl, _⟩ := ha.at'.shape
  obtain ⟨q, cq, rfl, _⟩ := hb.at'.shape
  have HS := Lib.hid (fun w3 => minus_seq a b _ _ w w3 ha hb)
  have K := Lib.hid (minus_call p q a.length b.length cp cq w)
  have KC := Lib.hid collect_any
  clear ha hb
  obtain ⟨L, hL⟩ : ∃ L, subL a b = L := ⟨_, rfl⟩
  rw [hL] at HS ⊢
  clear hL
  go_enter Try.func30, Try.ntmps30
  go_wp2_with (go_at_call 55; refine K.out.mono ?_; rintro e w3 ⟨rfl, hw⟩; obtain ⟨hS, hb3, hs3⟩ := HS.out _ hw.symm; clear hw; have HSX := Lib.hid (And.intro hS (And.intro hb3 hs3)); clear hS hb3 hs3)
  refine (KC.out _ _ _ _ _ HSX.out.1 (by rw [HSX.out.2.2]; omega)).mono ?_
  rintro e w1 ⟨v, rfl, hv, h1⟩
  have HV := Lib.hid hv; have H1 := Lib.hid h1; clear hv h1
  go_wp2_with fail
  go_ret
  exact ⟨v, rfl, own_base HV.out HSX.out.2.1.size, below_call HSX.out.2.1 H1.out⟩
set_option maxRecDepth 100000 in
theorem setSubset_any (a b : List Iv) (s t : Value) (w : World) (ha : OpAt w s a) (hb : OpAt w t b) : Calls Try.prog 32 #[s, t] w (IsEnd (decide (subL a b = [])) w) := by
  obtain ⟨p, cp, rfl, _⟩ := ha.at'.shape
  obtain ⟨q, cq, rfl, _⟩ := hb.at'.shape
  have HS := Lib.hid (fun w3 => minus_seq a b _ _ w w3 ha hb)
  have K := Lib.hid (minus_call p q a.length b.length cp cq w)
  have KC := Lib.hid empty_any
  clear ha hb
  obtain ⟨L, hL⟩ : ∃ L, subL a b = L := ⟨_, rfl⟩
  rw [hL] at HS ⊢
  clear hL
  go_enter Try.func32, Try.ntmps32
  go_wp2_with (go_at_call 55; refine K.out.mono ?_; rintro e w3 ⟨rfl, hw⟩; obtain ⟨hS, hb3, hs3⟩ := HS.out _ hw.symm; clear hw; have HSX := Lib.hid (And.intro hS (And.intro hb3 hs3)); clear hS hb3 hs3)
  refine (KC.out _ _ _ _ _ HSX.out.1 (by rw [HSX.out.2.2]; omega)).mono ?_
  rintro e w1 ⟨rfl, h1⟩
  have H1 := Lib.hid h1; clear h1
  generalize decide (L = []) = r at *
  go_wp2_with fail
  go_ret
  exact ⟨rfl, below_call HSX.out.2.1 H1.out⟩
theorem not_row (w : World) (x y : Int) (t : TypeId) (k : Nat) (hk : k = w.heap.size) (h : GoodL [(x, y)]) : OpAt (w.alloc (.cells #[.int .u64 x, .int .u64 y] t)) (.slice (some ⟨k, 0, none⟩) 1 1) [(x, y)] := by
  subst hk
  exact ⟨⟨_, _, rfl, by simp, fun _ => ⟨w.heap.size, 0, rfl, fun i p hp => by
    match i, hp with
    | 0, hp => simp at hp; subst hp; simp
    | i + 1, hp => simp at hp⟩⟩, h, by simp⟩
set_option maxRecDepth 100000 in
theorem setNot_any (a : List Iv) (s : Value) (x y : Int) (w : World) (ha : OpAt w s a) (hw : GoodL [(x, y)]) : Calls Try.prog 60 #[s, .agg #[.int .u64 x, .int .u64 y]] w (IsOwnR (subL [(x, y)] a) w) := by
  obtain ⟨p, cp, rfl, _⟩ := ha.at'.shape
  have HA := Lib.hid ha
  have HW := Lib.hid hw
  have K := Lib.hid setMinus_any
  clear ha hw
  go_enter Try.func60, Try.ntmps60
  go_wp2_with fail
  have hb := below_alloc (below_new w (.cells #[.int .u64 x, .int .u64 y] 70)) (.cells #[.int .u64 x, .int .u64 y] 70)
  have HB := Lib.hid hb; clear hb
  refine (K.out [(x, y)] a _ _ _ (not_row _ x y _ _ (by simp) HW.out) (HA.out.call HB.out)).mono ?_
  rintro e w1 ⟨v, rfl, hv, h1⟩
  have HV := Lib.hid hv; have H1 := Lib.hid h1; clear hv h1
  go_wp2_with fail
  go_ret
  exact ⟨v, rfl, own_base HV.out HB.out.size, below_call HB.out H1.out⟩
end Go.Proofs.Ytefiobfljhmkkaa
