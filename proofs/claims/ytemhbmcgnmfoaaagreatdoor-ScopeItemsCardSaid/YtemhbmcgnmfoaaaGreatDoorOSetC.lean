/- The contracts of package setops over its code. No conditions. -/
import Derived.Test.YtemhbmcgnmfoaaaGreatDoorRStarts
import Derived.Test.YtemhbmcgnmfoaaaGreatDoorVPieces
namespace Go.Proofs.YtemhbmcgnmfoaaaGreatDoor
open Go.RowKit
/-- The call of pieces: the closure over three new boxes. -/
def IsPc (s t T : Value) (w : World) (e : Ending) (w' : World) : Prop :=
  e = .returned (.func (.func 157) #[] #[.pointer (some ⟨w.heap.size, 0, none⟩), .pointer (some ⟨w.heap.size + 1, 0, none⟩), .pointer (some ⟨w.heap.size + 1 + 1, 0, none⟩)]) ∧
    w' = ((w.alloc (.cells #[s] 46)).alloc (.cells #[t] 46)).alloc (.cells #[T] 193)
set_option maxRecDepth 100000 in
theorem pieces_call (p q : Option Addr) (m k cp cq F : Nat) (w : World) : Calls Tryz.prog 135 #[.slice p m cp, .slice q k cq, .func (.func F) #[] #[]] w (IsPc (.slice p m cp) (.slice q k cq) (.func (.func F) #[] #[]) w) := by
  go_enter Tryz.func135, Tryz.ntmps135
  go_wp2
  go_ret
  exact ⟨rfl, rfl⟩
theorem um0 : (0 : Int) ≤ UM := by decide
set_option maxRecDepth 100000 in
theorem union_call (p q : Option Addr) (m k cp cq : Nat) (w : World) : Calls Tryz.prog 106 #[.slice p m cp, .slice q k cq] w (IsPc (.slice p m cp) (.slice q k cq) (.func (.func 136) #[] #[]) w) := by
  have K := Lib.hid (pieces_call p q m k cp cq 136 w)
  go_enter Tryz.func106, Tryz.ntmps106
  go_wp2_with (go_at_call 135; refine K.out.mono ?_; rintro e w' ⟨rfl, rfl⟩)
  go_ret
  exact ⟨rfl, rfl⟩
theorem union_seq (a b : List Iv) (s t : Value) (w w3 : World) (ha : OpAt w s a) (hb : OpAt w t b) (h3 : ((w.alloc (.cells #[s] 46)).alloc (.cells #[t] 46)).alloc (.cells #[.func (.func 136) #[] #[]] 193) = w3) :
    SeqX 157 #[.pointer (some ⟨w.heap.size, 0, none⟩), .pointer (some ⟨w.heap.size + 1, 0, none⟩), .pointer (some ⟨w.heap.size + 1 + 1, 0, none⟩)] (orL a b) (w.heap.size + 3) w3 ∧ Below w.heap.size w w3 ∧ w3.heap.size = w.heap.size + 3 := by
  subst h3
  have hb3 := below_alloc (below_alloc (below_new w (.cells #[s] 46)) (.cells #[t] 46)) (.cells #[.func (.func 136) #[] #[]] 193)
  have b0 := ((Boxed.new w 46 s).alloc (.cells #[t] 46)).alloc (.cells #[.func (.func 136) #[] #[]] 193)
  have b1 := (Boxed.new (w.alloc (.cells #[s] 46)) 46 t).alloc (.cells #[.func (.func 136) #[] #[]] 193)
  have b2 := Boxed.new ((w.alloc (.cells #[s] 46)).alloc (.cells #[t] 46)) 193 (.func (.func 136) #[] #[])
  simp only [World.size_alloc] at b1 b2
  refine ⟨⟨?_, enters_of Tryz.func157 (by kernel_rfl) rfl, fun W0 hc hb0 => ?_⟩, hb3, by simp⟩
  · have h1 := orL_len a b
    have h2 := ha.len
    have h3 := hb.len
    omega
  · have hp := pieces_union 4 (by omega) (w.heap.size + 3) w.heap.size (w.heap.size + 1) (w.heap.size + 1 + 1) s t a b W0 hc (by omega) (KeptL.of ha fun k hk => by omega) (KeptL.of hb fun k hk => by omega)
      ⟨keep_cell b0.cell hb0, keep_cell b1.cell hb0, (ha.call hb3).call hb0, (hb.call hb3).call hb0⟩ (keep_cell b2.cell hb0)
    rw [pc_op um0 fOr rfl ha.good.can hb.good.can ha.good.ok hb.good.ok] at hp
    exact hp
set_option maxRecDepth 100000 in
theorem setUnion_any (a b : List Iv) (s t : Value) (w : World) (ha : OpAt w s a) (hb : OpAt w t b) : Calls Tryz.prog 75 #[s, t] w (IsOwnR (orL a b) w) := by
  obtain ⟨p, cp, rfl, _⟩ := ha.at'.shape
  obtain ⟨q, cq, rfl, _⟩ := hb.at'.shape
  have HS := Lib.hid (fun w3 => union_seq a b _ _ w w3 ha hb)
  have K := Lib.hid (union_call p q a.length b.length cp cq w)
  have KC := Lib.hid collect_any
  clear ha hb
  obtain ⟨L, hL⟩ : ∃ L, orL a b = L := ⟨_, rfl⟩
  rw [hL] at HS ⊢
  clear hL
  go_enter Tryz.func75, Tryz.ntmps75
  go_wp2_with (go_at_call 106; refine K.out.mono ?_; rintro e w3 ⟨rfl, hw⟩; obtain ⟨hS, hb3, hs3⟩ := HS.out _ hw.symm; clear hw; have HSX := Lib.hid (And.intro hS (And.intro hb3 hs3)); clear hS hb3 hs3)
  refine (KC.out _ _ _ _ _ HSX.out.1 (by rw [HSX.out.2.2]; omega)).mono ?_
  rintro e w1 ⟨v, rfl, hv, h1⟩
  have HV := Lib.hid hv; have H1 := Lib.hid h1; clear hv h1
  go_wp2_with fail
  go_ret
  exact ⟨v, rfl, own_base HV.out HSX.out.2.1.size, below_call HSX.out.2.1 H1.out⟩
set_option maxRecDepth 100000 in
theorem minus_call (p q : Option Addr) (m k cp cq : Nat) (w : World) : Calls Tryz.prog 166 #[.slice p m cp, .slice q k cq] w (IsPc (.slice p m cp) (.slice q k cq) (.func (.func 179) #[] #[]) w) := by
  have K := Lib.hid (pieces_call p q m k cp cq 179 w)
  go_enter Tryz.func166, Tryz.ntmps166
  go_wp2_with (go_at_call 135; refine K.out.mono ?_; rintro e w' ⟨rfl, rfl⟩)
  go_ret
  exact ⟨rfl, rfl⟩
theorem minus_seq (a b : List Iv) (s t : Value) (w w3 : World) (ha : OpAt w s a) (hb : OpAt w t b) (h3 : ((w.alloc (.cells #[s] 46)).alloc (.cells #[t] 46)).alloc (.cells #[.func (.func 179) #[] #[]] 193) = w3) :
    SeqX 157 #[.pointer (some ⟨w.heap.size, 0, none⟩), .pointer (some ⟨w.heap.size + 1, 0, none⟩), .pointer (some ⟨w.heap.size + 1 + 1, 0, none⟩)] (subL a b) (w.heap.size + 3) w3 ∧ Below w.heap.size w w3 ∧ w3.heap.size = w.heap.size + 3 := by
  subst h3
  have hb3 := below_alloc (below_alloc (below_new w (.cells #[s] 46)) (.cells #[t] 46)) (.cells #[.func (.func 179) #[] #[]] 193)
  have b0 := ((Boxed.new w 46 s).alloc (.cells #[t] 46)).alloc (.cells #[.func (.func 179) #[] #[]] 193)
  have b1 := (Boxed.new (w.alloc (.cells #[s] 46)) 46 t).alloc (.cells #[.func (.func 179) #[] #[]] 193)
  have b2 := Boxed.new ((w.alloc (.cells #[s] 46)).alloc (.cells #[t] 46)) 193 (.func (.func 179) #[] #[])
  simp only [World.size_alloc] at b1 b2
  refine ⟨⟨?_, enters_of Tryz.func157 (by kernel_rfl) rfl, fun W0 hc hb0 => ?_⟩, hb3, by simp⟩
  · have h1 := subL_len a b
    have h2 := ha.len
    have h3 := hb.len
    omega
  · have hp := pieces_minus 4 (by omega) (w.heap.size + 3) w.heap.size (w.heap.size + 1) (w.heap.size + 1 + 1) s t a b W0 hc (by omega) (KeptL.of ha fun k hk => by omega) (KeptL.of hb fun k hk => by omega)
      ⟨keep_cell b0.cell hb0, keep_cell b1.cell hb0, (ha.call hb3).call hb0, (hb.call hb3).call hb0⟩ (keep_cell b2.cell hb0)
    rw [pc_op um0 fSub rfl ha.good.can hb.good.can ha.good.ok hb.good.ok] at hp
    exact hp
set_option maxRecDepth 100000 in
theorem setMinus_any (a b : List Iv) (s t : Value) (w : World) (ha : OpAt w s a) (hb : OpAt w t b) : Calls Tryz.prog 156 #[s, t] w (IsOwnR (subL a b) w) := by
  obtain ⟨p, cp, rfl, _⟩ := ha.at'.shape
  obtain ⟨q, cq, rfl, _⟩ := hb.at'.shape
  have HS := Lib.hid (fun w3 => minus_seq a b _ _ w w3 ha hb)
  have K := Lib.hid (minus_call p q a.length b.length cp cq w)
  have KC := Lib.hid collect_any
  clear ha hb
  obtain ⟨L, hL⟩ : ∃ L, subL a b = L := ⟨_, rfl⟩
  rw [hL] at HS ⊢
  clear hL
  go_enter Tryz.func156, Tryz.ntmps156
  go_wp2_with (go_at_call 166; refine K.out.mono ?_; rintro e w3 ⟨rfl, hw⟩; obtain ⟨hS, hb3, hs3⟩ := HS.out _ hw.symm; clear hw; have HSX := Lib.hid (And.intro hS (And.intro hb3 hs3)); clear hS hb3 hs3)
  refine (KC.out _ _ _ _ _ HSX.out.1 (by rw [HSX.out.2.2]; omega)).mono ?_
  rintro e w1 ⟨v, rfl, hv, h1⟩
  have HV := Lib.hid hv; have H1 := Lib.hid h1; clear hv h1
  go_wp2_with fail
  go_ret
  exact ⟨v, rfl, own_base HV.out HSX.out.2.1.size, below_call HSX.out.2.1 H1.out⟩
theorem not_row (w : World) (x y : Int) (t : TypeId) (k : Nat) (hk : k = w.heap.size) (h : GoodL [(x, y)]) : OpAt (w.alloc (.cells #[.int .u64 x, .int .u64 y] t)) (.slice (some ⟨k, 0, none⟩) 1 1) [(x, y)] := by
  subst hk
  exact ⟨⟨_, _, rfl, by simp, fun _ => ⟨w.heap.size, 0, rfl, fun i p hp => by
    match i, hp with
    | 0, hp => simp at hp; subst hp; simp
    | i + 1, hp => simp at hp⟩⟩, h, by simp⟩
set_option maxRecDepth 100000 in
theorem setNot_any (a : List Iv) (s : Value) (x y : Int) (w : World) (ha : OpAt w s a) (hw : GoodL [(x, y)]) : Calls Tryz.prog 132 #[s, .agg #[.int .u64 x, .int .u64 y]] w (IsOwnR (subL [(x, y)] a) w) := by
  obtain ⟨p, cp, rfl, _⟩ := ha.at'.shape
  have HA := Lib.hid ha
  have HW := Lib.hid hw
  have K := Lib.hid setMinus_any
  clear ha hw
  go_enter Tryz.func132, Tryz.ntmps132
  go_wp2_with fail
  have hb := below_alloc (below_new w (.cells #[.int .u64 x, .int .u64 y] 59)) (.cells #[.int .u64 x, .int .u64 y] 59)
  have HB := Lib.hid hb; clear hb
  refine (K.out [(x, y)] a _ _ _ (not_row _ x y _ _ (by simp) HW.out) (HA.out.call HB.out)).mono ?_
  rintro e w1 ⟨v, rfl, hv, h1⟩
  have HV := Lib.hid hv; have H1 := Lib.hid h1; clear hv h1
  go_wp2_with fail
  go_ret
  exact ⟨v, rfl, own_base HV.out HB.out.size, below_call HB.out H1.out⟩
end Go.Proofs.YtemhbmcgnmfoaaaGreatDoor
