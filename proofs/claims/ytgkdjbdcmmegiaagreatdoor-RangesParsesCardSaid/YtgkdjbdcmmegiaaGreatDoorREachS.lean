/- each of package ranges at strings: the parts of a text between hyphens, if all are numbers. Conditions: the text is shorter than 2^20 bytes; the variable errors.errorType holds the type error. -/
import Derived.Test.YtgkdjbdcmmegiaaGreatDoorREachI
import Derived.Test.YtgkdjbdcmmegiaaGreatDoorRIv
import Derived.Test.YtgkdjbdcmmegiaaGreatDoorWDigits
import Derived.Maps.AppendAt
namespace Go.Proofs.YtgkdjbdcmmegiaaGreatDoor
open Go.RowKit Go.Shelf Go.ChangeShapes Go.WideShapes
attribute [local go_sem] Oper.semAt_some

def strC (x : List UInt8) : List Value := [.string ⟨x.toArray⟩]
/-- The parts are handed back, or the first that is none. -/
def EachEnd (tE : TypeId) (size : Nat) (good : List UInt8 → Bool) (cs : List UInt8 → List Value) (P : List (List UInt8)) (w : World) (e : Ending) (w' : World) : Prop :=
  Below w.heap.size w w' ∧
  ((∃ v, e = .returned (.tuple #[v, .nilIface]) ∧ (∀ p ∈ P, good p = true) ∧ w'.ownsRow w.heap.size tE size v P.length (P.flatMap cs)) ∨
   (∃ (i : Nat) (x : List UInt8), P[i]? = some x ∧ good x = false ∧ (∀ (j : Nat) y, j < i → P[j]? = some y → good y = true) ∧ e = .returned (.tuple #[.slice none 0 0, .iface 56 (.agg #[.int .i64 15, .int .i64 i])])))
def faultV (c : Int) (i : Int) : Value := .iface 56 (.agg #[.int .i64 c, .int .i64 i])

theorem loadS {W : World} {b : Nat} {v : Value} (h : Boxed W b 68 v) : (loadVar 68 ⟨b, 0, none⟩).run Tryz.prog W = .ok v W := by
  have hc := h.cell
  have h2 := Tryz.isAgg68
  go_simp
theorem loadE {W : World} {b : Nat} {v : Value} (h : Boxed W b 26 v) : (loadVar 26 ⟨b, 0, none⟩).run Tryz.prog W = .ok v W := by
  have hc := h.cell
  have h2 := Tryz.isAgg26
  go_simp
theorem each_ret {fn : Func} {R : Ending → World → Prop} {tmps : Array Value} {D a b : Nat} {W : World} {x y : Value} {p u : Tmp} {ty tu : TypeId} (hres : fn.results = #[.cell p ty, .cell u tu]) (ha : Boxed W a ty x) (hb : Boxed W b tu y)
    (hx : ∀ {W : World} {b : Nat} {v : Value}, Boxed W b ty v → (loadVar ty ⟨b, 0, none⟩).run Tryz.prog W = .ok v W) (hy : ∀ {W : World} {b : Nat} {v : Value}, Boxed W b tu v → (loadVar tu ⟨b, 0, none⟩).run Tryz.prog W = .ok v W)
    (hK : W.heap[D]? = some (.deferred (some []))) (hp : tmps.getD p undef = .pointer (some ⟨a, 0, none⟩)) (hu : tmps.getD u undef = .pointer (some ⟨b, 0, none⟩)) (hR : R (.returned (.tuple #[x, y])) (W.putObj D (.deferred none))) :
    bodyPostM Fence.wide 5 Tryz.prog fn R .ret { tmps, defers := [{ target := .collected D, args := #[] }] } W := by
  have k : ∀ {b t v}, Boxed W b t v → Boxed (W.putObj D (.deferred none)) b t v := fun q => (World.putObj_heap_other (fun e => by subst e; rw [show W.heap[_]? = _ from q] at hK; cases hK)).trans q
  refine ⟨by simp, .inl ⟨_, _, rfl, run_takeDeferred hK, ?_⟩⟩
  exact ⟨_, results_cell2 hres _ _ _ _ _ _ _ hp hu (hx (k ha)) (hy (k hb)), hR⟩

set_option maxRecDepth 100000 in
set_option maxHeartbeats 4000000 in
theorem eachS_any (s : List UInt8) (c : UInt8) (hs : s.length ≤ 1048576) (w : World) (hg : ErrT w) :
    Calls Tryz.prog 70 #[.string ⟨s.toArray⟩, .string ⟨#[c]⟩, .func (.func 71) #[] #[]] w (EachEnd 9 1 isNum strC (splitL c s) w) := by
  refine (callsIn_wide (n := 5)).1 ?_
  obtain ⟨i0, hi, hz0, hz1, hz2⟩ := info_parts infoS
  have KS := Lib.hid (splitSeq_any ⟨s.toArray⟩ ⟨#[c]⟩)
  refine callsIn_of_wp_marks Tryz.func70 rfl trivial ?_ rfl
  simp only [Tryz.ntmps70, List.size_toArray, List.length_cons, List.length_nil, Nat.reduceAdd, Nat.reduceSub, Array.replicate_succ, Array.replicate_zero, List.push_toArray, List.append_toArray, List.nil_append, List.cons_append]
  gi_wp2_with (refine ⟨trivial, ?_⟩; gi_at_call 69; refine (callsIn_wide.2 (KS.out _)).mono ?_; rintro e w' ⟨rfl, rfl⟩)
  have b1 := (((((Boxed.new w 111 (.func (.func 71) #[] #[])).alloc (.cells #[.slice none 0 0] 68)).alloc (.cells #[.nilIface] 26)).alloc (.cells #[.slice none 0 0] 68)).alloc (.cells #[.string ⟨s.toArray⟩] 9)).alloc (.cells #[.string ⟨#[c]⟩] 9) |>.alloc (.cells #[.int .i64 0] 3)
  have b2 := ((((Boxed.new (w.alloc (.cells #[.func (.func 71) #[] #[]] 111)) 68 (.slice none 0 0)).alloc (.cells #[.nilIface] 26)).alloc (.cells #[.slice none 0 0] 68)).alloc (.cells #[.string ⟨s.toArray⟩] 9)).alloc (.cells #[.string ⟨#[c]⟩] 9) |>.alloc (.cells #[.int .i64 0] 3)
  have b3 := (((Boxed.new ((w.alloc (.cells #[.func (.func 71) #[] #[]] 111)).alloc (.cells #[.slice none 0 0] 68)) 26 .nilIface).alloc (.cells #[.slice none 0 0] 68)).alloc (.cells #[.string ⟨s.toArray⟩] 9)).alloc (.cells #[.string ⟨#[c]⟩] 9) |>.alloc (.cells #[.int .i64 0] 3)
  have b4 := ((Boxed.new (((w.alloc (.cells #[.func (.func 71) #[] #[]] 111)).alloc (.cells #[.slice none 0 0] 68)).alloc (.cells #[.nilIface] 26)) 68 (.slice none 0 0)).alloc (.cells #[.string ⟨s.toArray⟩] 9)).alloc (.cells #[.string ⟨#[c]⟩] 9) |>.alloc (.cells #[.int .i64 0] 3)
  have b5 := ((Boxed.new ((((w.alloc (.cells #[.func (.func 71) #[] #[]] 111)).alloc (.cells #[.slice none 0 0] 68)).alloc (.cells #[.nilIface] 26)).alloc (.cells #[.slice none 0 0] 68)) 9 (.string ⟨s.toArray⟩)).alloc (.cells #[.string ⟨#[c]⟩] 9)).alloc (.cells #[.int .i64 0] 3)
  have b6 := (Boxed.new (((((w.alloc (.cells #[.func (.func 71) #[] #[]] 111)).alloc (.cells #[.slice none 0 0] 68)).alloc (.cells #[.nilIface] 26)).alloc (.cells #[.slice none 0 0] 68)).alloc (.cells #[.string ⟨s.toArray⟩] 9)) 9 (.string ⟨#[c]⟩)).alloc (.cells #[.int .i64 0] 3)
  have b7 := Boxed.new ((((((w.alloc (.cells #[.func (.func 71) #[] #[]] 111)).alloc (.cells #[.slice none 0 0] 68)).alloc (.cells #[.nilIface] 26)).alloc (.cells #[.slice none 0 0] 68)).alloc (.cells #[.string ⟨s.toArray⟩] 9)).alloc (.cells #[.string ⟨#[c]⟩] 9)) 3 (.int .i64 0)
  have hB0 := below_alloc (below_alloc (below_alloc (below_alloc (below_alloc (below_alloc (below_new w (.cells #[.func (.func 71) #[] #[]] 111)) (.cells #[.slice none 0 0] 68)) (.cells #[.nilIface] 26)) (.cells #[.slice none 0 0] 68)) (.cells #[.string ⟨s.toArray⟩] 9)) (.cells #[.string ⟨#[c]⟩] 9)) (.cells #[.int .i64 0] 3)
  simp only [World.size_alloc] at b1 b2 b3 b4 b5 b6 b7
  obtain ⟨W0, hW0⟩ : ∃ W0, ((((((w.alloc (.cells #[.func (.func 71) #[] #[]] 111)).alloc (.cells #[.slice none 0 0] 68)).alloc (.cells #[.nilIface] 26)).alloc (.cells #[.slice none 0 0] 68)).alloc (.cells #[.string ⟨s.toArray⟩] 9)).alloc (.cells #[.string ⟨#[c]⟩] 9)).alloc (.cells #[.int .i64 0] 3) = W0 := ⟨_, rfl⟩
  have hsz : W0.heap.size = w.heap.size + 7 := by rw [← hW0]; simp
  rw [hW0] at b1 b2 b3 b4 b5 b6 b7 hB0 ⊢
  clear hW0
  have hS : SplitAt (w.heap.size + 1 + 1 + 1 + 1) c s W0 := ⟨b5.cell, b5.frozen, b6.cell, b7.cell⟩
  have hI0 : EachI w.heap.size 111 68 9 (.func (.func 71) #[] #[]) 1 isNum strC w [] W0 :=
    ⟨b1, b2, b3, ⟨_, b4, World.ownsRow_nil _ _ _ _⟩, by simp, by omega, hB0⟩
  clear b1 b2 b3 b4 b5 b6 b7
  refine range_box (by omega) (gf := 110) (lb := #[.pointer (some ⟨w.heap.size + 1 + 1 + 1 + 1 + 1, 0, none⟩), .pointer (some ⟨w.heap.size + 1 + 1 + 1 + 1, 0, none⟩), .pointer (some ⟨w.heap.size + 1 + 1 + 1 + 1 + 2, 0, none⟩)])
    (ks := w.heap.size + 1 + 1 + 1 + 1) (encs := fun x : List UInt8 => #[.string ⟨x.toArray⟩]) (L := splitL c s) (Kp := KpS (w.heap.size + 1 + 1 + 1 + 1)) rfl (enters_of Tryz.func110 (by kernel_rfl) rfl) (by omega) (fun _ => rfl)
    (fun W hb => split_iter _ (by omega) _ c s (by omega) W (hS.keep (KpS.below hb (by omega)))) KpS.trans (fun W l o hl => fun j hj => World.putObj_heap_other (by omega))
    (EachI w.heap.size 111 68 9 (.func (.func 71) #[] #[]) 1 isNum strC w)
    (EachX w.heap.size 68 (faultV 15) (splitL c s) isNum w)
    (EachI.own (Nat.le_refl _) _ (by omega)) (EachX.own (Nat.le_refl _) _ (by omega)) (fun front A v hA => hA.set v) hI0
    (fun x => { tmps := #[.string ⟨s.toArray⟩, .string ⟨#[c]⟩, .func (.func 71) #[] #[], undef, undef, .pointer (some ⟨w.heap.size, 0, none⟩), .pointer (some ⟨w.heap.size + 1, 0, none⟩), .pointer (some ⟨w.heap.size + 1 + 1, 0, none⟩), .pointer (some ⟨w.heap.size + 1 + 1 + 1, 0, none⟩), .string ⟨x.toArray⟩, undef, undef, .string ⟨s.toArray⟩, .string ⟨#[c]⟩, .func (.func 110) #[] #[.pointer (some ⟨w.heap.size + 1 + 1 + 1 + 1 + 1, 0, none⟩), .pointer (some ⟨w.heap.size + 1 + 1 + 1 + 1, 0, none⟩), .pointer (some ⟨w.heap.size + 1 + 1 + 1 + 1 + 2, 0, none⟩)], .string ⟨x.toArray⟩, undef, undef, undef, undef, undef, undef, undef, undef, undef, undef, undef, undef, undef, undef, undef, undef, undef, undef], defers := [] }) ?assign ?body ?done ?stop
  case assign =>
    intro l x W K hK
    gi_wp2
    exact hK
  case body =>
    intro l front x W hI hx
    have HSZ := Lib.hid hsz
    clear hsz hI0 hS hB0 KS
    obtain ⟨hbad, hbefore⟩ := first_bad hx hI.all
    have hxs : x.length ≤ 1048576 := Nat.le_trans (splitL_part c s x (List.mem_of_getElem? hbad)) hs
    have hfl : front.length + 1 ≤ 1048577 := by
      have h1 := hx.length_le
      have h2 := splitL_count c s
      simp at h1
      omega
    have hrc := hI.read.cell
    obtain ⟨v, hv, hrow⟩ := hI.row
    have hcl := hv.cell
    have hcf := hv.frozen
    have HI := Lib.hid hI
    have HX := Lib.hid hx; clear hx
    have hsW := hI.size
    cases hgd : isNum x with
    | true =>
      have KD := Lib.hid (fun W => digits_any x (by omega) W)
      rw [numV_yes hgd] at KD
      have hm : front.length + 1 ≤ maxLen := by unfold maxLen; omega
      have hm2 : (front.length + 1) * 16 ≤ 140737488355328 := by omega
      have hm3 : w.heap.size + 7 ≤ (W.alloc (.cells #[.string ⟨x.toArray⟩] 9)).heap.size := by simp; omega
      gi_wp2_with (first
        | (refine ⟨trivial, ?_⟩; gi_at_call 71; refine (CallsIn.inRound l (callsIn_wide.2 (KD.out _))).mono ?_; rintro e w' ⟨rfl, hw⟩; obtain rfl := hw.symm)
        | (gi_at_builtin; refine wpListIn_append_own _ rfl _ _ 68 rfl (w.heap.size + 7) 9 i0 (.string ⟨#[]⟩) 1 16 Tryz.underlying68 hi hz0 hz1 hz2 rfl (by decide) _ _ _ rfl (hrow.alloc _) ⟨W.heap.size, 0, none⟩ 1 1 [.string ⟨x.toArray⟩] rfl rfl (cell_one_new _ _ _) (by simp [Value.oneCell']) hm hm2 hm3 ?_; intro v' w1 hown' hgrow _; obtain ⟨g', cap', rfl⟩ := ownsRow_succ hown'; have hgr : (W.alloc (.cells #[.string ⟨x.toArray⟩] 9)).grownBy w1 v.ownBlock := hgrow; clear hgrow; have HG := Lib.hid hgr; clear hgr; have hv1 : Boxed w1 (w.heap.size + 1 + 1 + 1) 68 v := (hv.alloc _).kept HG.out (ownsRow_block hrow (by omega)); have hc1 := hv1.cell; have hf1 := hv1.frozen; clear hv1))
      exact EachI.stepped HI.out hgd hv (by decide) hrow hown' HG.out rfl rfl
    | false =>
      have KD := Lib.hid (fun W => digits_any x (by omega) W)
      rw [numV_no hgd] at KD
      obtain ⟨pp, cc, rfl, _⟩ := own_shape hrow
      have KC : Hid (∀ W, ErrT W → Calls Tryz.prog 12 #[.iface 30 (.int .i64 15)] W (IntEnd 15 W)) := Lib.hid (fun W hg => Code_any (some (15, none)) W hg)
      have KN := Lib.hid (fun W => new_ok 15 (front.length : Int) W rfl)
      have HG : Hid (ErrT W.drew) := Lib.hid (hg.here hI.below.drew)
      have hr0 := hI.r0.cell
      have hr1 := hI.r1.cell
      have hf0 := hI.r0.frozen
      have hf1 := hI.r1.frozen
      gi_wp2_with (refine ⟨trivial, ?_⟩; gi_at_call 71; refine (CallsIn.inRound l (callsIn_wide.2 (KD.out _))).mono ?_; rintro e w' ⟨rfl, hw⟩; obtain rfl := hw.symm)
      have hmx : Tryz.prog.follows .mixedOrders = true := by kernel_rfl
      gi_region_with_o (first
        | (refine ⟨trivial, ?_⟩; gi_at_call 12; refine (CallsIn.inRound l (callsIn_wide.2 (KC.out _ HG.out))).mono ?_; rintro e wc ⟨rfl, hbc⟩; have HB : Hid (Below W.heap.size W wc) := Lib.hid ((Below.refl W.heap.size W).drew.trans hbc); clear hbc; have hvc : Boxed wc (w.heap.size + 1 + 1 + 1) 68 (.slice pp front.length cc) := (HB.out.block _ hv.lt).trans hv; have hcc := hvc.cell; clear hvc; have h0c : Boxed wc (w.heap.size + 1) 68 (.slice none 0 0) := (HB.out.block _ HI.out.r0.lt).trans HI.out.r0; have hr0c := h0c.cell; have hf0c := h0c.frozen; clear h0c; have h1c : Boxed wc (w.heap.size + 1 + 1) 26 .nilIface := (HB.out.block _ HI.out.r1.lt).trans HI.out.r1; have hr1c := h1c.cell; have hf1c := h1c.frozen; clear h1c)
        | (refine ⟨trivial, ?_⟩; gi_at_call 30; refine (CallsIn.inRound l (callsIn_wide.2 (KN.out _))).mono ?_; rintro e w' ⟨rfl, hw⟩; obtain rfl := hw))
      all_goals gi_wp2
      all_goals exact EachX.stored _ HI.out hgd HB.out rfl ⟨hbad, hbefore⟩
  case done =>
    intro D W hD hI hK
    obtain ⟨v, hv, hrow⟩ := hI.row
    obtain ⟨pp, cc, rfl, _⟩ := own_shape hrow
    have hcl := hv.cell
    have hr0 := hI.r0.cell
    have hr1 := hI.r1.cell
    have hf0 := hI.r0.frozen
    have hf1 := hI.r1.frozen
    have HI := Lib.hid hI; clear hI
    have HK := Lib.hid hK; clear hK
    have HSZ := Lib.hid hsz
    clear hsz hI0 hS hB0 KS
    gi_wp2
    have hsz' := HSZ.out
    refine each_ret (fn := Tryz.f70) (p := 6) (u := 7) (D := D) (W := (W.setCell ⟨w.heap.size + 1, 0, none⟩ (.slice pp (splitL c s).length cc)).setCell ⟨w.heap.size + 1 + 1, 0, none⟩ .nilIface) rfl ((HI.out.r0.set _).other (by omega) _) ((HI.out.r1.other (by omega) _).set _) loadS loadE (set_other (set_other HK.out (by omega)) (by omega)) rfl rfl ?_
    have hb := HI.out.below.setCell (p := ⟨w.heap.size + 1, 0, none⟩) (by simp) (.slice pp (splitL c s).length cc)
    have hb := hb.setCell (p := ⟨w.heap.size + 1 + 1, 0, none⟩) (by simp; omega) .nilIface
    refine ⟨hb.trans (belowK_b (w := w) (Nat.le_refl _) _ D _ _ (by have := HSZ.out; omega) (set_other (set_other HK.out (by have := HSZ.out; omega)) (by have := HSZ.out; omega)) rfl rfl), .inl ⟨_, rfl, HI.out.all, ?_⟩⟩
    have h1 := hrow.kept (grownBy_setCell' W (w.heap.size + 1) (.slice pp (splitL c s).length cc)) (.inr (ownsRow_block hrow (by omega)).symm)
    have h2 := h1.kept (grownBy_setCell' _ (w.heap.size + 1 + 1) .nilIface) (.inr (ownsRow_block h1 (by omega)).symm)
    exact own_base (ownsRow_putObj h2 _ (set_other (set_other HK.out (by have := HSZ.out; omega)) (by have := HSZ.out; omega)) rfl) (by omega)
  case stop =>
    intro D W hD hX hK
    have HSZ := Lib.hid hsz
    clear hsz hI0 hS hB0 KS
    have HX := Lib.hid hX; clear hX
    gi_wp2
    obtain ⟨i, x, h1, h2, h3, h4, h5⟩ := HX.out.at_
    refine each_ret (fn := Tryz.f70) (p := 6) (u := 7) (D := D) rfl h4 h5 loadS loadE hK rfl rfl ?_
    exact ⟨HX.out.below.trans (belowK_b (w := w) (Nat.le_refl _) _ D _ _ (by have := HSZ.out; omega) hK rfl rfl), .inr ⟨i, x, h1, h2, h3, rfl⟩⟩
end Go.Proofs.YtgkdjbdcmmegiaaGreatDoor
