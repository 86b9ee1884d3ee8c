/- each of package ranges at parts: the parts of a list's text between commas, if all are intervals. Conditions: the text has at most 2^20 bytes; the tied variables hold what they do. -/
import Derived.Test.YtgkdjbdcmmegiaaGreatDoorRNum
namespace Go.Proofs.YtgkdjbdcmmegiaaGreatDoor
open Go.RowKit Go.Shelf Go.ChangeShapes Go.WideShapes
attribute [local go_sem] Oper.semAt_some

def partGood (x : List UInt8) : Bool := match partR x with
  | .ok _ => true
  | .error _ => false
def partC (x : List UInt8) : List Value := match partR x with
  | .ok z => [.int .u64 z.1.1, .int .u64 z.1.2, .bool z.2]
  | .error _ => []
def partE (x : List UInt8) : Int := match partR x with
  | .ok _ => 0
  | .error c => c
def partEv (P : List (List UInt8)) (i : Int) : Value := faultV (partE (P.getD i.toNat [])) i
theorem part_code {x : List UInt8} {c : Int} (h : partR x = .error c) : (c == 0) = false := by
  unfold partR at h
  split at h
  · split at h
    · cases h
    · cases h; rfl
  · cases h; rfl
/-- The parts are handed back, or the first that is none. -/
def EachPEnd (P : List (List UInt8)) (w : World) (e : Ending) (w' : World) : Prop :=
  Below w.heap.size w w' ∧
  ((∃ v, e = .returned (.tuple #[v, .nilIface]) ∧ (∀ p ∈ P, partGood p = true) ∧ w'.ownsRow w.heap.size 76 3 v P.length (P.flatMap partC)) ∨
   (∃ (i : Nat) (x : List UInt8), P[i]? = some x ∧ partGood x = false ∧ (∀ (j : Nat) y, j < i → P[j]? = some y → partGood y = true) ∧ e = .returned (.tuple #[.slice none 0 0, faultV (partE x) i])))
theorem infoP : (Tryz.prog.info? 76).map (fun i => (i.zero, i.size, i.bytes)) = some (some (.agg #[.int .u64 0, .int .u64 0, .bool false]), 3, 24) := by kernel_rfl
theorem cell_three_at (w : World) (x y z : Value) (t : TypeId) (k : Nat) (hk : k = w.heap.size) : ∀ j u, [x, y, z][j]? = some u → (w.alloc (.cells #[x, y, z] t)).cell? ((⟨k, 0, none⟩ : Addr).add j) = some u := by
  subst hk
  intro j u h
  match j, h with
  | 0, h => simp at h; subst h; simp [Addr.add]
  | 1, h => simp at h; subst h; simp [Addr.add]
  | 2, h => simp at h; subst h; simp [Addr.add]
  | j + 3, h => simp at h
theorem loadPs {W : World} {b : Nat} {v : Value} (h : Boxed W b 72 v) : (loadVar 72 ⟨b, 0, none⟩).run Tryz.prog W = .ok v W := by
  have hc := h.cell
  have h2 := Tryz.isAgg72
  go_simp

set_option maxRecDepth 100000 in
set_option maxHeartbeats 4000000 in
theorem eachP_any (s : List UInt8) (c : UInt8) (hs : s.length ≤ 1048576) (w : World) (hg : ErrT w) (hr : RngT w) :
    Calls Tryz.prog 48 #[.string ⟨s.toArray⟩, .string ⟨#[c]⟩, .func (.func 49) #[] #[]] w (EachPEnd (splitL c s) w) := by
  refine (callsIn_wide (n := 5)).1 ?_
  obtain ⟨i0, hi, hz0, hz1, hz2⟩ := info_parts infoP
  have KS := Lib.hid (splitSeq_any ⟨s.toArray⟩ ⟨#[c]⟩)
  refine callsIn_of_wp_marks Tryz.func48 rfl trivial ?_ rfl
  simp only [Tryz.ntmps48, List.size_toArray, List.length_cons, List.length_nil, Nat.reduceAdd, Nat.reduceSub, Array.replicate_succ, Array.replicate_zero, List.push_toArray, List.append_toArray, List.nil_append, List.cons_append]
  gi_wp2_with (refine ⟨trivial, ?_⟩; gi_at_call 69; refine (callsIn_wide.2 (KS.out _)).mono ?_; rintro e w' ⟨rfl, rfl⟩)
  have b1 := (((((Boxed.new w 77 (.func (.func 49) #[] #[])).alloc (.cells #[.slice none 0 0] 72)).alloc (.cells #[.nilIface] 26)).alloc (.cells #[.slice none 0 0] 72)).alloc (.cells #[.string ⟨s.toArray⟩] 9)).alloc (.cells #[.string ⟨#[c]⟩] 9) |>.alloc (.cells #[.int .i64 0] 3)
  have b2 := ((((Boxed.new (w.alloc (.cells #[.func (.func 49) #[] #[]] 77)) 72 (.slice none 0 0)).alloc (.cells #[.nilIface] 26)).alloc (.cells #[.slice none 0 0] 72)).alloc (.cells #[.string ⟨s.toArray⟩] 9)).alloc (.cells #[.string ⟨#[c]⟩] 9) |>.alloc (.cells #[.int .i64 0] 3)
  have b3 := (((Boxed.new ((w.alloc (.cells #[.func (.func 49) #[] #[]] 77)).alloc (.cells #[.slice none 0 0] 72)) 26 .nilIface).alloc (.cells #[.slice none 0 0] 72)).alloc (.cells #[.string ⟨s.toArray⟩] 9)).alloc (.cells #[.string ⟨#[c]⟩] 9) |>.alloc (.cells #[.int .i64 0] 3)
  have b4 := ((Boxed.new (((w.alloc (.cells #[.func (.func 49) #[] #[]] 77)).alloc (.cells #[.slice none 0 0] 72)).alloc (.cells #[.nilIface] 26)) 72 (.slice none 0 0)).alloc (.cells #[.string ⟨s.toArray⟩] 9)).alloc (.cells #[.string ⟨#[c]⟩] 9) |>.alloc (.cells #[.int .i64 0] 3)
  have b5 := ((Boxed.new ((((w.alloc (.cells #[.func (.func 49) #[] #[]] 77)).alloc (.cells #[.slice none 0 0] 72)).alloc (.cells #[.nilIface] 26)).alloc (.cells #[.slice none 0 0] 72)) 9 (.string ⟨s.toArray⟩)).alloc (.cells #[.string ⟨#[c]⟩] 9)).alloc (.cells #[.int .i64 0] 3)
  have b6 := (Boxed.new (((((w.alloc (.cells #[.func (.func 49) #[] #[]] 77)).alloc (.cells #[.slice none 0 0] 72)).alloc (.cells #[.nilIface] 26)).alloc (.cells #[.slice none 0 0] 72)).alloc (.cells #[.string ⟨s.toArray⟩] 9)) 9 (.string ⟨#[c]⟩)).alloc (.cells #[.int .i64 0] 3)
  have b7 := Boxed.new ((((((w.alloc (.cells #[.func (.func 49) #[] #[]] 77)).alloc (.cells #[.slice none 0 0] 72)).alloc (.cells #[.nilIface] 26)).alloc (.cells #[.slice none 0 0] 72)).alloc (.cells #[.string ⟨s.toArray⟩] 9)).alloc (.cells #[.string ⟨#[c]⟩] 9)) 3 (.int .i64 0)
  have hB0 := below_alloc (below_alloc (below_alloc (below_alloc (below_alloc (below_alloc (below_new w (.cells #[.func (.func 49) #[] #[]] 77)) (.cells #[.slice none 0 0] 72)) (.cells #[.nilIface] 26)) (.cells #[.slice none 0 0] 72)) (.cells #[.string ⟨s.toArray⟩] 9)) (.cells #[.string ⟨#[c]⟩] 9)) (.cells #[.int .i64 0] 3)
  simp only [World.size_alloc] at b1 b2 b3 b4 b5 b6 b7
  obtain ⟨W0, hW0⟩ : ∃ W0, ((((((w.alloc (.cells #[.func (.func 49) #[] #[]] 77)).alloc (.cells #[.slice none 0 0] 72)).alloc (.cells #[.nilIface] 26)).alloc (.cells #[.slice none 0 0] 72)).alloc (.cells #[.string ⟨s.toArray⟩] 9)).alloc (.cells #[.string ⟨#[c]⟩] 9)).alloc (.cells #[.int .i64 0] 3) = W0 := ⟨_, rfl⟩
  have hsz : W0.heap.size = w.heap.size + 7 := by rw [← hW0]; simp
  rw [hW0] at b1 b2 b3 b4 b5 b6 b7 hB0 ⊢
  clear hW0
  have hS : SplitAt (w.heap.size + 1 + 1 + 1 + 1) c s W0 := ⟨b5.cell, b5.frozen, b6.cell, b7.cell⟩
  have hI0 : EachI w.heap.size 77 72 76 (.func (.func 49) #[] #[]) 3 partGood partC w [] W0 :=
    ⟨b1, b2, b3, ⟨_, b4, World.ownsRow_nil _ _ _ _⟩, by simp, by omega, hB0⟩
  clear b1 b2 b3 b4 b5 b6 b7
  refine range_box (by omega) (gf := 110) (lb := #[.pointer (some ⟨w.heap.size + 1 + 1 + 1 + 1 + 1, 0, none⟩), .pointer (some ⟨w.heap.size + 1 + 1 + 1 + 1, 0, none⟩), .pointer (some ⟨w.heap.size + 1 + 1 + 1 + 1 + 2, 0, none⟩)])
    (ks := w.heap.size + 1 + 1 + 1 + 1) (encs := fun x : List UInt8 => #[.string ⟨x.toArray⟩]) (L := splitL c s) (Kp := KpS (w.heap.size + 1 + 1 + 1 + 1)) rfl (enters_of Tryz.func110 (by kernel_rfl) rfl) (by omega) (fun _ => rfl)
    (fun W hb => split_iter _ (by omega) _ c s (by omega) W (hS.keep (KpS.below hb (by omega)))) KpS.trans (fun W l o hl => fun j hj => World.putObj_heap_other (by omega))
    (EachI w.heap.size 77 72 76 (.func (.func 49) #[] #[]) 3 partGood partC w)
    (EachX w.heap.size 72 (partEv (splitL c s)) (splitL c s) partGood w)
    (EachI.own (Nat.le_refl _) _ (by omega)) (EachX.own (Nat.le_refl _) _ (by omega)) (fun front A v hA => hA.set v) hI0
    (fun x => { tmps := #[.string ⟨s.toArray⟩, .string ⟨#[c]⟩, .func (.func 49) #[] #[], undef, undef, .pointer (some ⟨w.heap.size, 0, none⟩), .pointer (some ⟨w.heap.size + 1, 0, none⟩), .pointer (some ⟨w.heap.size + 1 + 1, 0, none⟩), .pointer (some ⟨w.heap.size + 1 + 1 + 1, 0, none⟩), .string ⟨x.toArray⟩, undef, undef, .string ⟨s.toArray⟩, .string ⟨#[c]⟩, .func (.func 110) #[] #[.pointer (some ⟨w.heap.size + 1 + 1 + 1 + 1 + 1, 0, none⟩), .pointer (some ⟨w.heap.size + 1 + 1 + 1 + 1, 0, none⟩), .pointer (some ⟨w.heap.size + 1 + 1 + 1 + 1 + 2, 0, none⟩)], .string ⟨x.toArray⟩, undef, undef, undef, undef, undef, undef, undef, undef, undef, undef, undef, undef, undef, undef, undef, undef, undef, undef], defers := [] }) ?assign ?body ?done ?stop
  case assign =>
    intro l x W K hK
    gi_wp2
    exact hK
  case body =>
    intro l front x W hI hx
    have HSZ := Lib.hid hsz
    clear hsz hI0 hS hB0 KS
    obtain ⟨hbad, hbefore⟩ := first_bad hx hI.all
    have hxs : x.length ≤ 1048576 := Nat.le_trans (splitL_part c s x (List.mem_of_getElem? hbad)) hs
    have hfl : front.length + 1 ≤ 1048577 := by
      have h1 := hx.length_le
      have h2 := splitL_count c s
      simp at h1
      omega
    have hrc := hI.read.cell
    obtain ⟨v, hv, hrow⟩ := hI.row
    have hcl := hv.cell
    have hcf := hv.frozen
    have HI := Lib.hid hI
    have HX := Lib.hid hx; clear hx
    have hsW := hI.size
    have Hr := Lib.hid (hr.here HI.out.below)
    have HG := Lib.hid (hg.here HI.out.below)
    cases hpr : partR x with
    | ok z =>
      obtain ⟨⟨za, zb⟩, zt⟩ := z
      have hgd : partGood x = true := by unfold partGood; rw [hpr]
      have KP : Hid (Calls Tryz.prog 49 #[.string ⟨x.toArray⟩] W (fun e w' => Below W.heap.size W w' ∧ e = .returned (.tuple #[.agg #[.int .u64 za, .int .u64 zb, .bool zt], .nilIface]))) := Lib.hid ((partOf_any x hxs W HG.out Hr.out).mono fun e w' h => ⟨h.1, by have := h.2; rw [hpr] at this; exact this⟩)
      have hm : front.length + 1 ≤ maxLen := by unfold maxLen; omega
      have hm2 : (front.length + 1) * 24 ≤ 140737488355328 := by omega
      obtain ⟨pp, cc, rfl, _⟩ := own_shape hrow
      gi_wp2_with (first
        | (refine ⟨trivial, ?_⟩; gi_at_call 49; refine (CallsIn.inRound l (callsIn_wide.2 KP.out)).mono ?_; rintro e wc ⟨hbc, rfl⟩; have HB := Lib.hid hbc; clear hbc; have hvc : Boxed wc (w.heap.size + 1 + 1 + 1) 72 (.slice pp front.length cc) := (HB.out.block _ hv.lt).trans hv; have hrc2 : wc.ownsRow (w.heap.size + 7) 76 3 (.slice pp front.length cc) front.length (front.flatMap partC) := own_below hrow HB.out; have hcc := hvc.cell; have hcf2 := hvc.frozen; have hszc : w.heap.size + 7 ≤ wc.heap.size := Nat.le_trans hsW HB.out.size; have hl3 : w.heap.size + 1 + 1 + 1 < wc.heap.size := (by omega); have hl4 : w.heap.size + 1 + 1 + 1 < wc.heap.size + 1 := (by omega))
        | (gi_at_builtin; refine wpListIn_append_own _ rfl _ _ 72 rfl (w.heap.size + 7) 76 i0 (.agg #[.int .u64 0, .int .u64 0, .bool false]) 3 24 Tryz.underlying72 hi hz0 hz1 hz2 rfl (by decide) _ _ _ rfl ((hrc2.alloc _).alloc _) ⟨wc.heap.size + 1, 0, none⟩ 1 1 [.int .u64 za, .int .u64 zb, .bool zt] rfl rfl (cell_three_at _ _ _ _ _ _ (by simp)) (by simp [Value.oneCell']) hm hm2 (by simp; omega) ?_; intro v' w1 hown' hgrow _; obtain ⟨g', cap', rfl⟩ := ownsRow_succ hown'; have hgr : ((wc.alloc (.cells #[.int .u64 za, .int .u64 zb, .bool zt] 76)).alloc (.cells #[.int .u64 za, .int .u64 zb, .bool zt] 76)).grownBy w1 (Value.slice pp front.length cc).ownBlock := hgrow; clear hgrow; have HGr := Lib.hid hgr; clear hgr; have hv1 : Boxed w1 (w.heap.size + 1 + 1 + 1) 72 (.slice pp front.length cc) := ((hvc.alloc _).alloc _).kept HGr.out (ownsRow_block hrc2 (by omega)); have hc1 := hv1.cell; have hf1 := hv1.frozen; clear hv1))
      exact EachI.stepped2 HI.out (HB.out.alloc HB.out.size _) hgd (hvc.alloc _) (by decide) (hrc2.alloc _) hown' HGr.out rfl (by unfold partC; rw [hpr])
    | error ec =>
      have hgd : partGood x = false := by unfold partGood; rw [hpr]
      have hec : (ec == 0) = false := part_code hpr
      have KP : Hid (Calls Tryz.prog 49 #[.string ⟨x.toArray⟩] W (fun e w' => Below W.heap.size W w' ∧ ∃ o, e = .returned (.tuple #[.agg #[.int .u64 0, .int .u64 0, .bool false], errV (some (ec, o))]))) := Lib.hid ((partOf_any x hxs W HG.out Hr.out).mono fun e w' h => ⟨h.1, by have := h.2; rw [hpr] at this; exact this⟩)
      have HP := Lib.hid (show _ ∧ _ from ⟨hbad, hbefore⟩)
      have HEv : Hid (faultV ec front.length = partEv (splitL c s) front.length) := Lib.hid (by
        unfold partEv
        rw [Int.toNat_natCast, List.getD_eq_getElem?_getD, hbad]
        have e : partE x = ec := by unfold partE; rw [hpr]
        simp [e])
      have KN := Lib.hid (fun W => new_ok ec (front.length : Int) W hec)
      gi_wp2_with (refine ⟨trivial, ?_⟩; gi_at_call 49; refine (CallsIn.inRound l (callsIn_wide.2 KP.out)).mono ?_; rintro e wc ⟨hbc, eo, rfl⟩; have HB := Lib.hid hbc; clear hbc; have KC := Lib.hid (fun W hg => Code_any (some (ec, eo)) W hg); obtain ⟨ty0, u0, hnn⟩ : ∃ t u, errV (some (ec, eo)) = .iface t u := (by cases eo <;> exact ⟨_, _, rfl⟩); rw [hnn] at KC ⊢; clear hnn)
      obtain ⟨Wm, hWm⟩ : ∃ Wm, wc.alloc (.cells #[.int .u64 0, .int .u64 0, .bool false] 76) = Wm := ⟨_, rfl⟩
      have HBm : Hid (Below W.heap.size W Wm) := Lib.hid (by rw [← hWm]; exact HB.out.alloc HB.out.size _)
      rw [hWm]
      clear hWm
      have HIm := Lib.hid (HI.out.call HBm.out rfl)
      have HGm : Hid (ErrT Wm.drew) := Lib.hid (HG.out.here HBm.out.drew)
      clear hv hrow hcl hcf hrc hI hbad hbefore
      obtain ⟨v, hv, hrow⟩ := HIm.out.row
      obtain ⟨pp, cc, rfl, _⟩ := own_shape hrow
      have hcl := hv.cell
      have hcf := hv.frozen
      have hr0 := HIm.out.r0.cell
      have hr1 := HIm.out.r1.cell
      have hf0 := HIm.out.r0.frozen
      have hf1 := HIm.out.r1.frozen
      have hmx : Tryz.prog.follows .mixedOrders = true := by kernel_rfl
      gi_region_with_o (first
        | (refine ⟨trivial, ?_⟩; gi_at_call 12; refine (CallsIn.inRound l (callsIn_wide.2 (KC.out _ HGm.out))).mono ?_; rintro e wc ⟨rfl, hbc⟩; have HB : Hid (Below Wm.heap.size Wm wc) := Lib.hid ((Below.refl Wm.heap.size Wm).drew.trans hbc); clear hbc; have hvc : Boxed wc (w.heap.size + 1 + 1 + 1) 72 (.slice pp front.length cc) := (HB.out.block _ hv.lt).trans hv; have hcc := hvc.cell; clear hvc; have h0c : Boxed wc (w.heap.size + 1) 72 (.slice none 0 0) := (HB.out.block _ HIm.out.r0.lt).trans HIm.out.r0; have hr0c := h0c.cell; have hf0c := h0c.frozen; clear h0c; have h1c : Boxed wc (w.heap.size + 1 + 1) 26 .nilIface := (HB.out.block _ HIm.out.r1.lt).trans HIm.out.r1; have hr1c := h1c.cell; have hf1c := h1c.frozen; clear h1c)
        | (refine ⟨trivial, ?_⟩; gi_at_call 30; refine (CallsIn.inRound l (callsIn_wide.2 (KN.out _))).mono ?_; rintro e w' ⟨rfl, hw⟩; obtain rfl := hw))
      all_goals gi_wp2
      all_goals exact EachX.stored2 _ HI.out HBm.out hgd HB.out HEv.out HP.out
  case done =>
    intro D W hD hI hK
    obtain ⟨v, hv, hrow⟩ := hI.row
    obtain ⟨pp, cc, rfl, _⟩ := own_shape hrow
    have hcl := hv.cell
    have hr0 := hI.r0.cell
    have hr1 := hI.r1.cell
    have hf0 := hI.r0.frozen
    have hf1 := hI.r1.frozen
    have HI := Lib.hid hI; clear hI
    have HK := Lib.hid hK; clear hK
    have HSZ := Lib.hid hsz
    clear hsz hI0 hS hB0 KS
    gi_wp2
    have hsz' := HSZ.out
    refine each_ret (fn := Tryz.f48) (p := 6) (u := 7) (D := D) (W := (W.setCell ⟨w.heap.size + 1, 0, none⟩ (.slice pp (splitL c s).length cc)).setCell ⟨w.heap.size + 1 + 1, 0, none⟩ .nilIface) rfl ((HI.out.r0.set _).other (by omega) _) ((HI.out.r1.other (by omega) _).set _) loadPs loadE (set_other (set_other HK.out (by omega)) (by omega)) rfl rfl ?_
    have hb := HI.out.below.setCell (p := ⟨w.heap.size + 1, 0, none⟩) (by simp) (.slice pp (splitL c s).length cc)
    have hb := hb.setCell (p := ⟨w.heap.size + 1 + 1, 0, none⟩) (by simp; omega) .nilIface
    refine ⟨hb.trans (belowK_b (w := w) (Nat.le_refl _) _ D _ _ (by have := HSZ.out; omega) (set_other (set_other HK.out (by have := HSZ.out; omega)) (by have := HSZ.out; omega)) rfl rfl), .inl ⟨_, rfl, HI.out.all, ?_⟩⟩
    have h1 := hrow.kept (grownBy_setCell' W (w.heap.size + 1) (.slice pp (splitL c s).length cc)) (.inr (ownsRow_block hrow (by omega)).symm)
    have h2 := h1.kept (grownBy_setCell' _ (w.heap.size + 1 + 1) .nilIface) (.inr (ownsRow_block h1 (by omega)).symm)
    exact own_base (ownsRow_putObj h2 _ (set_other (set_other HK.out (by have := HSZ.out; omega)) (by have := HSZ.out; omega)) rfl) (by omega)
  case stop =>
    intro D W hD hX hK
    have HSZ := Lib.hid hsz
    clear hsz hI0 hS hB0 KS
    have HX := Lib.hid hX; clear hX
    gi_wp2
    obtain ⟨i, x, h1, h2, h3, h4, h5⟩ := HX.out.at_
    refine each_ret (fn := Tryz.f48) (p := 6) (u := 7) (D := D) rfl h4 h5 loadPs loadE hK rfl rfl ?_
    exact ⟨HX.out.below.trans (belowK_b (w := w) (Nat.le_refl _) _ D _ _ (by have := HSZ.out; omega) hK rfl rfl), .inr ⟨i, x, h1, h2, h3, by rw [show partEv (splitL c s) i = faultV (partE x) i by unfold partEv; rw [Int.toNat_natCast, List.getD_eq_getElem?_getD, h1]; rfl]⟩⟩
end Go.Proofs.YtgkdjbdcmmegiaaGreatDoor
