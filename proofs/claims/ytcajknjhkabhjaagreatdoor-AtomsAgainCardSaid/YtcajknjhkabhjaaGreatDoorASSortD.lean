/- sort.Slice by a comparison that makes blocks: pdqsort_func: it permutes the list, whose keys ascend. Conditions: fewer than 65536 elements; as each theorem says.  -/
import Derived.Test.YtcajknjhkabhjaaGreatDoorASSortP
namespace Go.Proofs.YtcajknjhkabhjaaGreatDoor
open Go.RowKit Go.Lib
open Go.Sort hiding Below
def PdqS (N : Nat) : Prop := ∀ {sl : Value} {k n T : Nat} {S : Array Int → World → Prop} (_ : SortC sl k n T S) (d : Array Int) (a b L : Nat) (w : World), b - a = N → S d w → a ≤ b → b ≤ n → n ≤ 65535 → L ≤ 1000 → Go.Sort.Below ltInt a b d →
 Calls Tryz.prog 124 #[.agg #[lessV sl, swapV sl], .int .i64 a, .int .i64 b, .int .i64 L] w (IsSrt k S (fun d' => PermIn a b d d' ∧ SortedIn ltInt a b d') w)
set_option maxRecDepth 100000 in
set_option maxHeartbeats 20000000 in
theorem s_pdq (N : Nat) : PdqS N := by
 induction N using Nat.strongRecOn with
 | ind N ih =>
 intro sl k n T S C d a0 b0 L0 w hN hS hab hb hn hL0 hbel
 have IH := Lib.hid ih; clear ih
 obtain ⟨hsz, hkT, hTW⟩ := C.size _ _ hS
 have HS0 := Lib.hid (PS.start hab (show b0 ≤ d.size by omega) hbel); clear hbel
 have hA0 := SA.start C hS
 obtain ⟨X, hX⟩ : ∃ X, w.heap.size = X := ⟨_, rfl⟩
 obtain ⟨W0, hW0⟩ : ∃ W0, w.alloc (.cells #[lessV sl, swapV sl] 154) = W0 := ⟨_, rfl⟩
 rw [hX, hW0] at hA0
 have x0 := hA0.x0
 have x1 := hA0.x1
 have HA := Lib.hid hA0
 have hag := Tryz.isAgg154
 clear hA0 hS
 go_enter Tryz.func124, Tryz.ntmps124
 go_wp2_with fail
 go_loopg [1, 2, 3, 8, 9] (b0 - a0) (fun z va vb vl v8 v9 wr => ∃ (a b L : Nat) (wb wp : Bool) (dk : Array Int), va = .int .i64 a ∧ vb = .int .i64 b ∧ vl = .int .i64 L ∧ v8 = .bool wb ∧ v9 = .bool wp ∧ b - a ≤ z ∧ L ≤ 1000 ∧ PS a0 b0 a b d dk ∧ SA sl k X S w dk wr)
 case atStart => exact ⟨a0, b0, L0, true, true, d, rfl, rfl, rfl, rfl, rfl, Nat.le_refl _, hL0, HS0.out, HA.out⟩
 case round =>
  clear HA x0 x1
  obtain ⟨a, b, L, wb, wp, dk, rfl, rfl, rfl, rfl, rfl, hz, hL, hst, hr⟩ := hrel
  have b1 := hst.b1
  have b2 := hst.b2
  have b3 := hst.b3
  have hs : dk.size = d.size := hst.size
  have HS := Lib.hid hst
  have x0 := hr.x0
  have x1 := hr.x1
  have HR := Lib.hid hr; clear hr
  clear hst HS0
  obtain ⟨l, hl⟩ : ∃ l : Nat, b - a = l := ⟨_, rfl⟩
  have e1 : (b : Int) - (a : Int) = (l : Int) := by omega
  by_cases h12 : l ≤ 12
  ·go_wp2_with (go_at_call 179; refine (HR.out.run (s_insertion C dk a b wr HR.out.s (by omega) (by omega) (by omega))).mono ?_; rintro e w1 ⟨rfl, d1, hp, hr⟩)
   (try simp only [Exit.inBlock, Exit.then]); refine bodyPost_ret (results_none rfl _ _ _) rfl ?_
   exact hr.done (HS.out.done hp.1 hp.2)
  ·by_cases hL1 : L = 0
   ·subst hL1
    go_wp2_with (go_at_call 180; refine (HR.out.run (s_heap C dk a b wr HR.out.s (by omega) (by omega) (by omega))).mono ?_; rintro e w1 ⟨rfl, d1, hp, hr⟩)
    (try simp only [Exit.inBlock, Exit.then]); refine bodyPost_ret (results_none rfl _ _ _) rfl ?_
    exact hr.done (HS.out.done hp.1 hp.2)
   ·have e2 : ((L : Int) == 0) = false := by simpa using hL1
    go_upto_if 35 with fail
    go_cut [3] from 19 (fun s3 wx => ∃ (L1 : Nat) (d1 : Array Int), s3 = .int .i64 L1 ∧ L1 ≤ 1000 ∧ PS a0 b0 a b d d1 ∧ SA sl k X S w d1 wx)
    case first =>
     cases wb with
     | true =>
       go_wp2_with fail
       go_meet
       case rel => exact ⟨L, dk, rfl, hL, HS.out, HR.out⟩
     | false =>
       have e3 : (L : Int) - 1 = ((L - 1 : Nat) : Int) := by omega
       go_wp2_with (go_at_call 181; refine (HR.out.run (s_break C dk a b wr HR.out.s (by omega) (by omega) (by omega))).mono ?_; rintro e w1 ⟨rfl, d1, hp, hr⟩; have HR := Lib.hid (hr); clear hr; have HS := Lib.hid (HS.out.step hp); clear hp)
       go_meet
       case rel => exact ⟨L - 1, d1, by first | rfl | rw [e3], by omega, HS.out, HR.out⟩
    case rest =>
     clear HS HR hs hL hL1 e2 x0 x1
     obtain ⟨L, d1, rfl, hL, hst, hr⟩ := hcut
     have hs : d1.size = d.size := hst.size
     have HS := Lib.hid hst; clear hst
     have x0 := hr.x0
     have x1 := hr.x1
     have HR := Lib.hid hr; clear hr
     have K := Lib.hid (s_pivot C d1 a b wc HR.out.s (by omega) (by omega) (by omega))
     go_upto_if 50 with (go_at_call 182; refine K.out.mono ?_; rintro e w4 ⟨q, h, rfl, hq1, hq2, hh, hb4⟩; have hr := HR.out.below C hb4; have x0 := hr.x0; have x1 := hr.x1; have HR := Lib.hid hr; clear hr; clear hb4)
     go_cut [11, 12] from 19 (fun s11 s12 wx => ∃ (q : Nat) (h : Int) (d1 : Array Int), s11 = .int .i64 q ∧ s12 = .int .i64 h ∧ a ≤ q ∧ q < b ∧ (h = 0 ∨ h = 1) ∧ PS a0 b0 a b d d1 ∧ SA sl k X S w d1 wx)
     case first =>
      rcases hh with rfl | rfl | rfl
      ·go_wp2_with fail
       go_meet
       case rel => exact ⟨q, 0, d1, rfl, rfl, hq1, hq2, .inl rfl, HS.out, HR.out⟩
      ·go_wp2_with fail
       go_meet
       case rel => exact ⟨q, 1, d1, rfl, rfl, hq1, hq2, .inr rfl, HS.out, HR.out⟩
      ·obtain ⟨q5, hq5⟩ : ∃ q5 : Nat, b - 1 - (q - a) = q5 := ⟨_, rfl⟩
       have e4 : (b : Int) - 1 - ((q : Int) - (a : Int)) = (q5 : Int) := by omega
       have hq51 : a ≤ q5 ∧ q5 < b := by omega
       clear hq5 K
       go_wp2_with (go_at_call 183; refine (HR.out.run (s_reverse C d1 a b w4 HR.out.s (by omega) (by omega) (by omega))).mono ?_; rintro e w5 ⟨rfl, d5, hp, hr⟩; have HR := Lib.hid (hr); clear hr; have HS := Lib.hid (HS.out.step hp); clear hp)
       go_meet
       case rel => exact ⟨q5, 1, d5, rfl, rfl, hq51.1, hq51.2, .inr rfl, HS.out, HR.out⟩
     case rest =>
      clear HS HR hs K hq1 hq2 hh h q x0 x1
      obtain ⟨q, h, d2, rfl, rfl, hq1, hq2, hh, hst, hr⟩ := hcut
      have hs : d2.size = d.size := hst.size
      have HS := Lib.hid hst; clear hst
      have x0 := hr.x0
      have x1 := hr.x1
      have HR := Lib.hid hr; clear hr
      go_upto_region 16 with fail
      go_cut [12, 68] from 19 (fun s12 s68 wx => s12 = .int .i64 h ∧ (∃ x, s68 = .bool x) ∧ wx = wc)
      case first =>
       rcases hh with rfl | rfl <;> cases wb <;> cases wp <;>
                (go_wp2_with fail
                 go_meet
                 exact ⟨rfl, ⟨_, rfl⟩, rfl⟩)
      case rest =>
       obtain ⟨rfl, ⟨x, rfl⟩, rfl⟩ := hcut
       go_upto_if 68 with fail
       go_cut [] from 19 (fun wx => ∃ d1 : Array Int, PS a0 b0 a b d d1 ∧ SA sl k X S w d1 wx)
       case first =>
                cases x with
                | false =>
                  go_wp2_with fail
                  go_meet
                  case rel => exact ⟨d2, HS.out, HR.out⟩
                | true =>
                  have HPI := Lib.hid (partialInsertionSort_holds swo_ltInt d2 a b (by omega) (by omega) HS.out.below)
                  have K0 := s_partial C d2 a b wc HR.out.s (by omega) (by omega) (by omega)
                  obtain ⟨y, hy⟩ : ∃ y, (partialInsertionSort ltInt d2 a b).2 = y := ⟨_, rfl⟩
                  obtain ⟨d6, hd6⟩ : ∃ d6, (partialInsertionSort ltInt d2 a b).1 = d6 := ⟨_, rfl⟩
                  rw [hy, hd6] at K0 HPI
                  have K := Lib.hid K0; clear K0 hy hd6
                  cases y with
                  | false =>
                    go_wp2_with (go_at_call 184; refine K.out.mono ?_; rintro e w6 ⟨rfl, hr⟩)
                    go_meet
                    case rel => exact ⟨d6, HS.out.step HPI.out.1, HR.out.call hr.1 hr.2⟩
                  | true =>
                    go_wp2_with (go_at_call 184; refine K.out.mono ?_; rintro e w6 ⟨rfl, hr⟩)
                    (try simp only [Exit.inBlock, Exit.then]); refine bodyPost_ret (results_none rfl _ _ _) rfl ?_
                    exact (HR.out.call hr.1 hr.2).done (HS.out.done HPI.out.1 (HPI.out.2 (by first | rfl | trivial)))
       case rest =>
                clear HS HR hs x0 x1
                obtain ⟨d3, hst, hr⟩ := hcut
                have hs : d3.size = d.size := hst.size
                have HS := Lib.hid hst; clear hst
                have x0 := hr.x0
                have x1 := hr.x1
                have HR := Lib.hid hr; clear hr
                go_upto_region 18 with fail
                go_cut [83] from 19 (fun s wx => ∃ y : Bool, s = .bool y ∧ (y = true → 0 < a ∧ ltInt d3[a - 1]! d3[q]! = false) ∧ SA sl k X S w d3 wx)
                case first =>
                 have l1 : a - 1 < d.size := by omega
                 have l2 : q < d.size := by omega
                 by_cases ha0 : 0 < a
                 ·obtain ⟨a1, ha1⟩ : ∃ a1 : Nat, a - 1 = a1 := ⟨_, rfl⟩
                  have e5 : (a : Int) - 1 = (a1 : Int) := by omega
                  have K := Lib.hid (HR.out.less C (i := a1) (j := q) (by omega) (by omega))
                  obtain ⟨y, hy⟩ : ∃ y, ltInt d3[a1]! d3[q]! = y := ⟨_, rfl⟩
                  rw [hy] at K
                  have HY := Lib.hid (show ltInt d3[a - 1]! d3[q]! = y by rw [ha1]; exact hy)
                  clear hy ha1
                  cases y with
                  | false =>
                    go_wp2_with (go_at_call 75; refine K.out.mono ?_; rintro e w7 ⟨rfl, hr⟩)
                    go_meet
                    case rel => exact ⟨true, rfl, fun _ => ⟨ha0, HY.out⟩, hr⟩
                  | true =>
                    go_wp2_with (go_at_call 75; refine K.out.mono ?_; rintro e w7 ⟨rfl, hr⟩)
                    go_meet
                    case rel => exact ⟨false, rfl, fun h => (by cases h), hr⟩
                 ·go_wp2_with fail
                  go_meet
                  case rel => exact ⟨false, rfl, fun h => (by cases h), HR.out⟩
                case rest =>
                 clear HR x0 x1
                 obtain ⟨y, rfl, hy, hr⟩ := hcut
                 have x0 := hr.x0
                 have x1 := hr.x1
                 have HR := Lib.hid hr; clear hr
                 cases y with
                 | true =>
                   obtain ⟨ha0, hb1⟩ := hy rfl
                   have HEQ := Lib.hid (fun mid d4 hf => HS.out.eqs (q := q) (mid := mid) (d4 := d4) ha0 hq1 hq2 hb1 hf)
                   have K := Lib.hid (s_partEq C d3 a b q wc HR.out.s hq1 hq2 (by omega) (by omega))
                   clear hb1 hy
                   go_wp2_with (go_at_call 185; refine K.out.mono ?_; rintro e w8 ⟨mid, d8, rfl, hf8, hr⟩)
                   have HS9 := Lib.hid (HEQ.out mid d8 hf8)
                   go_roundg (b - mid)
                   case measure => have := hf8.1; have := hf8.2.1; omega
                   case rel => exact ⟨mid, b, L, _, _, d8, rfl, rfl, rfl, rfl, rfl, Nat.le_refl _, hL, HS9.out, HR.out.call hr.1 hr.2⟩
                 | false =>
                   clear hy
                   have K := Lib.hid (s_part C d3 a b q wc HR.out.s hq1 hq2 (by omega) (by omega))
                   go_upto_if 109 with (go_at_call 186; refine K.out.mono ?_; rintro e w8 ⟨mid, x, d8, rfl, hf8, hr⟩; have HF := Lib.hid hf8; have hm1 := hf8.1; have hm2 := hf8.2.1; have hs8 : d8.size = d.size := (by rw [hf8.2.2.1.1]; exact hs); clear hf8; have hr := HR.out.call hr.1 hr.2; have x0 := hr.x0; have x1 := hr.x1; have HR := Lib.hid hr; clear hr)
                   clear K
                   by_cases hlr : mid - a < b - mid
                   ·have hlr' : (mid : Int) - (a : Int) < (b : Int) - (mid : Int) := by omega
                    have HNX := Lib.hid (HS.out.left HF.out).2
                    have K := Lib.hid (HR.out.run (IH.out (mid - a) (by omega) C d8 a mid L w8 rfl HR.out.s hm1 (by omega) hn hL (HS.out.left HF.out).1))
                    go_wp2_with (go_at_call 124; refine K.out.mono ?_; rintro e w9 ⟨rfl, d9, hp, hr⟩)
                    have HS9 := Lib.hid (HNX.out d9 hp.1 hp.2)
                    go_roundg (b - (mid + 1))
                    case measure => omega
                    case rel => exact ⟨mid + 1, b, L, _, x, d9, by go_num, rfl, rfl, rfl, rfl, Nat.le_refl _, hL, HS9.out, hr⟩
                   ·have hlr' : ¬ (mid : Int) - (a : Int) < (b : Int) - (mid : Int) := by omega
                    obtain ⟨m1, hm3⟩ : ∃ m1 : Nat, mid + 1 = m1 := ⟨_, rfl⟩
                    have HRT := HS.out.right HF.out
                    rw [hm3] at HRT
                    have HNX := Lib.hid HRT.2
                    have K := Lib.hid (HR.out.run (IH.out (b - m1) (by omega) C d8 m1 b L w8 rfl HR.out.s (by omega) (by omega) hn hL HRT.1))
                    have e9 : (mid : Int) + 1 = (m1 : Int) := by omega
                    clear HRT
                    go_wp2_with (go_at_call 124; refine K.out.mono ?_; rintro e w9 ⟨rfl, d9, hp, hr⟩)
                    have HS9 := Lib.hid (HNX.out d9 hp.1 hp.2)
                    go_roundg (mid - a)
                    case measure => omega
                    case rel => exact ⟨a, mid, L, _, x, d9, rfl, rfl, rfl, rfl, rfl, Nat.le_refl _, hL, HS9.out, hr⟩
theorem pdqK_all {n : Nat} (hn : n ≤ 65535) : PdqK n := fun _ _ _ _ C d w hS => s_pdq n C d 0 n (Lib.bitLen n) w (by omega) hS (Nat.zero_le _) (Nat.le_refl _) hn (Nat.le_trans (bitLen_pow (x := n) (by omega)).2.2 (by decide)) (.inl rfl)
end Go.Proofs.YtcajknjhkabhjaaGreatDoor
