/- sort.Slice by a comparison that makes blocks: the partitions.  -/
import Derived.Test.YtcajknjhkabhjaaGreatDoorASMem
import Derived.Deep.CutBlock
namespace Go.Proofs.YtcajknjhkabhjaaGreatDoor
section
open Go.RowKit Go.Lib
open Go.Sort hiding Below
def IsPE (a b q k : Nat) (d : Array Int) (S : Array Int → World → Prop) (w : World) (e : Ending) (w' : World) : Prop := ∃ (i : Nat) (d' : Array Int), e = .returned (.int .i64 i) ∧ (a < i ∧ i ≤ b ∧ PermIn a b d d' ∧ (∀ t, a ≤ t → t < i → ltInt d[q]! d'[t]! = false) ∧ (∀ t, i ≤ t → t < b → ltInt d[q]! d'[t]! = true)) ∧ S d' w' ∧ Apart (fun j => j = k) w w'
def IsPP (a b k : Nat) (d : Array Int) (S : Array Int → World → Prop) (w : World) (e : Ending) (w' : World) : Prop := ∃ (j : Nat) (x : Bool) (d' : Array Int), e = .returned (.tuple #[.int .i64 j, .bool x]) ∧ (a ≤ j ∧ j < b ∧ PermIn a b d d' ∧ (∀ t, a ≤ t → t < j → ltInt d'[t]! d'[j]! = true) ∧ (∀ t, j < t → t < b → ltInt d'[t]! d'[j]! = false)) ∧ S d' w' ∧ Apart (fun j => j = k) w w'
set_option maxRecDepth 100000 in
set_option maxHeartbeats 4000000 in
theorem s_partEq {sl : Value} {k n T : Nat} {S : Array Int → World → Prop} (C : SortC sl k n T S) (d : Array Int) (a b q : Nat) (w : World) (hS : S d w) (haq : a ≤ q) (hqb : q < b) (hb : b ≤ n) (hn : n ≤ 1000000) :
 Calls Tryz.prog 185 #[.agg #[lessV sl, swapV sl], .int .i64 a, .int .i64 b, .int .i64 q] w (IsPE a b q k d S w) := by
 obtain ⟨hsz, hkT, hTW⟩ := C.size _ _ hS
 have HST := Lib.hid (PI.start (p := (fun x => !ltInt (d[q]!) x)) haq hqb (show b ≤ d.size by omega))
 obtain ⟨pv, hpv⟩ : ∃ pv, d[q]! = pv := ⟨_, rfl⟩
 rw [hpv] at HST
 have HPV := Lib.hid hpv; clear hpv
 have hA0 := SA.start C hS
 obtain ⟨X, hX⟩ : ∃ X, w.heap.size = X := ⟨_, rfl⟩
 obtain ⟨W0, hW0⟩ : ∃ W0, w.alloc (.cells #[lessV sl, swapV sl] 154) = W0 := ⟨_, rfl⟩
 rw [hX, hW0] at hA0
 have x0 := hA0.x0
 have x1 := hA0.x1
 have HA := Lib.hid hA0
 have HC := Lib.hid C
 have hag := Tryz.isAgg154
 clear hA0 hS C
 go_enter Tryz.func185, Tryz.ntmps185
 obtain ⟨w2, hsw, h2⟩ := HA.out.swap HC.out (i := a) (j := q) (by omega) (by omega)
 have HA := Lib.hid h2; clear h2
 have y0 := HA.out.x0
 have y1 := HA.out.x1
 go_wp2_with fail
 go_loopg [9, 10] b (fun z vi vj wr => ∃ (i j : Nat) (dk : Array Int), vi = .int .i64 i ∧ vj = .int .i64 j ∧ j + 1 - i ≤ z ∧ PI (fun x => !ltInt pv x) a b i j pv d dk ∧ SA sl k X S w dk wr)
 case atStart => exact ⟨a + 1, b - 1, _, by go_num, by congr 1; omega, by omega, HST.out, HA.out⟩
 case round =>
  clear HA HST x0 x1 y0 y1 hsw
  obtain ⟨i, j, dk, rfl, rfl, hz, hp, hA⟩ := hrel
  have HP := Lib.hid hp
  have b1 := hp.b1
  have b2 := hp.b2
  have b3 := hp.b3
  have b4 := hp.b4
  have hpv := Lib.hid hp.piv
  clear hp
  have x0 := hA.x0
  have x1 := hA.x1
  have hsk := hA.size HC.out
  have HA := Lib.hid hA; clear hA
  obtain ⟨i0, hi0⟩ : ∃ i0, i = i0 := ⟨_, rfl⟩
  have HI0 := Lib.hid hi0
  try rw [hi0] at hz
  clear hi0
  go_upto_block 2 with fail
  go_cut [9] from 20 to 56 (fun s wx => ∃ i : Nat, s = .int .i64 i ∧ PI (fun x => !ltInt pv x) a b i j pv d dk ∧ (j < i ∨ (fun x => !ltInt pv x) dk[i]! = false) ∧ i0 ≤ i ∧ SA sl k X S w dk wx)
  case first =>
   go_wp2_with fail
   go_loopg [9] (j + 1 - i) (fun z vi wr => ∃ i : Nat, vi = .int .i64 i ∧ j + 1 - i ≤ z ∧ PI (fun x => !ltInt pv x) a b i j pv d dk ∧ i0 ≤ i ∧ SA sl k X S w dk wr)
   case atStart => exact ⟨i, rfl, Nat.le_refl _, HP.out, Nat.le_of_eq HI0.out.symm, HA.out⟩
   case round =>
    clear HA HP x0 x1 b1 b2 b3 b4 hpv hsk
    obtain ⟨i, rfl, hM, hp, hor, hA⟩ := hrel
    have HP := Lib.hid hp
    have b1 := hp.b1
    have b2 := hp.b2
    have b3 := hp.b3
    have b4 := hp.b4
    have hpv := Lib.hid hp.piv
    clear hp
    have x0 := hA.x0
    have x1 := hA.x1
    have hsk := hA.size HC.out
    have HA := Lib.hid hA; clear hA
    by_cases hle : i ≤ j
    ·cases hb : ltInt dk[a]! dk[i]! with
     | false =>
       have HS := Lib.hid (show (fun x => !ltInt pv x) dk[i]! = true from (by show (!ltInt pv dk[i]!) = _; rw [← hpv.out, hb]; rfl))
       have K := Lib.hid (HA.out.lessB HC.out (i := a) (j := i) (by omega) (by omega) hb)
       clear hb
       go_wp2_with (first | (go_at_call 75; refine K.out.mono ?_; rintro e w1 ⟨rfl, h1⟩; have HA := Lib.hid h1; clear h1; have x0 := HA.out.x0; have x1 := HA.out.x1))
       go_roundg (j - i)
       case measure => omega
       case rel => exact ⟨i + 1, by go_num, by omega, HP.out.up hle HS.out, by omega, HA.out⟩
     | true =>
       have HS := Lib.hid (show (fun x => !ltInt pv x) dk[i]! = false from (by show (!ltInt pv dk[i]!) = _; rw [← hpv.out, hb]; rfl))
       have K := Lib.hid (HA.out.lessB HC.out (i := a) (j := i) (by omega) (by omega) hb)
       clear hb
       go_wp2_with (first | (go_at_call 75; refine K.out.mono ?_; rintro e w1 ⟨rfl, h1⟩; have HA := Lib.hid h1; clear h1; have x0 := HA.out.x0; have x1 := HA.out.x1))
       go_meet
       case rel => exact ⟨i, rfl, HP.out, .inr HS.out, hor, HA.out⟩
    ·go_wp2_with fail
     go_meet
     case rel => exact ⟨i, rfl, HP.out, .inl (by omega), hor, HA.out⟩
  case rest =>
   clear HA HP x0 x1 b1 b2 b3 b4 hpv hsk
   obtain ⟨i, rfl, hp, hc1, ho1, hA⟩ := hcut
   have HP := Lib.hid hp
   have b1 := hp.b1
   have b2 := hp.b2
   have b3 := hp.b3
   have b4 := hp.b4
   have hpv := Lib.hid hp.piv
   clear hp
   have x0 := hA.x0
   have x1 := hA.x1
   have hsk := hA.size HC.out
   have HA := Lib.hid hA; clear hA
   obtain ⟨j0, hj0⟩ : ∃ j0, j = j0 := ⟨_, rfl⟩
   have HJ0 := Lib.hid hj0
   rw [hj0] at hc1
   try rw [hj0] at hz
   clear hj0
   go_upto_block 4 with fail
   go_cut [10] from 20 to 56 (fun s wx => ∃ j : Nat, s = .int .i64 j ∧ PI (fun x => !ltInt pv x) a b i j pv d dk ∧ (j < i ∨ (fun x => !ltInt pv x) dk[j]! = true) ∧ j ≤ j0 ∧ SA sl k X S w dk wx)
   case first =>
    go_wp2_with fail
    go_loopg [10] (j + 1 - i) (fun z vi wr => ∃ j : Nat, vi = .int .i64 j ∧ j + 1 - i ≤ z ∧ PI (fun x => !ltInt pv x) a b i j pv d dk ∧ j ≤ j0 ∧ SA sl k X S w dk wr)
    case atStart => exact ⟨j, rfl, Nat.le_refl _, HP.out, Nat.le_of_eq HJ0.out, HA.out⟩
    case round =>
     clear HA HP x0 x1 b1 b2 b3 b4 hpv hsk
     obtain ⟨j, rfl, hM, hp, hor, hA⟩ := hrel
     have HP := Lib.hid hp
     have b1 := hp.b1
     have b2 := hp.b2
     have b3 := hp.b3
     have b4 := hp.b4
     have hpv := Lib.hid hp.piv
     clear hp
     have x0 := hA.x0
     have x1 := hA.x1
     have hsk := hA.size HC.out
     have HA := Lib.hid hA; clear hA
     by_cases hle : i ≤ j
     ·cases hb : ltInt dk[a]! dk[j]! with
      | true =>
        have HS := Lib.hid (show (fun x => !ltInt pv x) dk[j]! = false from (by show (!ltInt pv dk[j]!) = _; rw [← hpv.out, hb]; rfl))
        have K := Lib.hid (HA.out.lessB HC.out (i := a) (j := j) (by omega) (by omega) hb)
        clear hb
        go_wp2_with (first | (go_at_call 75; refine K.out.mono ?_; rintro e w1 ⟨rfl, h1⟩; have HA := Lib.hid h1; clear h1; have x0 := HA.out.x0; have x1 := HA.out.x1))
        go_roundg (j - i)
        case measure => omega
        case rel => exact ⟨j - 1, by congr 1; omega, by omega, HP.out.down hle HS.out, by omega, HA.out⟩
      | false =>
        have HS := Lib.hid (show (fun x => !ltInt pv x) dk[j]! = true from (by show (!ltInt pv dk[j]!) = _; rw [← hpv.out, hb]; rfl))
        have K := Lib.hid (HA.out.lessB HC.out (i := a) (j := j) (by omega) (by omega) hb)
        clear hb
        go_wp2_with (first | (go_at_call 75; refine K.out.mono ?_; rintro e w1 ⟨rfl, h1⟩; have HA := Lib.hid h1; clear h1; have x0 := HA.out.x0; have x1 := HA.out.x1))
        go_meet
        case rel => exact ⟨j, rfl, HP.out, .inr HS.out, hor, HA.out⟩
     ·go_wp2_with fail
      go_meet
      case rel => exact ⟨j, rfl, HP.out, .inl (by omega), hor, HA.out⟩
   case rest =>
    clear HA HP x0 x1 b1 b2 b3 b4 hpv hsk
    obtain ⟨j, rfl, hp, hc2, ho2, hA⟩ := hcut
    have HP := Lib.hid hp
    have b1 := hp.b1
    have b2 := hp.b2
    have b3 := hp.b3
    have b4 := hp.b4
    have hpv := Lib.hid hp.piv
    clear hp
    have x0 := hA.x0
    have x1 := hA.x1
    have hsk := hA.size HC.out
    have HA := Lib.hid hA; clear hA
    replace hc1 : j < i ∨ (fun x => !ltInt pv x) dk[i]! = false := hc1.imp (fun h => by omega) id
    by_cases hji : j < i
    ·go_wp2_with fail
     go_ret
     exact ⟨i, dk, rfl, by rw [HPV.out]; exact HP.out.doneE hji, HA.out.s, HA.out.ap⟩
    ·have hlt : i < j := HP.out.lt (by omega) (hc1.resolve_left hji) (hc2.resolve_left hji)
     have HP2 := Lib.hid (HP.out.swap hlt (hc1.resolve_left hji) (hc2.resolve_left hji))
     obtain ⟨w2, hsw, h2⟩ := HA.out.swap HC.out (i := i) (j := j) (by omega) (by omega)
     have HA := Lib.hid h2; clear h2
     have y0 := HA.out.x0
     have y1 := HA.out.x1
     go_wp2_with fail
     go_roundg (j - i)
     case measure => omega
     case rel => exact ⟨i + 1, j - 1, swp dk i j, by go_num, by congr 1; omega, by omega, HP2.out, HA.out⟩
set_option maxRecDepth 100000 in
set_option maxHeartbeats 4000000 in
theorem s_part {sl : Value} {k n T : Nat} {S : Array Int → World → Prop} (C : SortC sl k n T S) (d : Array Int) (a b q : Nat) (w : World) (hS : S d w) (haq : a ≤ q) (hqb : q < b) (hb : b ≤ n) (hn : n ≤ 1000000) :
 Calls Tryz.prog 186 #[.agg #[lessV sl, swapV sl], .int .i64 a, .int .i64 b, .int .i64 q] w (IsPP a b k d S w) := by
 obtain ⟨hsz, hkT, hTW⟩ := C.size _ _ hS
 have HST := Lib.hid (PI.start (p := (fun x => ltInt x (d[q]!))) haq hqb (show b ≤ d.size by omega))
 obtain ⟨pv, hpv⟩ : ∃ pv, d[q]! = pv := ⟨_, rfl⟩
 rw [hpv] at HST
 have HPV := Lib.hid hpv; clear hpv
 have hA0 := SA.start C hS
 obtain ⟨X, hX⟩ : ∃ X, w.heap.size = X := ⟨_, rfl⟩
 obtain ⟨W0, hW0⟩ : ∃ W0, w.alloc (.cells #[lessV sl, swapV sl] 154) = W0 := ⟨_, rfl⟩
 rw [hX, hW0] at hA0
 have x0 := hA0.x0
 have x1 := hA0.x1
 have HA := Lib.hid hA0
 have HC := Lib.hid C
 have hag := Tryz.isAgg154
 clear hA0 hS C
 go_enter Tryz.func186, Tryz.ntmps186
 go_upto_region 1 with fail
 go_cut [] from 12 (fun wx => SA sl k X S w (swp d a q) wx)
 case first =>
  obtain ⟨w2, hsw, h2⟩ := HA.out.swap HC.out (i := a) (j := q) (by omega) (by omega)
  have HA := Lib.hid h2; clear h2
  have y0 := HA.out.x0
  have y1 := HA.out.x1
  go_wp2_with fail
  go_meet
  case rel => exact HA.out
 case rest =>
 clear HA x0 x1
 have HA := Lib.hid hcut; clear hcut
 obtain ⟨i, hi⟩ : ∃ i : Nat, a + 1 = i := ⟨_, rfl⟩
 obtain ⟨j, hj⟩ : ∃ j : Nat, b - 1 = j := ⟨_, rfl⟩
 have e1 : (a : Int) + 1 = (i : Int) := by omega
 have e2 : (b : Int) - 1 = (j : Int) := by omega
 obtain ⟨dk, hdk⟩ : ∃ dk, swp d a q = dk := ⟨_, rfl⟩
 rw [hi, hj, hdk] at HST
 rw [hdk] at HA
 have hp := HST.out
 have hA := HA.out
 clear hi hj hdk HST HA
 have HP := Lib.hid hp
 have b1 := hp.b1
 have b2 := hp.b2
 have b3 := hp.b3
 have b4 := hp.b4
 have hpv := Lib.hid hp.piv
 clear hp
 have x0 := hA.x0
 have x1 := hA.x1
 have hsk := hA.size HC.out
 have HA := Lib.hid hA; clear hA
 obtain ⟨i0, hi0⟩ : ∃ i0, i = i0 := ⟨_, rfl⟩
 have HI0 := Lib.hid hi0
 try rw [hi0] at hz
 clear hi0
 go_upto_block 0 with fail
 go_cut [10] from 12 (fun s wx => ∃ i : Nat, s = .int .i64 i ∧ PI (fun x => ltInt x pv) a b i j pv d dk ∧ (j < i ∨ (fun x => ltInt x pv) dk[i]! = false) ∧ i0 ≤ i ∧ SA sl k X S w dk wx)
 case first =>
  go_wp2_with fail
  go_loopg [10] (j + 1 - i) (fun z vi wr => ∃ i : Nat, vi = .int .i64 i ∧ j + 1 - i ≤ z ∧ PI (fun x => ltInt x pv) a b i j pv d dk ∧ i0 ≤ i ∧ SA sl k X S w dk wr)
  case atStart => exact ⟨i, rfl, Nat.le_refl _, HP.out, Nat.le_of_eq HI0.out.symm, HA.out⟩
  case round =>
   clear HA HP x0 x1 b1 b2 b3 b4 hpv hsk
   obtain ⟨i, rfl, hM, hp, hor, hA⟩ := hrel
   have HP := Lib.hid hp
   have b1 := hp.b1
   have b2 := hp.b2
   have b3 := hp.b3
   have b4 := hp.b4
   have hpv := Lib.hid hp.piv
   clear hp
   have x0 := hA.x0
   have x1 := hA.x1
   have hsk := hA.size HC.out
   have HA := Lib.hid hA; clear hA
   by_cases hle : i ≤ j
   ·cases hb : ltInt dk[i]! dk[a]! with
    | true =>
      have HS := Lib.hid (show (fun x => ltInt x pv) dk[i]! = true from (by show ltInt dk[i]! pv = _; rw [← hpv.out, hb]))
      have K := Lib.hid (HA.out.lessB HC.out (i := i) (j := a) (by omega) (by omega) hb)
      clear hb
      go_wp2_with (first | (go_at_call 75; refine K.out.mono ?_; rintro e w1 ⟨rfl, h1⟩; have HA := Lib.hid h1; clear h1; have x0 := HA.out.x0; have x1 := HA.out.x1))
      go_roundg (j - i)
      case measure => omega
      case rel => exact ⟨i + 1, by go_num, by omega, HP.out.up hle HS.out, by omega, HA.out⟩
    | false =>
      have HS := Lib.hid (show (fun x => ltInt x pv) dk[i]! = false from (by show ltInt dk[i]! pv = _; rw [← hpv.out, hb]))
      have K := Lib.hid (HA.out.lessB HC.out (i := i) (j := a) (by omega) (by omega) hb)
      clear hb
      go_wp2_with (first | (go_at_call 75; refine K.out.mono ?_; rintro e w1 ⟨rfl, h1⟩; have HA := Lib.hid h1; clear h1; have x0 := HA.out.x0; have x1 := HA.out.x1))
      go_meet
      case rel => exact ⟨i, rfl, HP.out, .inr HS.out, hor, HA.out⟩
   ·go_wp2_with fail
    go_meet
    case rel => exact ⟨i, rfl, HP.out, .inl (by omega), hor, HA.out⟩
 case rest =>
  clear HA HP x0 x1 b1 b2 b3 b4 hpv hsk
  obtain ⟨i, rfl, hp, hc1, ho1, hA⟩ := hcut
  have HP := Lib.hid hp
  have b1 := hp.b1
  have b2 := hp.b2
  have b3 := hp.b3
  have b4 := hp.b4
  have hpv := Lib.hid hp.piv
  clear hp
  have x0 := hA.x0
  have x1 := hA.x1
  have hsk := hA.size HC.out
  have HA := Lib.hid hA; clear hA
  obtain ⟨j0, hj0⟩ : ∃ j0, j = j0 := ⟨_, rfl⟩
  have HJ0 := Lib.hid hj0
  rw [hj0] at hc1
  try rw [hj0] at hz
  clear hj0
  go_upto_block 2 with fail
  go_cut [11] from 12 (fun s wx => ∃ j : Nat, s = .int .i64 j ∧ PI (fun x => ltInt x pv) a b i j pv d dk ∧ (j < i ∨ (fun x => ltInt x pv) dk[j]! = true) ∧ j ≤ j0 ∧ SA sl k X S w dk wx)
  case first =>
   go_wp2_with fail
   go_loopg [11] (j + 1 - i) (fun z vi wr => ∃ j : Nat, vi = .int .i64 j ∧ j + 1 - i ≤ z ∧ PI (fun x => ltInt x pv) a b i j pv d dk ∧ j ≤ j0 ∧ SA sl k X S w dk wr)
   case atStart => exact ⟨j, rfl, Nat.le_refl _, HP.out, Nat.le_of_eq HJ0.out, HA.out⟩
   case round =>
    clear HA HP x0 x1 b1 b2 b3 b4 hpv hsk
    obtain ⟨j, rfl, hM, hp, hor, hA⟩ := hrel
    have HP := Lib.hid hp
    have b1 := hp.b1
    have b2 := hp.b2
    have b3 := hp.b3
    have b4 := hp.b4
    have hpv := Lib.hid hp.piv
    clear hp
    have x0 := hA.x0
    have x1 := hA.x1
    have hsk := hA.size HC.out
    have HA := Lib.hid hA; clear hA
    by_cases hle : i ≤ j
    ·cases hb : ltInt dk[j]! dk[a]! with
     | false =>
       have HS := Lib.hid (show (fun x => ltInt x pv) dk[j]! = false from (by show ltInt dk[j]! pv = _; rw [← hpv.out, hb]))
       have K := Lib.hid (HA.out.lessB HC.out (i := j) (j := a) (by omega) (by omega) hb)
       clear hb
       go_wp2_with (first | (go_at_call 75; refine K.out.mono ?_; rintro e w1 ⟨rfl, h1⟩; have HA := Lib.hid h1; clear h1; have x0 := HA.out.x0; have x1 := HA.out.x1))
       go_roundg (j - i)
       case measure => omega
       case rel => exact ⟨j - 1, by congr 1; omega, by omega, HP.out.down hle HS.out, by omega, HA.out⟩
     | true =>
       have HS := Lib.hid (show (fun x => ltInt x pv) dk[j]! = true from (by show ltInt dk[j]! pv = _; rw [← hpv.out, hb]))
       have K := Lib.hid (HA.out.lessB HC.out (i := j) (j := a) (by omega) (by omega) hb)
       clear hb
       go_wp2_with (first | (go_at_call 75; refine K.out.mono ?_; rintro e w1 ⟨rfl, h1⟩; have HA := Lib.hid h1; clear h1; have x0 := HA.out.x0; have x1 := HA.out.x1))
       go_meet
       case rel => exact ⟨j, rfl, HP.out, .inr HS.out, hor, HA.out⟩
    ·go_wp2_with fail
     go_meet
     case rel => exact ⟨j, rfl, HP.out, .inl (by omega), hor, HA.out⟩
  case rest =>
   clear HA HP x0 x1 b1 b2 b3 b4 hpv hsk
   obtain ⟨j, rfl, hp, hc2, ho2, hA⟩ := hcut
   have HP := Lib.hid hp
   have b1 := hp.b1
   have b2 := hp.b2
   have b3 := hp.b3
   have b4 := hp.b4
   have hpv := Lib.hid hp.piv
   clear hp
   have x0 := hA.x0
   have x1 := hA.x1
   have hsk := hA.size HC.out
   have HA := Lib.hid hA; clear hA
   replace hc1 : j < i ∨ (fun x => ltInt x pv) dk[i]! = false := hc1.imp (fun h => by omega) id
   by_cases hji : j < i
   ·obtain ⟨w2, hsw, h2⟩ := HA.out.swap HC.out (i := j) (j := a) (by omega) (by omega)
    have HA := Lib.hid h2; clear h2
    have y0 := HA.out.x0
    have y1 := HA.out.x1
    go_wp2_with fail
    go_ret2
    exact ⟨j, _, _, rfl, HP.out.done hji, HA.out.s, HA.out.ap⟩
   ·have hlt : i < j := HP.out.lt (by omega) (hc1.resolve_left hji) (hc2.resolve_left hji)
    have HP2 := Lib.hid (HP.out.swap hlt (hc1.resolve_left hji) (hc2.resolve_left hji))
    obtain ⟨w2, hsw, h2⟩ := HA.out.swap HC.out (i := i) (j := j) (by omega) (by omega)
    have HA := Lib.hid h2; clear h2
    have y0 := HA.out.x0
    have y1 := HA.out.x1
    obtain ⟨z1, hz1⟩ : ∃ z1 : Nat, i + 1 = z1 := ⟨_, rfl⟩
    obtain ⟨z2, hz2⟩ : ∃ z2 : Nat, j - 1 = z2 := ⟨_, rfl⟩
    have e3 : (i : Int) + 1 = (z1 : Int) := by omega
    have e4 : (j : Int) - 1 = (z2 : Int) := by omega
    rw [hz1, hz2] at HP2
    go_wp2_with fail
    go_loopg [10, 11] b (fun z vi vj wr => ∃ (i j : Nat) (dk : Array Int), vi = .int .i64 i ∧ vj = .int .i64 j ∧ j + 1 - i ≤ z ∧ PI (fun x => ltInt x pv) a b i j pv d dk ∧ SA sl k X S w dk wr)
    case atStart => exact ⟨z1, z2, _, rfl, rfl, by omega, HP2.out, HA.out⟩
    case round =>
     clear HA HP HP2 x0 x1 y0 y1 hsw hpv hlt b1 b2 b3 b4 hsk hji hc1 hc2 hz1 hz2 e3 e4
     obtain ⟨i, j, dk, rfl, rfl, hz, hp, hA⟩ := hrel
     have HP := Lib.hid hp
     have b1 := hp.b1
     have b2 := hp.b2
     have b3 := hp.b3
     have b4 := hp.b4
     have hpv := Lib.hid hp.piv
     clear hp
     have x0 := hA.x0
     have x1 := hA.x1
     have hsk := hA.size HC.out
     have HA := Lib.hid hA; clear hA
     obtain ⟨i0, hi0⟩ : ∃ i0, i = i0 := ⟨_, rfl⟩
     have HI0 := Lib.hid hi0
     try rw [hi0] at hz
     clear hi0
     go_upto_block 6 with fail
     go_cut [10] from 64 to 100 (fun s wx => ∃ i : Nat, s = .int .i64 i ∧ PI (fun x => ltInt x pv) a b i j pv d dk ∧ (j < i ∨ (fun x => ltInt x pv) dk[i]! = false) ∧ i0 ≤ i ∧ SA sl k X S w dk wx)
     case first =>
      go_wp2_with fail
      go_loopg [10] (j + 1 - i) (fun z vi wr => ∃ i : Nat, vi = .int .i64 i ∧ j + 1 - i ≤ z ∧ PI (fun x => ltInt x pv) a b i j pv d dk ∧ i0 ≤ i ∧ SA sl k X S w dk wr)
      case atStart => exact ⟨i, rfl, Nat.le_refl _, HP.out, Nat.le_of_eq HI0.out.symm, HA.out⟩
      case round =>
       clear HA HP x0 x1 b1 b2 b3 b4 hpv hsk
       obtain ⟨i, rfl, hM, hp, hor, hA⟩ := hrel
       have HP := Lib.hid hp
       have b1 := hp.b1
       have b2 := hp.b2
       have b3 := hp.b3
       have b4 := hp.b4
       have hpv := Lib.hid hp.piv
       clear hp
       have x0 := hA.x0
       have x1 := hA.x1
       have hsk := hA.size HC.out
       have HA := Lib.hid hA; clear hA
       by_cases hle : i ≤ j
       ·cases hb : ltInt dk[i]! dk[a]! with
        | true =>
          have HS := Lib.hid (show (fun x => ltInt x pv) dk[i]! = true from (by show ltInt dk[i]! pv = _; rw [← hpv.out, hb]))
          have K := Lib.hid (HA.out.lessB HC.out (i := i) (j := a) (by omega) (by omega) hb)
          clear hb
          go_wp2_with (first | (go_at_call 75; refine K.out.mono ?_; rintro e w1 ⟨rfl, h1⟩; have HA := Lib.hid h1; clear h1; have x0 := HA.out.x0; have x1 := HA.out.x1))
          go_roundg (j - i)
          case measure => omega
          case rel => exact ⟨i + 1, by go_num, by omega, HP.out.up hle HS.out, by omega, HA.out⟩
        | false =>
          have HS := Lib.hid (show (fun x => ltInt x pv) dk[i]! = false from (by show ltInt dk[i]! pv = _; rw [← hpv.out, hb]))
          have K := Lib.hid (HA.out.lessB HC.out (i := i) (j := a) (by omega) (by omega) hb)
          clear hb
          go_wp2_with (first | (go_at_call 75; refine K.out.mono ?_; rintro e w1 ⟨rfl, h1⟩; have HA := Lib.hid h1; clear h1; have x0 := HA.out.x0; have x1 := HA.out.x1))
          go_meet
          case rel => exact ⟨i, rfl, HP.out, .inr HS.out, hor, HA.out⟩
       ·go_wp2_with fail
        go_meet
        case rel => exact ⟨i, rfl, HP.out, .inl (by omega), hor, HA.out⟩
     case rest =>
      clear HA HP x0 x1 b1 b2 b3 b4 hpv hsk
      obtain ⟨i, rfl, hp, hc1, ho1, hA⟩ := hcut
      have HP := Lib.hid hp
      have b1 := hp.b1
      have b2 := hp.b2
      have b3 := hp.b3
      have b4 := hp.b4
      have hpv := Lib.hid hp.piv
      clear hp
      have x0 := hA.x0
      have x1 := hA.x1
      have hsk := hA.size HC.out
      have HA := Lib.hid hA; clear hA
      obtain ⟨j0, hj0⟩ : ∃ j0, j = j0 := ⟨_, rfl⟩
      have HJ0 := Lib.hid hj0
      rw [hj0] at hc1
      try rw [hj0] at hz
      clear hj0
      go_upto_block 8 with fail
      go_cut [11] from 64 to 100 (fun s wx => ∃ j : Nat, s = .int .i64 j ∧ PI (fun x => ltInt x pv) a b i j pv d dk ∧ (j < i ∨ (fun x => ltInt x pv) dk[j]! = true) ∧ j ≤ j0 ∧ SA sl k X S w dk wx)
      case first =>
       go_wp2_with fail
       go_loopg [11] (j + 1 - i) (fun z vi wr => ∃ j : Nat, vi = .int .i64 j ∧ j + 1 - i ≤ z ∧ PI (fun x => ltInt x pv) a b i j pv d dk ∧ j ≤ j0 ∧ SA sl k X S w dk wr)
       case atStart => exact ⟨j, rfl, Nat.le_refl _, HP.out, Nat.le_of_eq HJ0.out, HA.out⟩
       case round =>
        clear HA HP x0 x1 b1 b2 b3 b4 hpv hsk
        obtain ⟨j, rfl, hM, hp, hor, hA⟩ := hrel
        have HP := Lib.hid hp
        have b1 := hp.b1
        have b2 := hp.b2
        have b3 := hp.b3
        have b4 := hp.b4
        have hpv := Lib.hid hp.piv
        clear hp
        have x0 := hA.x0
        have x1 := hA.x1
        have hsk := hA.size HC.out
        have HA := Lib.hid hA; clear hA
        by_cases hle : i ≤ j
        ·cases hb : ltInt dk[j]! dk[a]! with
         | false =>
           have HS := Lib.hid (show (fun x => ltInt x pv) dk[j]! = false from (by show ltInt dk[j]! pv = _; rw [← hpv.out, hb]))
           have K := Lib.hid (HA.out.lessB HC.out (i := j) (j := a) (by omega) (by omega) hb)
           clear hb
           go_wp2_with (first | (go_at_call 75; refine K.out.mono ?_; rintro e w1 ⟨rfl, h1⟩; have HA := Lib.hid h1; clear h1; have x0 := HA.out.x0; have x1 := HA.out.x1))
           go_roundg (j - i)
           case measure => omega
           case rel => exact ⟨j - 1, by congr 1; omega, by omega, HP.out.down hle HS.out, by omega, HA.out⟩
         | true =>
           have HS := Lib.hid (show (fun x => ltInt x pv) dk[j]! = true from (by show ltInt dk[j]! pv = _; rw [← hpv.out, hb]))
           have K := Lib.hid (HA.out.lessB HC.out (i := j) (j := a) (by omega) (by omega) hb)
           clear hb
           go_wp2_with (first | (go_at_call 75; refine K.out.mono ?_; rintro e w1 ⟨rfl, h1⟩; have HA := Lib.hid h1; clear h1; have x0 := HA.out.x0; have x1 := HA.out.x1))
           go_meet
           case rel => exact ⟨j, rfl, HP.out, .inr HS.out, hor, HA.out⟩
        ·go_wp2_with fail
         go_meet
         case rel => exact ⟨j, rfl, HP.out, .inl (by omega), hor, HA.out⟩
      case rest =>
       clear HA HP x0 x1 b1 b2 b3 b4 hpv hsk
       obtain ⟨j, rfl, hp, hc2, ho2, hA⟩ := hcut
       have HP := Lib.hid hp
       have b1 := hp.b1
       have b2 := hp.b2
       have b3 := hp.b3
       have b4 := hp.b4
       have hpv := Lib.hid hp.piv
       clear hp
       have x0 := hA.x0
       have x1 := hA.x1
       have hsk := hA.size HC.out
       have HA := Lib.hid hA; clear hA
       replace hc1 : j < i ∨ (fun x => ltInt x pv) dk[i]! = false := hc1.imp (fun h => by omega) id
       by_cases hji : j < i
       ·obtain ⟨w2, hsw, h2⟩ := HA.out.swap HC.out (i := j) (j := a) (by omega) (by omega)
        have HA := Lib.hid h2; clear h2
        have y0 := HA.out.x0
        have y1 := HA.out.x1
        go_wp2_with fail
        go_ret2
        exact ⟨j, _, _, rfl, HP.out.done hji, HA.out.s, HA.out.ap⟩
       ·have hlt : i < j := HP.out.lt (by omega) (hc1.resolve_left hji) (hc2.resolve_left hji)
        have HP2 := Lib.hid (HP.out.swap hlt (hc1.resolve_left hji) (hc2.resolve_left hji))
        obtain ⟨w2, hsw, h2⟩ := HA.out.swap HC.out (i := i) (j := j) (by omega) (by omega)
        have HA := Lib.hid h2; clear h2
        have y0 := HA.out.x0
        have y1 := HA.out.x1
        go_wp2_with fail
        go_roundg (j - i)
        case measure => omega
        case rel => exact ⟨i + 1, j - 1, swp dk i j, by go_num, by congr 1; omega, by omega, HP2.out, HA.out⟩
end
section
open Go.RowKit Go.Lib
open Go.Sort hiding Below
set_option maxRecDepth 100000 in
set_option maxHeartbeats 8000000 in
theorem s_partial {sl : Value} {k n T : Nat} {S : Array Int → World → Prop} (C : SortC sl k n T S) (d : Array Int) (a b : Nat) (w : World) (hS : S d w) (hab : a < b) (hb : b ≤ n) (hn : n ≤ 1000000) :
 Calls Tryz.prog 184 #[.agg #[lessV sl, swapV sl], .int .i64 a, .int .i64 b] w (fun e w' => e = .returned (.bool (partialInsertionSort ltInt d a b).2) ∧ S (partialInsertionSort ltInt d a b).1 w' ∧ Apart (fun j => j = k) w w') := by
 obtain ⟨hsz, hkT, hTW⟩ := C.size _ _ hS
 have hA0 := SA.start C hS
 obtain ⟨X, hX⟩ : ∃ X, w.heap.size = X := ⟨_, rfl⟩
 obtain ⟨W0, hW0⟩ : ∃ W0, w.alloc (.cells #[lessV sl, swapV sl] 154) = W0 := ⟨_, rfl⟩
 rw [hX, hW0] at hA0
 have x0 := hA0.x0
 have x1 := hA0.x1
 have HA := Lib.hid hA0
 have HC := Lib.hid C
 have hag := Tryz.isAgg154
 clear hA0 hS C
 go_enter Tryz.func184, Tryz.ntmps184
 go_wp2_with fail
 go_loopg [7, 8] 5 (fun z vi vc wr => ∃ (c i : Nat) (dk : Array Int), vi = .int .i64 i ∧ vc = .int .i64 c ∧ c ≤ 5 ∧ 5 - c ≤ z ∧ a < i ∧ i ≤ b ∧ partialIns ltInt a b (5 - c) i dk = partialInsertionSort ltInt d a b ∧ SA sl k X S w dk wr)
 case atStart => exact ⟨0, a + 1, d, by go_num, rfl, by omega, by omega, by omega, by omega, rfl, HA.out⟩
 case round =>
  clear HA x0 x1
  obtain ⟨c, i, dk, rfl, rfl, hc, hz, hi1, hi2, he, hA⟩ := hrel
  have x0 := hA.x0
  have x1 := hA.x1
  have hsk := hA.size HC.out
  have HA := Lib.hid hA; clear hA
  by_cases hc5 : c < 5
  ·obtain ⟨s, hsc⟩ : ∃ s, 5 - c = s + 1 := ⟨4 - c, by omega⟩
   rw [hsc] at he
   have HE := Lib.hid he; clear he
   have hc5i : (c : Int) < 5 := by omega
   go_upto_block 2 with fail
   go_cut [7] from 13 to 90 (fun s7 wx => ∃ i : Nat, s7 = .int .i64 i ∧ a < i ∧ i ≤ b ∧ (¬ i < b ∨ ltInt dk[i]! dk[i - 1]! = true) ∧ partialIns ltInt a b (s + 1) i dk = partialInsertionSort ltInt d a b ∧ SA sl k X S w dk wx)
   case first =>
    go_wp2_with fail
    go_loopg [7] (b - i) (fun y vi wr => ∃ i : Nat, vi = .int .i64 i ∧ a < i ∧ i ≤ b ∧ b - i ≤ y ∧ partialIns ltInt a b (s + 1) i dk = partialInsertionSort ltInt d a b ∧ SA sl k X S w dk wr)
    case atStart => exact ⟨i, rfl, hi1, hi2, Nat.le_refl _, HE.out, HA.out⟩
    case round =>
     clear HE HA hi1 hi2 x0 x1 hsk
     obtain ⟨i, rfl, hi1, hi2, hy, he, hA⟩ := hrel
     have x0 := hA.x0
     have x1 := hA.x1
     have hsk := hA.size HC.out
     have HA := Lib.hid hA; clear hA
     have HE := Lib.hid he; clear he
     by_cases hib : i < b
     ·obtain ⟨i1, hi3⟩ : ∃ i1 : Nat, i - 1 = i1 := ⟨_, rfl⟩
      have e6 : (i : Int) - 1 = (i1 : Int) := by omega
      cases hb1 : ltInt dk[i]! dk[i1]! with
      | false =>
        have HZ := Lib.hid (scan_go (d := dk) hib (by rw [hi3]; exact hb1))
        have K := Lib.hid (HA.out.lessB HC.out (i := i) (j := i1) (by omega) (by omega) hb1)
        clear hb1
        go_wp2_with (first | (go_at_call 75; refine K.out.mono ?_; rintro e w1 ⟨rfl, h1⟩; have HA := Lib.hid h1; clear h1; have x0 := HA.out.x0; have x1 := HA.out.x1))
        go_roundg (b - (i + 1))
        case measure => omega
        case rel => exact ⟨i + 1, by go_num, by omega, by omega, Nat.le_refl _, by rw [← HE.out]; unfold partialIns; rw [HZ.out], HA.out⟩
      | true =>
        have HB := Lib.hid hb1
        have K := Lib.hid (HA.out.lessB HC.out (i := i) (j := i1) (by omega) (by omega) hb1)
        clear hb1
        go_wp2_with (first | (go_at_call 75; refine K.out.mono ?_; rintro e w1 ⟨rfl, h1⟩; have HA := Lib.hid h1; clear h1; have x0 := HA.out.x0; have x1 := HA.out.x1))
        go_meet
        case rel => exact ⟨i, rfl, hi1, hi2, .inr (by rw [hi3]; exact HB.out), HE.out, HA.out⟩
     ·go_wp2_with fail
      go_meet
      case rel => exact ⟨i, rfl, hi1, hi2, .inl hib, HE.out, HA.out⟩
   case rest =>
    clear HE HA hi1 hi2 x0 x1 hsk
    obtain ⟨i, rfl, hi1, hi2, hst, he, hA⟩ := hcut
    have x0 := hA.x0
    have x1 := hA.x1
    have hsk := hA.size HC.out
    have HA := Lib.hid hA; clear hA
    rw [pins_at (scan_stop hst)] at he
    by_cases hib : i = b
    ·rw [if_pos hib] at he
     have HE := Lib.hid he; clear he hst
     have e7 : (i : Int) = (b : Int) := by omega
     go_wp2_with fail
     go_ret
     rw [← HE.out]
     exact ⟨rfl, HA.out.s, HA.out.ap⟩
    ·rw [if_neg hib] at he
     have e7 : ¬ (i : Int) = (b : Int) := by omega
     by_cases h50 : b - a < 50
     ·rw [if_pos h50] at he
      have HE := Lib.hid he; clear he hst
      have m3 : (b : Int) - (a : Int) < 50 := by omega
      go_wp2_with fail
      go_ret
      rw [← HE.out]
      exact ⟨rfl, HA.out.s, HA.out.ap⟩
     ·rw [if_neg h50] at he
      have m3 : ¬ (b : Int) - (a : Int) < 50 := by omega
      obtain ⟨i1, hi3⟩ : ∃ i1 : Nat, i - 1 = i1 := ⟨_, rfl⟩
      have e6 : (i : Int) - 1 = (i1 : Int) := by omega
      rw [hi3] at he
      go_upto_region 11 with fail
      go_cut [] from 13 to 90 (fun wx => SA sl k X S w (swp dk i i1) wx)
      case first =>
       obtain ⟨w2, hsw, h2⟩ := HA.out.swap HC.out (i := i) (j := i1) (by omega) (by omega)
       have HA := Lib.hid h2; clear h2
       have y0 := HA.out.x0
       have y1 := HA.out.x1
       go_wp2_with fail
       go_meet
       case rel => exact HA.out
      case rest =>
      clear HA x0 x1
      have hA := hcut
      obtain ⟨dq, hdq⟩ : ∃ dq, swp dk i i1 = dq := ⟨_, rfl⟩
      rw [hdq] at he hA
      have HE := Lib.hid he; clear he hst hdq hcut hsk
      have x0 := hA.x0
      have x1 := hA.x1
      have hsk := hA.size HC.out
      have HA := Lib.hid hA; clear hA
      go_upto_if 47 with fail
      go_cut [] from 13 to 90 (fun wx => ∃ d2 : Array Int, d2 = downN a i dq ∧ SA sl k X S w d2 wx)
      case first =>
       by_cases h2 : i - a ≥ 2
       ·have m2 : (2 : Int) ≤ (i : Int) - (a : Int) := by omega
        obtain ⟨j0, hj0⟩ : ∃ j0 : Nat, i - 1 = j0 := ⟨_, rfl⟩
        obtain rfl : j0 = i1 := hj0.symm.trans hi3
        have e5 : (i : Int) - 1 = (j0 : Int) := by omega
        have HD := Lib.hid (show downN a i dq = shiftDown ltInt j0 dq by unfold downN; rw [if_pos h2, hj0])
        go_wp2_with fail
        go_loopg [9] j0 (fun z vj wr => ∃ (j : Nat) (dj : Array Int), vj = .int .i64 j ∧ j < i ∧ j ≤ z ∧ shiftDown ltInt j dj = shiftDown ltInt j0 dq ∧ SA sl k X S w dj wr)
        case atStart => exact ⟨j0, dq, rfl, by omega, Nat.le_refl _, rfl, HA.out⟩
        case round =>
         clear HA x0 x1 hsk
         obtain ⟨j, dj, rfl, hj1, hz, hu, hA⟩ := hrel
         have x0 := hA.x0
         have x1 := hA.x1
         have hsk := hA.size HC.out
         have HA := Lib.hid hA; clear hA
         have HU := Lib.hid hu; clear hu
         by_cases hg : 1 ≤ j
         ·obtain ⟨j1, hj3⟩ : ∃ j1 : Nat, j - 1 = j1 := ⟨_, rfl⟩
          have e6 : (j : Int) - 1 = (j1 : Int) := by omega
          cases hb : ltInt dj[j]! dj[j1]! with
          | false =>
            have HZ := Lib.hid (down_stop (d := dj) (j := j) (.inr (by rw [hj3]; exact hb)))
            have K := Lib.hid (HA.out.lessB HC.out (i := j) (j := j1) (by omega) (by omega) hb)
            clear hb
            go_wp2_with (first | (go_at_call 75; refine K.out.mono ?_; rintro e w1 ⟨rfl, h1⟩; have HA := Lib.hid h1; clear h1; have x0 := HA.out.x0; have x1 := HA.out.x1))
            go_meet
            case rel => exact ⟨dj, by rw [HD.out, ← HU.out, HZ.out], HA.out⟩
          | true =>
            have HZ := Lib.hid (down_go (d := dj) (j := j) hg (by rw [hj3]; exact hb))
            rw [hj3] at HZ
            have K := Lib.hid (HA.out.lessB HC.out (i := j) (j := j1) (by omega) (by omega) hb)
            clear hb
            go_wp2_with (first | (go_at_call 75; refine K.out.mono ?_; rintro e w1 ⟨rfl, h1⟩; have HA := Lib.hid h1; clear h1; have x0 := HA.out.x0; have x1 := HA.out.x1; obtain ⟨w2, hsw, h2⟩ := HA.out.swap HC.out (i := j) (j := j1) (by omega) (by omega); have HA := Lib.hid h2; clear h2; have y0 := HA.out.x0; have y1 := HA.out.x1))
            go_roundg (j1)
            case measure => omega
            case rel => exact ⟨j1, swp dj j j1, rfl, by omega, by omega, by rw [← HU.out, HZ.out], HA.out⟩
         ·have HZ := Lib.hid (down_stop (d := dj) (j := j) (.inl (by omega)))
          go_wp2_with fail
          go_meet
          case rel => exact ⟨dj, by rw [HD.out, ← HU.out, HZ.out], HA.out⟩
       ·have m2 : ¬ (2 : Int) ≤ (i : Int) - (a : Int) := by omega
        go_wp2_with fail
        go_meet
        case rel => exact ⟨dq, by unfold downN; rw [if_neg h2], HA.out⟩
      case rest =>
       clear HA x0 x1 hsk
       obtain ⟨d2, hd2, hA⟩ := hcut
       rw [← hd2] at HE
       clear hd2 dq
       revert HE
       generalize d2 = dq at hA ⊢
       intro HE
       have x0 := hA.x0
       have x1 := hA.x1
       have hsk := hA.size HC.out
       have HA := Lib.hid hA; clear hA
       by_cases h2 : b - i ≥ 2
       ·have m2 : (2 : Int) ≤ (b : Int) - (i : Int) := by omega
        obtain ⟨j0, hj0⟩ : ∃ j0 : Nat, i + 1 = j0 := ⟨_, rfl⟩
        have e5 : (i : Int) + 1 = (j0 : Int) := by omega
        have HD := Lib.hid (show upN b i dq = shiftUp ltInt b j0 dq by unfold upN; rw [if_pos h2, hj0])
        go_wp2_with fail
        go_loopg [10] (b - j0) (fun z vj wr => ∃ (j : Nat) (dj : Array Int), vj = .int .i64 j ∧ i < j ∧ j ≤ b ∧ b - j ≤ z ∧ shiftUp ltInt b j dj = shiftUp ltInt b j0 dq ∧ SA sl k X S w dj wr)
        case atStart => exact ⟨j0, dq, rfl, by omega, by omega, Nat.le_refl _, rfl, HA.out⟩
        case round =>
         clear HA x0 x1 hsk
         obtain ⟨j, dj, rfl, hj2, hj1, hz, hu, hA⟩ := hrel
         have x0 := hA.x0
         have x1 := hA.x1
         have hsk := hA.size HC.out
         have HA := Lib.hid hA; clear hA
         have HU := Lib.hid hu; clear hu
         by_cases hg : j < b
         ·obtain ⟨j1, hj3⟩ : ∃ j1 : Nat, j - 1 = j1 := ⟨_, rfl⟩
          have e6 : (j : Int) - 1 = (j1 : Int) := by omega
          cases hb : ltInt dj[j]! dj[j1]! with
          | false =>
            have HZ := Lib.hid (up_stop (b := b) (d := dj) (j := j) (.inr (by rw [hj3]; exact hb)))
            have K := Lib.hid (HA.out.lessB HC.out (i := j) (j := j1) (by omega) (by omega) hb)
            clear hb
            go_wp2_with (first | (go_at_call 75; refine K.out.mono ?_; rintro e w1 ⟨rfl, h1⟩; have HA := Lib.hid h1; clear h1; have x0 := HA.out.x0; have x1 := HA.out.x1))
            first | go_roundg (5 - (c + 1)) | skip
            case measure => omega
            case rel => exact ⟨c + 1, i, dj, rfl, by go_num, by omega, Nat.le_refl _, hi1, hi2, by rw [show 5 - (c + 1) = s by omega]; have h := HE.out; rw [HD.out, ← HU.out, HZ.out] at h; exact h, HA.out⟩
          | true =>
            have HZ := Lib.hid (up_go (b := b) (d := dj) (j := j) hg (by rw [hj3]; exact hb))
            rw [hj3] at HZ
            have K := Lib.hid (HA.out.lessB HC.out (i := j) (j := j1) (by omega) (by omega) hb)
            clear hb
            go_wp2_with (first | (go_at_call 75; refine K.out.mono ?_; rintro e w1 ⟨rfl, h1⟩; have HA := Lib.hid h1; clear h1; have x0 := HA.out.x0; have x1 := HA.out.x1; obtain ⟨w2, hsw, h2⟩ := HA.out.swap HC.out (i := j) (j := j1) (by omega) (by omega); have HA := Lib.hid h2; clear h2; have y0 := HA.out.x0; have y1 := HA.out.x1))
            go_roundg (b - (j + 1))
            case measure => omega
            case rel => exact ⟨j + 1, swp dj j j1, by go_num, by omega, by omega, by omega, by rw [← HU.out, HZ.out], HA.out⟩
         ·have HZ := Lib.hid (up_stop (b := b) (d := dj) (j := j) (.inl hg))
          go_wp2_with fail
          first | go_roundg (5 - (c + 1)) | skip
          case measure => omega
          case rel => exact ⟨c + 1, i, dj, rfl, by go_num, by omega, Nat.le_refl _, hi1, hi2, by rw [show 5 - (c + 1) = s by omega]; have h := HE.out; rw [HD.out, ← HU.out, HZ.out] at h; exact h, HA.out⟩
       ·have m2 : ¬ (2 : Int) ≤ (b : Int) - (i : Int) := by omega
        go_wp2_with fail
        go_roundg (5 - (c + 1))
        case measure => omega
        case rel => exact ⟨c + 1, i, dq, rfl, by go_num, by omega, Nat.le_refl _, hi1, hi2, by rw [show 5 - (c + 1) = s by omega]; have h := HE.out; unfold upN at h; rw [if_neg h2] at h; exact h, HA.out⟩
  ·obtain rfl : c = 5 := by omega
   have HE := Lib.hid (show (dk, false) = partialInsertionSort ltInt d a b from he); clear he
   go_wp2_with fail
   go_ret
   rw [← HE.out]
   exact ⟨rfl, HA.out.s, HA.out.ap⟩
end
end Go.Proofs.YtcajknjhkabhjaaGreatDoor
