/- sort.Slice by a comparison that makes blocks: the partitions.  -/
import Derived.Test.YtchndljcahjldaaGreatDoorMSMem
import Derived.Deep.CutBlock
namespace Go.Proofs.YtchndljcahjldaaGreatDoor
section
open Go.RowKit Go.Lib
open Go.Sort hiding Below
variable {sl:Value} {k n T:Nat}
def vb4 (a b q k:Nat) (d:Array Int) (S:Array Int→World→Prop) (w:World) (e:Ending) (w':World):Prop:=∃ (i:Nat) (d':Array Int),e = .returned (.int .i64 i)∧(a<i∧i≤b∧PermIn a b d d'∧(∀ t,a≤t→t<i→ltInt d[q]! d'[t]! = false)∧(∀ t,i≤t→t<b→ltInt d[q]! d'[t]! = true))∧S d' w'∧y5 (fun j=>j=k) w w'
def vb5 (a b k:Nat) (d:Array Int) (S:Array Int→World→Prop) (w:World) (e:Ending) (w':World):Prop:=∃ (j:Nat) (x:Bool) (d':Array Int),e = .returned (.tuple #[.int .i64 j,.bool x])∧(a≤j∧j<b∧PermIn a b d d'∧(∀ t,a≤t→t<j→ltInt d'[t]! d'[j]! = true)∧(∀ t,j<t→t<b→ltInt d'[t]! d'[j]! = false))∧S d' w'∧y5 (fun j=>j=k) w w'
set_option maxRecDepth 100000 in
set_option maxHeartbeats 4000000 in
theorem wi5 {S:Array Int→World→Prop} (C:z26 sl k n T S) (d:Array Int) (a b q:Nat) (w:World) (hS:S d w) (haq:a≤q) (hqb:q<b) (hb:b≤n) (hn:n≤1000000) :
 Calls Tryz.prog 200 #[.agg #[g6 sl,b6 sl],.int .i64 a,.int .i64 b,.int .i64 q] w (vb4 a b q k d S w):=by
 obtain ⟨hsz,hkT,hTW⟩:=C.size _ _ hS
 have HST:=qh (PI.start (p:=(fun x => !ltInt (d[q]!) x)) haq hqb (show b≤d.size by omega))
 obtain ⟨pv,hpv⟩:∃ pv,d[q]! = pv:=⟨_,rfl⟩
 rw [hpv] at HST
 have HPV:=qh hpv;clear hpv
 have hA0:=SA.start C hS
 obtain ⟨X,hX⟩:∃ X,w.heap.size=X:=⟨_,rfl⟩
 obtain ⟨W0,hW0⟩:∃ W0,w.alloc (.cells #[g6 sl,b6 sl] 174)=W0:=⟨_,rfl⟩
 rw [hX,hW0] at hA0
 have x0:=hA0.x0
 have x1:=hA0.x1
 have HA:=qh hA0
 have HC:=qh C
 have hag:=Tryz.isAgg174
 clear hA0 hS C
 go_enter Tryz.func200,Tryz.ntmps200
 obtain ⟨w2,hsw,h2⟩:=HA.out.swap HC.out (i:=a) (j:=q) (by omega) (by omega)
 have HA:=qh h2;clear h2
 have y0:=HA.out.x0
 have y1:=HA.out.x1
 go_wp2_with fail
 go_loopg [9,10] b (fun z vi vj wr=>∃ (i j:Nat) (dk:Array Int),vi = .int .i64 i∧vj = .int .i64 j∧j+1 - i≤z∧PI (fun x => !ltInt pv x) a b i j pv d dk∧SA sl k X S w dk wr)
 case atStart=>exact ⟨a+1,b - 1,_,by go_num,by congr 1;omega,by omega,HST.out,HA.out⟩
 case round =>
  clear HA HST x0 x1 y0 y1 hsw
  obtain ⟨i,j,dk,rfl,rfl,hz,hp,hA⟩:=hrel
  have HP:=qh hp
  have b1:=hp.b1
  have b2:=hp.b2
  have b3:=hp.b3
  have b4:=hp.b4
  have hpv:=qh hp.piv
  clear hp
  have x0:=hA.x0
  have x1:=hA.x1
  have hsk:=hA.size HC.out
  have HA:=qh hA;clear hA
  obtain ⟨i0,hi0⟩:∃ i0,i=i0:=⟨_,rfl⟩
  have HI0:=qh hi0
  try rw [hi0] at hz
  clear hi0
  go_upto_block 2 with fail
  go_cut [9] from 20 to 56 (fun s wx=>∃ i:Nat,s = .int .i64 i∧PI (fun x => !ltInt pv x) a b i j pv d dk∧(j<i∨(fun x => !ltInt pv x) dk[i]! = false)∧i0≤i∧SA sl k X S w dk wx)
  case first =>
   go_wp2_with fail
   go_loopg [9] (j+1 - i) (fun z vi wr=>∃ i:Nat,vi = .int .i64 i∧j+1 - i≤z∧PI (fun x => !ltInt pv x) a b i j pv d dk∧i0≤i∧SA sl k X S w dk wr)
   case atStart=>exact ⟨i,rfl,Nat.le_refl _,HP.out,Nat.le_of_eq HI0.out.symm,HA.out⟩
   case round =>
    clear HA HP x0 x1 b1 b2 b3 b4 hpv hsk
    obtain ⟨i,rfl,hM,hp,hor,hA⟩:=hrel
    have HP:=qh hp
    have b1:=hp.b1
    have b2:=hp.b2
    have b3:=hp.b3
    have b4:=hp.b4
    have hpv:=qh hp.piv
    clear hp
    have x0:=hA.x0
    have x1:=hA.x1
    have hsk:=hA.size HC.out
    have HA:=qh hA;clear hA
    by_cases hle:i≤j
    ·cases hb:ltInt dk[a]! dk[i]! with
     | false =>
       have HS:=qh (show (fun x => !ltInt pv x) dk[i]! = true from (by show (!ltInt pv dk[i]!)=_;rw [← hpv.out,hb];rfl))
       have K:=qh (HA.out.lessB HC.out (i:=a) (j:=i) (by omega) (by omega) hb)
       clear hb
       go_wp2_with (first | (go_at_call 83;refine K.out.mono ?_;rintro e w1 ⟨rfl,h1⟩;have HA:=qh h1;clear h1;have x0:=HA.out.x0;have x1:=HA.out.x1))
       go_roundg (j - i)
       case measure=>omega
       case rel=>exact ⟨i+1,by go_num,by omega,HP.out.up hle HS.out,by omega,HA.out⟩
     | true =>
       have HS:=qh (show (fun x => !ltInt pv x) dk[i]! = false from (by show (!ltInt pv dk[i]!)=_;rw [← hpv.out,hb];rfl))
       have K:=qh (HA.out.lessB HC.out (i:=a) (j:=i) (by omega) (by omega) hb)
       clear hb
       go_wp2_with (first | (go_at_call 83;refine K.out.mono ?_;rintro e w1 ⟨rfl,h1⟩;have HA:=qh h1;clear h1;have x0:=HA.out.x0;have x1:=HA.out.x1))
       go_meet
       case rel=>exact ⟨i,rfl,HP.out,.inr HS.out,hor,HA.out⟩
    ·go_wp2_with fail
     go_meet
     case rel=>exact ⟨i,rfl,HP.out,.inl (by omega),hor,HA.out⟩
  case rest =>
   clear HA HP x0 x1 b1 b2 b3 b4 hpv hsk
   obtain ⟨i,rfl,hp,hc1,ho1,hA⟩:=hcut
   have HP:=qh hp
   have b1:=hp.b1
   have b2:=hp.b2
   have b3:=hp.b3
   have b4:=hp.b4
   have hpv:=qh hp.piv
   clear hp
   have x0:=hA.x0
   have x1:=hA.x1
   have hsk:=hA.size HC.out
   have HA:=qh hA;clear hA
   obtain ⟨j0,hj0⟩:∃ j0,j=j0:=⟨_,rfl⟩
   have HJ0:=qh hj0
   rw [hj0] at hc1
   try rw [hj0] at hz
   clear hj0
   go_upto_block 4 with fail
   go_cut [10] from 20 to 56 (fun s wx=>∃ j:Nat,s = .int .i64 j∧PI (fun x => !ltInt pv x) a b i j pv d dk∧(j<i∨(fun x => !ltInt pv x) dk[j]! = true)∧j≤j0∧SA sl k X S w dk wx)
   case first =>
    go_wp2_with fail
    go_loopg [10] (j+1 - i) (fun z vi wr=>∃ j:Nat,vi = .int .i64 j∧j+1 - i≤z∧PI (fun x => !ltInt pv x) a b i j pv d dk∧j≤j0∧SA sl k X S w dk wr)
    case atStart=>exact ⟨j,rfl,Nat.le_refl _,HP.out,Nat.le_of_eq HJ0.out,HA.out⟩
    case round =>
     clear HA HP x0 x1 b1 b2 b3 b4 hpv hsk
     obtain ⟨j,rfl,hM,hp,hor,hA⟩:=hrel
     have HP:=qh hp
     have b1:=hp.b1
     have b2:=hp.b2
     have b3:=hp.b3
     have b4:=hp.b4
     have hpv:=qh hp.piv
     clear hp
     have x0:=hA.x0
     have x1:=hA.x1
     have hsk:=hA.size HC.out
     have HA:=qh hA;clear hA
     by_cases hle:i≤j
     ·cases hb:ltInt dk[a]! dk[j]! with
      | true =>
        have HS:=qh (show (fun x => !ltInt pv x) dk[j]! = false from (by show (!ltInt pv dk[j]!)=_;rw [← hpv.out,hb];rfl))
        have K:=qh (HA.out.lessB HC.out (i:=a) (j:=j) (by omega) (by omega) hb)
        clear hb
        go_wp2_with (first | (go_at_call 83;refine K.out.mono ?_;rintro e w1 ⟨rfl,h1⟩;have HA:=qh h1;clear h1;have x0:=HA.out.x0;have x1:=HA.out.x1))
        go_roundg (j - i)
        case measure=>omega
        case rel=>exact ⟨j - 1,by congr 1;omega,by omega,HP.out.down hle HS.out,by omega,HA.out⟩
      | false =>
        have HS:=qh (show (fun x => !ltInt pv x) dk[j]! = true from (by show (!ltInt pv dk[j]!)=_;rw [← hpv.out,hb];rfl))
        have K:=qh (HA.out.lessB HC.out (i:=a) (j:=j) (by omega) (by omega) hb)
        clear hb
        go_wp2_with (first | (go_at_call 83;refine K.out.mono ?_;rintro e w1 ⟨rfl,h1⟩;have HA:=qh h1;clear h1;have x0:=HA.out.x0;have x1:=HA.out.x1))
        go_meet
        case rel=>exact ⟨j,rfl,HP.out,.inr HS.out,hor,HA.out⟩
     ·go_wp2_with fail
      go_meet
      case rel=>exact ⟨j,rfl,HP.out,.inl (by omega),hor,HA.out⟩
   case rest =>
    clear HA HP x0 x1 b1 b2 b3 b4 hpv hsk
    obtain ⟨j,rfl,hp,hc2,ho2,hA⟩:=hcut
    have HP:=qh hp
    have b1:=hp.b1
    have b2:=hp.b2
    have b3:=hp.b3
    have b4:=hp.b4
    have hpv:=qh hp.piv
    clear hp
    have x0:=hA.x0
    have x1:=hA.x1
    have hsk:=hA.size HC.out
    have HA:=qh hA;clear hA
    replace hc1:j<i∨(fun x => !ltInt pv x) dk[i]! = false:=hc1.imp (fun h=>by omega) id
    by_cases hji:j<i
    ·go_wp2_with fail
     go_ret
     exact ⟨i,dk,rfl,by rw [HPV.out];exact HP.out.doneE hji,HA.out.s,HA.out.ap⟩
    ·have hlt:i<j:=HP.out.lt (by omega) (hc1.resolve_left hji) (hc2.resolve_left hji)
     have HP2:=qh (HP.out.swap hlt (hc1.resolve_left hji) (hc2.resolve_left hji))
     obtain ⟨w2,hsw,h2⟩:=HA.out.swap HC.out (i:=i) (j:=j) (by omega) (by omega)
     have HA:=qh h2;clear h2
     have y0:=HA.out.x0
     have y1:=HA.out.x1
     go_wp2_with fail
     go_roundg (j - i)
     case measure=>omega
     case rel=>exact ⟨i+1,j - 1,swp dk i j,by go_num,by congr 1;omega,by omega,HP2.out,HA.out⟩
set_option maxRecDepth 100000 in
set_option maxHeartbeats 4000000 in
theorem v09 {S:Array Int→World→Prop} (C:z26 sl k n T S) (d:Array Int) (a b q:Nat) (w:World) (hS:S d w) (haq:a≤q) (hqb:q<b) (hb:b≤n) (hn:n≤1000000) :
 Calls Tryz.prog 201 #[.agg #[g6 sl,b6 sl],.int .i64 a,.int .i64 b,.int .i64 q] w (vb5 a b k d S w):=by
 obtain ⟨hsz,hkT,hTW⟩:=C.size _ _ hS
 have HST:=qh (PI.start (p:=(fun x=>ltInt x (d[q]!))) haq hqb (show b≤d.size by omega))
 obtain ⟨pv,hpv⟩:∃ pv,d[q]! = pv:=⟨_,rfl⟩
 rw [hpv] at HST
 have HPV:=qh hpv;clear hpv
 have hA0:=SA.start C hS
 obtain ⟨X,hX⟩:∃ X,w.heap.size=X:=⟨_,rfl⟩
 obtain ⟨W0,hW0⟩:∃ W0,w.alloc (.cells #[g6 sl,b6 sl] 174)=W0:=⟨_,rfl⟩
 rw [hX,hW0] at hA0
 have x0:=hA0.x0
 have x1:=hA0.x1
 have HA:=qh hA0
 have HC:=qh C
 have hag:=Tryz.isAgg174
 clear hA0 hS C
 go_enter Tryz.func201,Tryz.ntmps201
 go_upto_region 1 with fail
 go_cut [] from 12 (fun wx=>SA sl k X S w (swp d a q) wx)
 case first =>
  obtain ⟨w2,hsw,h2⟩:=HA.out.swap HC.out (i:=a) (j:=q) (by omega) (by omega)
  have HA:=qh h2;clear h2
  have y0:=HA.out.x0
  have y1:=HA.out.x1
  go_wp2_with fail
  go_meet
  case rel=>exact HA.out
 case rest =>
 clear HA x0 x1
 have HA:=qh hcut;clear hcut
 obtain ⟨i,hi⟩:∃ i:Nat,a+1=i:=⟨_,rfl⟩
 obtain ⟨j,hj⟩:∃ j:Nat,b - 1=j:=⟨_,rfl⟩
 have e1:(a:Int)+1=(i:Int):=by omega
 have e2:(b:Int) - 1=(j:Int):=by omega
 obtain ⟨dk,hdk⟩:∃ dk,swp d a q=dk:=⟨_,rfl⟩
 rw [hi,hj,hdk] at HST
 rw [hdk] at HA
 have hp:=HST.out
 have hA:=HA.out
 clear hi hj hdk HST HA
 have HP:=qh hp
 have b1:=hp.b1
 have b2:=hp.b2
 have b3:=hp.b3
 have b4:=hp.b4
 have hpv:=qh hp.piv
 clear hp
 have x0:=hA.x0
 have x1:=hA.x1
 have hsk:=hA.size HC.out
 have HA:=qh hA;clear hA
 obtain ⟨i0,hi0⟩:∃ i0,i=i0:=⟨_,rfl⟩
 have HI0:=qh hi0
 try rw [hi0] at hz
 clear hi0
 go_upto_block 0 with fail
 go_cut [10] from 12 (fun s wx=>∃ i:Nat,s = .int .i64 i∧PI (fun x=>ltInt x pv) a b i j pv d dk∧(j<i∨(fun x=>ltInt x pv) dk[i]! = false)∧i0≤i∧SA sl k X S w dk wx)
 case first =>
  go_wp2_with fail
  go_loopg [10] (j+1 - i) (fun z vi wr=>∃ i:Nat,vi = .int .i64 i∧j+1 - i≤z∧PI (fun x=>ltInt x pv) a b i j pv d dk∧i0≤i∧SA sl k X S w dk wr)
  case atStart=>exact ⟨i,rfl,Nat.le_refl _,HP.out,Nat.le_of_eq HI0.out.symm,HA.out⟩
  case round =>
   clear HA HP x0 x1 b1 b2 b3 b4 hpv hsk
   obtain ⟨i,rfl,hM,hp,hor,hA⟩:=hrel
   have HP:=qh hp
   have b1:=hp.b1
   have b2:=hp.b2
   have b3:=hp.b3
   have b4:=hp.b4
   have hpv:=qh hp.piv
   clear hp
   have x0:=hA.x0
   have x1:=hA.x1
   have hsk:=hA.size HC.out
   have HA:=qh hA;clear hA
   by_cases hle:i≤j
   ·cases hb:ltInt dk[i]! dk[a]! with
    | true =>
      have HS:=qh (show (fun x=>ltInt x pv) dk[i]! = true from (by show ltInt dk[i]! pv=_;rw [← hpv.out,hb]))
      have K:=qh (HA.out.lessB HC.out (i:=i) (j:=a) (by omega) (by omega) hb)
      clear hb
      go_wp2_with (first | (go_at_call 83;refine K.out.mono ?_;rintro e w1 ⟨rfl,h1⟩;have HA:=qh h1;clear h1;have x0:=HA.out.x0;have x1:=HA.out.x1))
      go_roundg (j - i)
      case measure=>omega
      case rel=>exact ⟨i+1,by go_num,by omega,HP.out.up hle HS.out,by omega,HA.out⟩
    | false =>
      have HS:=qh (show (fun x=>ltInt x pv) dk[i]! = false from (by show ltInt dk[i]! pv=_;rw [← hpv.out,hb]))
      have K:=qh (HA.out.lessB HC.out (i:=i) (j:=a) (by omega) (by omega) hb)
      clear hb
      go_wp2_with (first | (go_at_call 83;refine K.out.mono ?_;rintro e w1 ⟨rfl,h1⟩;have HA:=qh h1;clear h1;have x0:=HA.out.x0;have x1:=HA.out.x1))
      go_meet
      case rel=>exact ⟨i,rfl,HP.out,.inr HS.out,hor,HA.out⟩
   ·go_wp2_with fail
    go_meet
    case rel=>exact ⟨i,rfl,HP.out,.inl (by omega),hor,HA.out⟩
 case rest =>
  clear HA HP x0 x1 b1 b2 b3 b4 hpv hsk
  obtain ⟨i,rfl,hp,hc1,ho1,hA⟩:=hcut
  have HP:=qh hp
  have b1:=hp.b1
  have b2:=hp.b2
  have b3:=hp.b3
  have b4:=hp.b4
  have hpv:=qh hp.piv
  clear hp
  have x0:=hA.x0
  have x1:=hA.x1
  have hsk:=hA.size HC.out
  have HA:=qh hA;clear hA
  obtain ⟨j0,hj0⟩:∃ j0,j=j0:=⟨_,rfl⟩
  have HJ0:=qh hj0
  rw [hj0] at hc1
  try rw [hj0] at hz
  clear hj0
  go_upto_block 2 with fail
  go_cut [11] from 12 (fun s wx=>∃ j:Nat,s = .int .i64 j∧PI (fun x=>ltInt x pv) a b i j pv d dk∧(j<i∨(fun x=>ltInt x pv) dk[j]! = true)∧j≤j0∧SA sl k X S w dk wx)
  case first =>
   go_wp2_with fail
   go_loopg [11] (j+1 - i) (fun z vi wr=>∃ j:Nat,vi = .int .i64 j∧j+1 - i≤z∧PI (fun x=>ltInt x pv) a b i j pv d dk∧j≤j0∧SA sl k X S w dk wr)
   case atStart=>exact ⟨j,rfl,Nat.le_refl _,HP.out,Nat.le_of_eq HJ0.out,HA.out⟩
   case round =>
    clear HA HP x0 x1 b1 b2 b3 b4 hpv hsk
    obtain ⟨j,rfl,hM,hp,hor,hA⟩:=hrel
    have HP:=qh hp
    have b1:=hp.b1
    have b2:=hp.b2
    have b3:=hp.b3
    have b4:=hp.b4
    have hpv:=qh hp.piv
    clear hp
    have x0:=hA.x0
    have x1:=hA.x1
    have hsk:=hA.size HC.out
    have HA:=qh hA;clear hA
    by_cases hle:i≤j
    ·cases hb:ltInt dk[j]! dk[a]! with
     | false =>
       have HS:=qh (show (fun x=>ltInt x pv) dk[j]! = false from (by show ltInt dk[j]! pv=_;rw [← hpv.out,hb]))
       have K:=qh (HA.out.lessB HC.out (i:=j) (j:=a) (by omega) (by omega) hb)
       clear hb
       go_wp2_with (first | (go_at_call 83;refine K.out.mono ?_;rintro e w1 ⟨rfl,h1⟩;have HA:=qh h1;clear h1;have x0:=HA.out.x0;have x1:=HA.out.x1))
       go_roundg (j - i)
       case measure=>omega
       case rel=>exact ⟨j - 1,by congr 1;omega,by omega,HP.out.down hle HS.out,by omega,HA.out⟩
     | true =>
       have HS:=qh (show (fun x=>ltInt x pv) dk[j]! = true from (by show ltInt dk[j]! pv=_;rw [← hpv.out,hb]))
       have K:=qh (HA.out.lessB HC.out (i:=j) (j:=a) (by omega) (by omega) hb)
       clear hb
       go_wp2_with (first | (go_at_call 83;refine K.out.mono ?_;rintro e w1 ⟨rfl,h1⟩;have HA:=qh h1;clear h1;have x0:=HA.out.x0;have x1:=HA.out.x1))
       go_meet
       case rel=>exact ⟨j,rfl,HP.out,.inr HS.out,hor,HA.out⟩
    ·go_wp2_with fail
     go_meet
     case rel=>exact ⟨j,rfl,HP.out,.inl (by omega),hor,HA.out⟩
  case rest =>
   clear HA HP x0 x1 b1 b2 b3 b4 hpv hsk
   obtain ⟨j,rfl,hp,hc2,ho2,hA⟩:=hcut
   have HP:=qh hp
   have b1:=hp.b1
   have b2:=hp.b2
   have b3:=hp.b3
   have b4:=hp.b4
   have hpv:=qh hp.piv
   clear hp
   have x0:=hA.x0
   have x1:=hA.x1
   have hsk:=hA.size HC.out
   have HA:=qh hA;clear hA
   replace hc1:j<i∨(fun x=>ltInt x pv) dk[i]! = false:=hc1.imp (fun h=>by omega) id
   by_cases hji:j<i
   ·obtain ⟨w2,hsw,h2⟩:=HA.out.swap HC.out (i:=j) (j:=a) (by omega) (by omega)
    have HA:=qh h2;clear h2
    have y0:=HA.out.x0
    have y1:=HA.out.x1
    go_wp2_with fail
    go_ret2
    exact ⟨j,_,_,rfl,HP.out.done hji,HA.out.s,HA.out.ap⟩
   ·have hlt:i<j:=HP.out.lt (by omega) (hc1.resolve_left hji) (hc2.resolve_left hji)
    have HP2:=qh (HP.out.swap hlt (hc1.resolve_left hji) (hc2.resolve_left hji))
    obtain ⟨w2,hsw,h2⟩:=HA.out.swap HC.out (i:=i) (j:=j) (by omega) (by omega)
    have HA:=qh h2;clear h2
    have y0:=HA.out.x0
    have y1:=HA.out.x1
    obtain ⟨z1,hz1⟩:∃ z1:Nat,i+1=z1:=⟨_,rfl⟩
    obtain ⟨z2,hz2⟩:∃ z2:Nat,j - 1=z2:=⟨_,rfl⟩
    have e3:(i:Int)+1=(z1:Int):=by omega
    have e4:(j:Int) - 1=(z2:Int):=by omega
    rw [hz1,hz2] at HP2
    go_wp2_with fail
    go_loopg [10,11] b (fun z vi vj wr=>∃ (i j:Nat) (dk:Array Int),vi = .int .i64 i∧vj = .int .i64 j∧j+1 - i≤z∧PI (fun x=>ltInt x pv) a b i j pv d dk∧SA sl k X S w dk wr)
    case atStart=>exact ⟨z1,z2,_,rfl,rfl,by omega,HP2.out,HA.out⟩
    case round =>
     clear HA HP HP2 x0 x1 y0 y1 hsw hpv hlt b1 b2 b3 b4 hsk hji hc1 hc2 hz1 hz2 e3 e4
     obtain ⟨i,j,dk,rfl,rfl,hz,hp,hA⟩:=hrel
     have HP:=qh hp
     have b1:=hp.b1
     have b2:=hp.b2
     have b3:=hp.b3
     have b4:=hp.b4
     have hpv:=qh hp.piv
     clear hp
     have x0:=hA.x0
     have x1:=hA.x1
     have hsk:=hA.size HC.out
     have HA:=qh hA;clear hA
     obtain ⟨i0,hi0⟩:∃ i0,i=i0:=⟨_,rfl⟩
     have HI0:=qh hi0
     try rw [hi0] at hz
     clear hi0
     go_upto_block 6 with fail
     go_cut [10] from 64 to 100 (fun s wx=>∃ i:Nat,s = .int .i64 i∧PI (fun x=>ltInt x pv) a b i j pv d dk∧(j<i∨(fun x=>ltInt x pv) dk[i]! = false)∧i0≤i∧SA sl k X S w dk wx)
     case first =>
      go_wp2_with fail
      go_loopg [10] (j+1 - i) (fun z vi wr=>∃ i:Nat,vi = .int .i64 i∧j+1 - i≤z∧PI (fun x=>ltInt x pv) a b i j pv d dk∧i0≤i∧SA sl k X S w dk wr)
      case atStart=>exact ⟨i,rfl,Nat.le_refl _,HP.out,Nat.le_of_eq HI0.out.symm,HA.out⟩
      case round =>
       clear HA HP x0 x1 b1 b2 b3 b4 hpv hsk
       obtain ⟨i,rfl,hM,hp,hor,hA⟩:=hrel
       have HP:=qh hp
       have b1:=hp.b1
       have b2:=hp.b2
       have b3:=hp.b3
       have b4:=hp.b4
       have hpv:=qh hp.piv
       clear hp
       have x0:=hA.x0
       have x1:=hA.x1
       have hsk:=hA.size HC.out
       have HA:=qh hA;clear hA
       by_cases hle:i≤j
       ·cases hb:ltInt dk[i]! dk[a]! with
        | true =>
          have HS:=qh (show (fun x=>ltInt x pv) dk[i]! = true from (by show ltInt dk[i]! pv=_;rw [← hpv.out,hb]))
          have K:=qh (HA.out.lessB HC.out (i:=i) (j:=a) (by omega) (by omega) hb)
          clear hb
          go_wp2_with (first | (go_at_call 83;refine K.out.mono ?_;rintro e w1 ⟨rfl,h1⟩;have HA:=qh h1;clear h1;have x0:=HA.out.x0;have x1:=HA.out.x1))
          go_roundg (j - i)
          case measure=>omega
          case rel=>exact ⟨i+1,by go_num,by omega,HP.out.up hle HS.out,by omega,HA.out⟩
        | false =>
          have HS:=qh (show (fun x=>ltInt x pv) dk[i]! = false from (by show ltInt dk[i]! pv=_;rw [← hpv.out,hb]))
          have K:=qh (HA.out.lessB HC.out (i:=i) (j:=a) (by omega) (by omega) hb)
          clear hb
          go_wp2_with (first | (go_at_call 83;refine K.out.mono ?_;rintro e w1 ⟨rfl,h1⟩;have HA:=qh h1;clear h1;have x0:=HA.out.x0;have x1:=HA.out.x1))
          go_meet
          case rel=>exact ⟨i,rfl,HP.out,.inr HS.out,hor,HA.out⟩
       ·go_wp2_with fail
        go_meet
        case rel=>exact ⟨i,rfl,HP.out,.inl (by omega),hor,HA.out⟩
     case rest =>
      clear HA HP x0 x1 b1 b2 b3 b4 hpv hsk
      obtain ⟨i,rfl,hp,hc1,ho1,hA⟩:=hcut
      have HP:=qh hp
      have b1:=hp.b1
      have b2:=hp.b2
      have b3:=hp.b3
      have b4:=hp.b4
      have hpv:=qh hp.piv
      clear hp
      have x0:=hA.x0
      have x1:=hA.x1
      have hsk:=hA.size HC.out
      have HA:=qh hA;clear hA
      obtain ⟨j0,hj0⟩:∃ j0,j=j0:=⟨_,rfl⟩
      have HJ0:=qh hj0
      rw [hj0] at hc1
      try rw [hj0] at hz
      clear hj0
      go_upto_block 8 with fail
      go_cut [11] from 64 to 100 (fun s wx=>∃ j:Nat,s = .int .i64 j∧PI (fun x=>ltInt x pv) a b i j pv d dk∧(j<i∨(fun x=>ltInt x pv) dk[j]! = true)∧j≤j0∧SA sl k X S w dk wx)
      case first =>
       go_wp2_with fail
       go_loopg [11] (j+1 - i) (fun z vi wr=>∃ j:Nat,vi = .int .i64 j∧j+1 - i≤z∧PI (fun x=>ltInt x pv) a b i j pv d dk∧j≤j0∧SA sl k X S w dk wr)
       case atStart=>exact ⟨j,rfl,Nat.le_refl _,HP.out,Nat.le_of_eq HJ0.out,HA.out⟩
       case round =>
        clear HA HP x0 x1 b1 b2 b3 b4 hpv hsk
        obtain ⟨j,rfl,hM,hp,hor,hA⟩:=hrel
        have HP:=qh hp
        have b1:=hp.b1
        have b2:=hp.b2
        have b3:=hp.b3
        have b4:=hp.b4
        have hpv:=qh hp.piv
        clear hp
        have x0:=hA.x0
        have x1:=hA.x1
        have hsk:=hA.size HC.out
        have HA:=qh hA;clear hA
        by_cases hle:i≤j
        ·cases hb:ltInt dk[j]! dk[a]! with
         | false =>
           have HS:=qh (show (fun x=>ltInt x pv) dk[j]! = false from (by show ltInt dk[j]! pv=_;rw [← hpv.out,hb]))
           have K:=qh (HA.out.lessB HC.out (i:=j) (j:=a) (by omega) (by omega) hb)
           clear hb
           go_wp2_with (first | (go_at_call 83;refine K.out.mono ?_;rintro e w1 ⟨rfl,h1⟩;have HA:=qh h1;clear h1;have x0:=HA.out.x0;have x1:=HA.out.x1))
           go_roundg (j - i)
           case measure=>omega
           case rel=>exact ⟨j - 1,by congr 1;omega,by omega,HP.out.down hle HS.out,by omega,HA.out⟩
         | true =>
           have HS:=qh (show (fun x=>ltInt x pv) dk[j]! = true from (by show ltInt dk[j]! pv=_;rw [← hpv.out,hb]))
           have K:=qh (HA.out.lessB HC.out (i:=j) (j:=a) (by omega) (by omega) hb)
           clear hb
           go_wp2_with (first | (go_at_call 83;refine K.out.mono ?_;rintro e w1 ⟨rfl,h1⟩;have HA:=qh h1;clear h1;have x0:=HA.out.x0;have x1:=HA.out.x1))
           go_meet
           case rel=>exact ⟨j,rfl,HP.out,.inr HS.out,hor,HA.out⟩
        ·go_wp2_with fail
         go_meet
         case rel=>exact ⟨j,rfl,HP.out,.inl (by omega),hor,HA.out⟩
      case rest =>
       clear HA HP x0 x1 b1 b2 b3 b4 hpv hsk
       obtain ⟨j,rfl,hp,hc2,ho2,hA⟩:=hcut
       have HP:=qh hp
       have b1:=hp.b1
       have b2:=hp.b2
       have b3:=hp.b3
       have b4:=hp.b4
       have hpv:=qh hp.piv
       clear hp
       have x0:=hA.x0
       have x1:=hA.x1
       have hsk:=hA.size HC.out
       have HA:=qh hA;clear hA
       replace hc1:j<i∨(fun x=>ltInt x pv) dk[i]! = false:=hc1.imp (fun h=>by omega) id
       by_cases hji:j<i
       ·obtain ⟨w2,hsw,h2⟩:=HA.out.swap HC.out (i:=j) (j:=a) (by omega) (by omega)
        have HA:=qh h2;clear h2
        have y0:=HA.out.x0
        have y1:=HA.out.x1
        go_wp2_with fail
        go_ret2
        exact ⟨j,_,_,rfl,HP.out.done hji,HA.out.s,HA.out.ap⟩
       ·have hlt:i<j:=HP.out.lt (by omega) (hc1.resolve_left hji) (hc2.resolve_left hji)
        have HP2:=qh (HP.out.swap hlt (hc1.resolve_left hji) (hc2.resolve_left hji))
        obtain ⟨w2,hsw,h2⟩:=HA.out.swap HC.out (i:=i) (j:=j) (by omega) (by omega)
        have HA:=qh h2;clear h2
        have y0:=HA.out.x0
        have y1:=HA.out.x1
        go_wp2_with fail
        go_roundg (j - i)
        case measure=>omega
        case rel=>exact ⟨i+1,j - 1,swp dk i j,by go_num,by congr 1;omega,by omega,HP2.out,HA.out⟩
set_option maxRecDepth 100000 in
set_option maxHeartbeats 8000000 in
theorem w46 {S:Array Int→World→Prop} (C:z26 sl k n T S) (d:Array Int) (a b:Nat) (w:World) (hS:S d w) (hab:a<b) (hb:b≤n) (hn:n≤1000000) :
 Calls Tryz.prog 199 #[.agg #[g6 sl,b6 sl],.int .i64 a,.int .i64 b] w (fun e w'=>e = .returned (.bool (partialInsertionSort ltInt d a b).2)∧S (partialInsertionSort ltInt d a b).1 w'∧y5 (fun j=>j=k) w w'):=by
 obtain ⟨hsz,hkT,hTW⟩:=C.size _ _ hS
 have hA0:=SA.start C hS
 obtain ⟨X,hX⟩:∃ X,w.heap.size=X:=⟨_,rfl⟩
 obtain ⟨W0,hW0⟩:∃ W0,w.alloc (.cells #[g6 sl,b6 sl] 174)=W0:=⟨_,rfl⟩
 rw [hX,hW0] at hA0
 have x0:=hA0.x0
 have x1:=hA0.x1
 have HA:=qh hA0
 have HC:=qh C
 have hag:=Tryz.isAgg174
 clear hA0 hS C
 go_enter Tryz.func199,Tryz.ntmps199
 go_wp2_with fail
 go_loopg [7,8] 5 (fun z vi vc wr=>∃ (c i:Nat) (dk:Array Int),vi = .int .i64 i∧vc = .int .i64 c∧c≤5∧5 - c≤z∧a<i∧i≤b∧partialIns ltInt a b (5 - c) i dk=partialInsertionSort ltInt d a b∧SA sl k X S w dk wr)
 case atStart=>exact ⟨0,a+1,d,by go_num,rfl,by omega,by omega,by omega,by omega,rfl,HA.out⟩
 case round =>
  clear HA x0 x1
  obtain ⟨c,i,dk,rfl,rfl,hc,hz,hi1,hi2,he,hA⟩:=hrel
  have x0:=hA.x0
  have x1:=hA.x1
  have hsk:=hA.size HC.out
  have HA:=qh hA;clear hA
  by_cases hc5:c<5
  ·obtain ⟨s,hsc⟩:∃ s,5 - c=s+1:=⟨4 - c,by omega⟩
   rw [hsc] at he
   have HE:=qh he;clear he
   have hc5i:(c:Int)<5:=by omega
   go_upto_block 2 with fail
   go_cut [7] from 13 to 90 (fun s7 wx=>∃ i:Nat,s7 = .int .i64 i∧a<i∧i≤b∧(¬ i<b∨ltInt dk[i]! dk[i - 1]! = true)∧partialIns ltInt a b (s+1) i dk=partialInsertionSort ltInt d a b∧SA sl k X S w dk wx)
   case first =>
    go_wp2_with fail
    go_loopg [7] (b - i) (fun y vi wr=>∃ i:Nat,vi = .int .i64 i∧a<i∧i≤b∧b - i≤y∧partialIns ltInt a b (s+1) i dk=partialInsertionSort ltInt d a b∧SA sl k X S w dk wr)
    case atStart=>exact ⟨i,rfl,hi1,hi2,Nat.le_refl _,HE.out,HA.out⟩
    case round =>
     clear HE HA hi1 hi2 x0 x1 hsk
     obtain ⟨i,rfl,hi1,hi2,hy,he,hA⟩:=hrel
     have x0:=hA.x0
     have x1:=hA.x1
     have hsk:=hA.size HC.out
     have HA:=qh hA;clear hA
     have HE:=qh he;clear he
     by_cases hib:i<b
     ·obtain ⟨i1,hi3⟩:∃ i1:Nat,i - 1=i1:=⟨_,rfl⟩
      have e6:(i:Int) - 1=(i1:Int):=by omega
      cases hb1:ltInt dk[i]! dk[i1]! with
      | false =>
        have HZ:=qh (xu6 (d:=dk) hib (by rw [hi3];exact hb1))
        have K:=qh (HA.out.lessB HC.out (i:=i) (j:=i1) (by omega) (by omega) hb1)
        clear hb1
        go_wp2_with (first | (go_at_call 83;refine K.out.mono ?_;rintro e w1 ⟨rfl,h1⟩;have HA:=qh h1;clear h1;have x0:=HA.out.x0;have x1:=HA.out.x1))
        go_roundg (b - (i+1))
        case measure=>omega
        case rel=>exact ⟨i+1,by go_num,by omega,by omega,Nat.le_refl _,by rw [← HE.out];unfold partialIns;rw [HZ.out],HA.out⟩
      | true =>
        have HB:=qh hb1
        have K:=qh (HA.out.lessB HC.out (i:=i) (j:=i1) (by omega) (by omega) hb1)
        clear hb1
        go_wp2_with (first | (go_at_call 83;refine K.out.mono ?_;rintro e w1 ⟨rfl,h1⟩;have HA:=qh h1;clear h1;have x0:=HA.out.x0;have x1:=HA.out.x1))
        go_meet
        case rel=>exact ⟨i,rfl,hi1,hi2,.inr (by rw [hi3];exact HB.out),HE.out,HA.out⟩
     ·go_wp2_with fail
      go_meet
      case rel=>exact ⟨i,rfl,hi1,hi2,.inl hib,HE.out,HA.out⟩
   case rest =>
    clear HE HA hi1 hi2 x0 x1 hsk
    obtain ⟨i,rfl,hi1,hi2,hst,he,hA⟩:=hcut
    have x0:=hA.x0
    have x1:=hA.x1
    have hsk:=hA.size HC.out
    have HA:=qh hA;clear hA
    rw [x09 (y76 hst)] at he
    by_cases hib:i=b
    ·rw [if_pos hib] at he
     have HE:=qh he;clear he hst
     have e7:(i:Int)=(b:Int):=by omega
     go_wp2_with fail
     go_ret
     rw [← HE.out]
     exact ⟨rfl,HA.out.s,HA.out.ap⟩
    ·rw [if_neg hib] at he
     have e7:¬ (i:Int)=(b:Int):=by omega
     by_cases h50:b - a<50
     ·rw [if_pos h50] at he
      have HE:=qh he;clear he hst
      have m3:(b:Int) - (a:Int)<50:=by omega
      go_wp2_with fail
      go_ret
      rw [← HE.out]
      exact ⟨rfl,HA.out.s,HA.out.ap⟩
     ·rw [if_neg h50] at he
      have m3:¬ (b:Int) - (a:Int)<50:=by omega
      obtain ⟨i1,hi3⟩:∃ i1:Nat,i - 1=i1:=⟨_,rfl⟩
      have e6:(i:Int) - 1=(i1:Int):=by omega
      rw [hi3] at he
      go_upto_region 11 with fail
      go_cut [] from 13 to 90 (fun wx=>SA sl k X S w (swp dk i i1) wx)
      case first =>
       obtain ⟨w2,hsw,h2⟩:=HA.out.swap HC.out (i:=i) (j:=i1) (by omega) (by omega)
       have HA:=qh h2;clear h2
       have y0:=HA.out.x0
       have y1:=HA.out.x1
       go_wp2_with fail
       go_meet
       case rel=>exact HA.out
      case rest =>
      clear HA x0 x1
      have hA:=hcut
      obtain ⟨dq,hdq⟩:∃ dq,swp dk i i1=dq:=⟨_,rfl⟩
      rw [hdq] at he hA
      have HE:=qh he;clear he hst hdq hcut hsk
      have x0:=hA.x0
      have x1:=hA.x1
      have hsk:=hA.size HC.out
      have HA:=qh hA;clear hA
      go_upto_if 47 with fail
      go_cut [] from 13 to 90 (fun wx=>∃ d2:Array Int,d2=ya7 a i dq∧SA sl k X S w d2 wx)
      case first =>
       by_cases h2:i - a ≥ 2
       ·have m2:(2:Int)≤(i:Int) - (a:Int):=by omega
        obtain ⟨j0,hj0⟩:∃ j0:Nat,i - 1=j0:=⟨_,rfl⟩
        obtain rfl:j0=i1:=hj0.symm.trans hi3
        have e5:(i:Int) - 1=(j0:Int):=by omega
        have HD:=qh (show ya7 a i dq=shiftDown ltInt j0 dq by unfold ya7;rw [if_pos h2,hj0])
        go_wp2_with fail
        go_loopg [9] j0 (fun z vj wr=>∃ (j:Nat) (dj:Array Int),vj = .int .i64 j∧j<i∧j≤z∧shiftDown ltInt j dj=shiftDown ltInt j0 dq∧SA sl k X S w dj wr)
        case atStart=>exact ⟨j0,dq,rfl,by omega,Nat.le_refl _,rfl,HA.out⟩
        case round =>
         clear HA x0 x1 hsk
         obtain ⟨j,dj,rfl,hj1,hz,hu,hA⟩:=hrel
         have x0:=hA.x0
         have x1:=hA.x1
         have hsk:=hA.size HC.out
         have HA:=qh hA;clear hA
         have HU:=qh hu;clear hu
         by_cases hg:1≤j
         ·obtain ⟨j1,hj3⟩:∃ j1:Nat,j - 1=j1:=⟨_,rfl⟩
          have e6:(j:Int) - 1=(j1:Int):=by omega
          cases hb:ltInt dj[j]! dj[j1]! with
          | false =>
            have HZ:=qh (zu6 (d:=dj) (j:=j) (.inr (by rw [hj3];exact hb)))
            have K:=qh (HA.out.lessB HC.out (i:=j) (j:=j1) (by omega) (by omega) hb)
            clear hb
            go_wp2_with (first | (go_at_call 83;refine K.out.mono ?_;rintro e w1 ⟨rfl,h1⟩;have HA:=qh h1;clear h1;have x0:=HA.out.x0;have x1:=HA.out.x1))
            go_meet
            case rel=>exact ⟨dj,by rw [HD.out,← HU.out,HZ.out],HA.out⟩
          | true =>
            have HZ:=qh (xu7 (d:=dj) (j:=j) hg (by rw [hj3];exact hb))
            rw [hj3] at HZ
            have K:=qh (HA.out.lessB HC.out (i:=j) (j:=j1) (by omega) (by omega) hb)
            clear hb
            go_wp2_with (first | (go_at_call 83;refine K.out.mono ?_;rintro e w1 ⟨rfl,h1⟩;have HA:=qh h1;clear h1;have x0:=HA.out.x0;have x1:=HA.out.x1;obtain ⟨w2,hsw,h2⟩:=HA.out.swap HC.out (i:=j) (j:=j1) (by omega) (by omega);have HA:=qh h2;clear h2;have y0:=HA.out.x0;have y1:=HA.out.x1))
            go_roundg (j1)
            case measure=>omega
            case rel=>exact ⟨j1,swp dj j j1,rfl,by omega,by omega,by rw [← HU.out,HZ.out],HA.out⟩
         ·have HZ:=qh (zu6 (d:=dj) (j:=j) (.inl (by omega)))
          go_wp2_with fail
          go_meet
          case rel=>exact ⟨dj,by rw [HD.out,← HU.out,HZ.out],HA.out⟩
       ·have m2:¬ (2:Int)≤(i:Int) - (a:Int):=by omega
        go_wp2_with fail
        go_meet
        case rel=>exact ⟨dq,by unfold ya7;rw [if_neg h2],HA.out⟩
      case rest =>
       clear HA x0 x1 hsk
       obtain ⟨d2,hd2,hA⟩:=hcut
       rw [← hd2] at HE
       clear hd2 dq
       revert HE
       generalize d2=dq at hA ⊢
       intro HE
       have x0:=hA.x0
       have x1:=hA.x1
       have hsk:=hA.size HC.out
       have HA:=qh hA;clear hA
       by_cases h2:b - i ≥ 2
       ·have m2:(2:Int)≤(b:Int) - (i:Int):=by omega
        obtain ⟨j0,hj0⟩:∃ j0:Nat,i+1=j0:=⟨_,rfl⟩
        have e5:(i:Int)+1=(j0:Int):=by omega
        have HD:=qh (show upN b i dq=shiftUp ltInt b j0 dq by unfold upN;rw [if_pos h2,hj0])
        go_wp2_with fail
        go_loopg [10] (b - j0) (fun z vj wr=>∃ (j:Nat) (dj:Array Int),vj = .int .i64 j∧i<j∧j≤b∧b - j≤z∧shiftUp ltInt b j dj=shiftUp ltInt b j0 dq∧SA sl k X S w dj wr)
        case atStart=>exact ⟨j0,dq,rfl,by omega,by omega,Nat.le_refl _,rfl,HA.out⟩
        case round =>
         clear HA x0 x1 hsk
         obtain ⟨j,dj,rfl,hj2,hj1,hz,hu,hA⟩:=hrel
         have x0:=hA.x0
         have x1:=hA.x1
         have hsk:=hA.size HC.out
         have HA:=qh hA;clear hA
         have HU:=qh hu;clear hu
         by_cases hg:j<b
         ·obtain ⟨j1,hj3⟩:∃ j1:Nat,j - 1=j1:=⟨_,rfl⟩
          have e6:(j:Int) - 1=(j1:Int):=by omega
          cases hb:ltInt dj[j]! dj[j1]! with
          | false =>
            have HZ:=qh (zi7 (b:=b) (d:=dj) (j:=j) (.inr (by rw [hj3];exact hb)))
            have K:=qh (HA.out.lessB HC.out (i:=j) (j:=j1) (by omega) (by omega) hb)
            clear hb
            go_wp2_with (first | (go_at_call 83;refine K.out.mono ?_;rintro e w1 ⟨rfl,h1⟩;have HA:=qh h1;clear h1;have x0:=HA.out.x0;have x1:=HA.out.x1))
            first | go_roundg (5 - (c+1)) | skip
            case measure=>omega
            case rel=>exact ⟨c+1,i,dj,rfl,by go_num,by omega,Nat.le_refl _,hi1,hi2,by rw [show 5 - (c+1)=s by omega];have h:=HE.out;rw [HD.out,← HU.out,HZ.out] at h;exact h,HA.out⟩
          | true =>
            have HZ:=qh (xu8 (b:=b) (d:=dj) (j:=j) hg (by rw [hj3];exact hb))
            rw [hj3] at HZ
            have K:=qh (HA.out.lessB HC.out (i:=j) (j:=j1) (by omega) (by omega) hb)
            clear hb
            go_wp2_with (first | (go_at_call 83;refine K.out.mono ?_;rintro e w1 ⟨rfl,h1⟩;have HA:=qh h1;clear h1;have x0:=HA.out.x0;have x1:=HA.out.x1;obtain ⟨w2,hsw,h2⟩:=HA.out.swap HC.out (i:=j) (j:=j1) (by omega) (by omega);have HA:=qh h2;clear h2;have y0:=HA.out.x0;have y1:=HA.out.x1))
            go_roundg (b - (j+1))
            case measure=>omega
            case rel=>exact ⟨j+1,swp dj j j1,by go_num,by omega,by omega,by omega,by rw [← HU.out,HZ.out],HA.out⟩
         ·have HZ:=qh (zi7 (b:=b) (d:=dj) (j:=j) (.inl hg))
          go_wp2_with fail
          first | go_roundg (5 - (c+1)) | skip
          case measure=>omega
          case rel=>exact ⟨c+1,i,dj,rfl,by go_num,by omega,Nat.le_refl _,hi1,hi2,by rw [show 5 - (c+1)=s by omega];have h:=HE.out;rw [HD.out,← HU.out,HZ.out] at h;exact h,HA.out⟩
       ·have m2:¬ (2:Int)≤(b:Int) - (i:Int):=by omega
        go_wp2_with fail
        go_roundg (5 - (c+1))
        case measure=>omega
        case rel=>exact ⟨c+1,i,dq,rfl,by go_num,by omega,Nat.le_refl _,hi1,hi2,by rw [show 5 - (c+1)=s by omega];have h:=HE.out;unfold upN at h;rw [if_neg h2] at h;exact h,HA.out⟩
  ·obtain rfl:c=5:=by omega
   have HE:=qh (show (dk,false)=partialInsertionSort ltInt d a b from he);clear he
   go_wp2_with fail
   go_ret
   rw [← HE.out]
   exact ⟨rfl,HA.out.s,HA.out.ap⟩
def vb6 (N:Nat):Prop:=∀ {sl:Value} {k n T:Nat} {S:Array Int→World→Prop} (_:z26 sl k n T S) (d:Array Int) (a b L:Nat) (w:World),b - a=N→S d w→a≤b→b≤n→n≤65535→L≤1000→Go.Sort.Below ltInt a b d →
 Calls Tryz.prog 139 #[.agg #[g6 sl,b6 sl],.int .i64 a,.int .i64 b,.int .i64 L] w (zw1 k S (fun d'=>PermIn a b d d'∧SortedIn ltInt a b d') w)
set_option maxRecDepth 100000 in
set_option maxHeartbeats 20000000 in
theorem v93 (N:Nat):vb6 N:=by
 induction N using Nat.strongRecOn with
 | ind N ih =>
 intro sl k n T S C d a0 b0 L0 w hN hS hab hb hn hL0 hbel
 have IH:=qh ih;clear ih
 obtain ⟨hsz,hkT,hTW⟩:=C.size _ _ hS
 have HS0:=qh (PS.start hab (show b0≤d.size by omega) hbel);clear hbel
 have hA0:=SA.start C hS
 obtain ⟨X,hX⟩:∃ X,w.heap.size=X:=⟨_,rfl⟩
 obtain ⟨W0,hW0⟩:∃ W0,w.alloc (.cells #[g6 sl,b6 sl] 174)=W0:=⟨_,rfl⟩
 rw [hX,hW0] at hA0
 have x0:=hA0.x0
 have x1:=hA0.x1
 have HA:=qh hA0
 have hag:=Tryz.isAgg174
 clear hA0 hS
 go_enter Tryz.func139,Tryz.ntmps139
 go_wp2_with fail
 go_loopg [1,2,3,8,9] (b0 - a0) (fun z va vb vl v8 v9 wr=>∃ (a b L:Nat) (wb wp:Bool) (dk:Array Int),va = .int .i64 a∧vb = .int .i64 b∧vl = .int .i64 L∧v8 = .bool wb∧v9 = .bool wp∧b - a≤z∧L≤1000∧PS a0 b0 a b d dk∧SA sl k X S w dk wr)
 case atStart=>exact ⟨a0,b0,L0,true,true,d,rfl,rfl,rfl,rfl,rfl,Nat.le_refl _,hL0,HS0.out,HA.out⟩
 case round =>
  clear HA x0 x1
  obtain ⟨a,b,L,wb,wp,dk,rfl,rfl,rfl,rfl,rfl,hz,hL,hst,hr⟩:=hrel
  have b1:=hst.b1
  have b2:=hst.b2
  have b3:=hst.b3
  have hs:dk.size=d.size:=hst.size
  have HS:=qh hst
  have x0:=hr.x0
  have x1:=hr.x1
  have HR:=qh hr;clear hr
  clear hst HS0
  obtain ⟨l,hl⟩:∃ l:Nat,b - a=l:=⟨_,rfl⟩
  have e1:(b:Int) - (a:Int)=(l:Int):=by omega
  by_cases h12:l≤12
  ·go_wp2_with (go_at_call 194;refine (HR.out.run (xe9 C dk a b wr HR.out.s (by omega) (by omega) (by omega))).mono ?_;rintro e w1 ⟨rfl,d1,hp,hr⟩)
   (try simp only [Exit.inBlock,Exit.then]);refine bodyPost_ret (results_none rfl _ _ _) rfl ?_
   exact hr.done (HS.out.done hp.1 hp.2)
  ·by_cases hL1:L=0
   ·subst hL1
    go_wp2_with (go_at_call 195;refine (HR.out.run (v05 C dk a b wr HR.out.s (by omega) (by omega) (by omega))).mono ?_;rintro e w1 ⟨rfl,d1,hp,hr⟩)
    (try simp only [Exit.inBlock,Exit.then]);refine bodyPost_ret (results_none rfl _ _ _) rfl ?_
    exact hr.done (HS.out.done hp.1 hp.2)
   ·have e2:((L:Int) == 0)=false:=by simpa using hL1
    go_upto_if 35 with fail
    go_cut [3] from 19 (fun s3 wx=>∃ (L1:Nat) (d1:Array Int),s3 = .int .i64 L1∧L1≤1000∧PS a0 b0 a b d d1∧SA sl k X S w d1 wx)
    case first =>
     cases wb with
     | true =>
       go_wp2_with fail
       go_meet
       case rel=>exact ⟨L,dk,rfl,hL,HS.out,HR.out⟩
     | false =>
       have e3:(L:Int) - 1=((L - 1:Nat):Int):=by omega
       go_wp2_with (go_at_call 196;refine (HR.out.run (wt5 C dk a b wr HR.out.s (by omega) (by omega) (by omega))).mono ?_;rintro e w1 ⟨rfl,d1,hp,hr⟩;have HR:=qh (hr);clear hr;have HS:=qh (HS.out.step hp);clear hp)
       go_meet
       case rel=>exact ⟨L - 1,d1,by first | rfl | rw [e3],by omega,HS.out,HR.out⟩
    case rest =>
     clear HS HR hs hL hL1 e2 x0 x1
     obtain ⟨L,d1,rfl,hL,hst,hr⟩:=hcut
     have hs:d1.size=d.size:=hst.size
     have HS:=qh hst;clear hst
     have x0:=hr.x0
     have x1:=hr.x1
     have HR:=qh hr;clear hr
     have K:=qh (wt4 C d1 a b wc HR.out.s (by omega) (by omega) (by omega))
     go_upto_if 50 with (go_at_call 197;refine K.out.mono ?_;rintro e w4 ⟨q,h,rfl,hq1,hq2,hh,hb4⟩;have hr:=HR.out.below C hb4;have x0:=hr.x0;have x1:=hr.x1;have HR:=qh hr;clear hr;clear hb4)
     go_cut [11,12] from 19 (fun s11 s12 wx=>∃ (q:Nat) (h:Int) (d1:Array Int),s11 = .int .i64 q∧s12 = .int .i64 h∧a≤q∧q<b∧(h=0∨h=1)∧PS a0 b0 a b d d1∧SA sl k X S w d1 wx)
     case first =>
      rcases hh with rfl | rfl | rfl
      ·go_wp2_with fail
       go_meet
       case rel=>exact ⟨q,0,d1,rfl,rfl,hq1,hq2,.inl rfl,HS.out,HR.out⟩
      ·go_wp2_with fail
       go_meet
       case rel=>exact ⟨q,1,d1,rfl,rfl,hq1,hq2,.inr rfl,HS.out,HR.out⟩
      ·obtain ⟨q5,hq5⟩:∃ q5:Nat,b - 1 - (q - a)=q5:=⟨_,rfl⟩
       have e4:(b:Int) - 1 - ((q:Int) - (a:Int))=(q5:Int):=by omega
       have hq51:a≤q5∧q5<b:=by omega
       clear hq5 K
       go_wp2_with (go_at_call 198;refine (HR.out.run (w45 C d1 a b w4 HR.out.s (by omega) (by omega) (by omega))).mono ?_;rintro e w5 ⟨rfl,d5,hp,hr⟩;have HR:=qh (hr);clear hr;have HS:=qh (HS.out.step hp);clear hp)
       go_meet
       case rel=>exact ⟨q5,1,d5,rfl,rfl,hq51.1,hq51.2,.inr rfl,HS.out,HR.out⟩
     case rest =>
      clear HS HR hs K hq1 hq2 hh h q x0 x1
      obtain ⟨q,h,d2,rfl,rfl,hq1,hq2,hh,hst,hr⟩:=hcut
      have hs:d2.size=d.size:=hst.size
      have HS:=qh hst;clear hst
      have x0:=hr.x0
      have x1:=hr.x1
      have HR:=qh hr;clear hr
      go_upto_region 16 with fail
      go_cut [12,68] from 19 (fun s12 s68 wx=>s12 = .int .i64 h∧(∃ x,s68 = .bool x)∧wx=wc)
      case first =>
       rcases hh with rfl | rfl <;> cases wb <;> cases wp <;>
              (go_wp2_with fail
               go_meet
               exact ⟨rfl,⟨_,rfl⟩,rfl⟩)
      case rest =>
       obtain ⟨rfl,⟨x,rfl⟩,rfl⟩:=hcut
       go_upto_if 68 with fail
       go_cut [] from 19 (fun wx=>∃ d1:Array Int,PS a0 b0 a b d d1∧SA sl k X S w d1 wx)
       case first =>
              cases x with
              | false =>
                go_wp2_with fail
                go_meet
                case rel=>exact ⟨d2,HS.out,HR.out⟩
              | true =>
                have HPI:=qh (partialInsertionSort_holds swo_ltInt d2 a b (by omega) (by omega) HS.out.below)
                have K0:=w46 C d2 a b wc HR.out.s (by omega) (by omega) (by omega)
                obtain ⟨y,hy⟩:∃ y,(partialInsertionSort ltInt d2 a b).2=y:=⟨_,rfl⟩
                obtain ⟨d6,hd6⟩:∃ d6,(partialInsertionSort ltInt d2 a b).1=d6:=⟨_,rfl⟩
                rw [hy,hd6] at K0 HPI
                have K:=qh K0;clear K0 hy hd6
                cases y with
                | false =>
                  go_wp2_with (go_at_call 199;refine K.out.mono ?_;rintro e w6 ⟨rfl,hr⟩)
                  go_meet
                  case rel=>exact ⟨d6,HS.out.step HPI.out.1,HR.out.call hr.1 hr.2⟩
                | true =>
                  go_wp2_with (go_at_call 199;refine K.out.mono ?_;rintro e w6 ⟨rfl,hr⟩)
                  (try simp only [Exit.inBlock,Exit.then]);refine bodyPost_ret (results_none rfl _ _ _) rfl ?_
                  exact (HR.out.call hr.1 hr.2).done (HS.out.done HPI.out.1 (HPI.out.2 (by first | rfl | trivial)))
       case rest =>
              clear HS HR hs x0 x1
              obtain ⟨d3,hst,hr⟩:=hcut
              have hs:d3.size=d.size:=hst.size
              have HS:=qh hst;clear hst
              have x0:=hr.x0
              have x1:=hr.x1
              have HR:=qh hr;clear hr
              go_upto_region 18 with fail
              go_cut [83] from 19 (fun s wx=>∃ y:Bool,s = .bool y∧(y=true→0<a∧ltInt d3[a - 1]! d3[q]! = false)∧SA sl k X S w d3 wx)
              case first =>
               have l1:a - 1<d.size:=by omega
               have l2:q<d.size:=by omega
               by_cases ha0:0<a
               ·obtain ⟨a1,ha1⟩:∃ a1:Nat,a - 1=a1:=⟨_,rfl⟩
                have e5:(a:Int) - 1=(a1:Int):=by omega
                have K:=qh (HR.out.less C (i:=a1) (j:=q) (by omega) (by omega))
                obtain ⟨y,hy⟩:∃ y,ltInt d3[a1]! d3[q]! = y:=⟨_,rfl⟩
                rw [hy] at K
                have HY:=qh (show ltInt d3[a - 1]! d3[q]! = y by rw [ha1];exact hy)
                clear hy ha1
                cases y with
                | false =>
                  go_wp2_with (go_at_call 83;refine K.out.mono ?_;rintro e w7 ⟨rfl,hr⟩)
                  go_meet
                  case rel=>exact ⟨true,rfl,fun _=>⟨ha0,HY.out⟩,hr⟩
                | true =>
                  go_wp2_with (go_at_call 83;refine K.out.mono ?_;rintro e w7 ⟨rfl,hr⟩)
                  go_meet
                  case rel=>exact ⟨false,rfl,fun h=>(by cases h),hr⟩
               ·go_wp2_with fail
                go_meet
                case rel=>exact ⟨false,rfl,fun h=>(by cases h),HR.out⟩
              case rest =>
               clear HR x0 x1
               obtain ⟨y,rfl,hy,hr⟩:=hcut
               have x0:=hr.x0
               have x1:=hr.x1
               have HR:=qh hr;clear hr
               cases y with
               | true =>
                 obtain ⟨ha0,hb1⟩:=hy rfl
                 have HEQ:=qh (fun mid d4 hf=>HS.out.eqs (q:=q) (mid:=mid) (d4:=d4) ha0 hq1 hq2 hb1 hf)
                 have K:=qh (wi5 C d3 a b q wc HR.out.s hq1 hq2 (by omega) (by omega))
                 clear hb1 hy
                 go_wp2_with (go_at_call 200;refine K.out.mono ?_;rintro e w8 ⟨mid,d8,rfl,hf8,hr⟩)
                 have HS9:=qh (HEQ.out mid d8 hf8)
                 go_roundg (b - mid)
                 case measure=>have:=hf8.1;have:=hf8.2.1;omega
                 case rel=>exact ⟨mid,b,L,_,_,d8,rfl,rfl,rfl,rfl,rfl,Nat.le_refl _,hL,HS9.out,HR.out.call hr.1 hr.2⟩
               | false =>
                 clear hy
                 have K:=qh (v09 C d3 a b q wc HR.out.s hq1 hq2 (by omega) (by omega))
                 go_upto_if 109 with (go_at_call 201;refine K.out.mono ?_;rintro e w8 ⟨mid,x,d8,rfl,hf8,hr⟩;have HF:=qh hf8;have hm1:=hf8.1;have hm2:=hf8.2.1;have hs8:d8.size=d.size:=(by rw [hf8.2.2.1.1];exact hs);clear hf8;have hr:=HR.out.call hr.1 hr.2;have x0:=hr.x0;have x1:=hr.x1;have HR:=qh hr;clear hr)
                 clear K
                 by_cases hlr:mid - a<b - mid
                 ·have hlr':(mid:Int) - (a:Int)<(b:Int) - (mid:Int):=by omega
                  have HNX:=qh (HS.out.left HF.out).2
                  have K:=qh (HR.out.run (IH.out (mid - a) (by omega) C d8 a mid L w8 rfl HR.out.s hm1 (by omega) hn hL (HS.out.left HF.out).1))
                  go_wp2_with (go_at_call 139;refine K.out.mono ?_;rintro e w9 ⟨rfl,d9,hp,hr⟩)
                  have HS9:=qh (HNX.out d9 hp.1 hp.2)
                  go_roundg (b - (mid+1))
                  case measure=>omega
                  case rel=>exact ⟨mid+1,b,L,_,x,d9,by go_num,rfl,rfl,rfl,rfl,Nat.le_refl _,hL,HS9.out,hr⟩
                 ·have hlr':¬ (mid:Int) - (a:Int)<(b:Int) - (mid:Int):=by omega
                  obtain ⟨m1,hm3⟩:∃ m1:Nat,mid+1=m1:=⟨_,rfl⟩
                  have HRT:=HS.out.right HF.out
                  rw [hm3] at HRT
                  have HNX:=qh HRT.2
                  have K:=qh (HR.out.run (IH.out (b - m1) (by omega) C d8 m1 b L w8 rfl HR.out.s (by omega) (by omega) hn hL HRT.1))
                  have e9:(mid:Int)+1=(m1:Int):=by omega
                  clear HRT
                  go_wp2_with (go_at_call 139;refine K.out.mono ?_;rintro e w9 ⟨rfl,d9,hp,hr⟩)
                  have HS9:=qh (HNX.out d9 hp.1 hp.2)
                  go_roundg (mid - a)
                  case measure=>omega
                  case rel=>exact ⟨a,mid,L,_,x,d9,rfl,rfl,rfl,rfl,rfl,Nat.le_refl _,hL,HS9.out,hr⟩
theorem xc1 (hn:n≤65535):wl1 n:=fun _ _ _ _ C d w hS=>v93 n C d 0 n (Lib.bitLen n) w (by omega) hS (Nat.zero_le _) (Nat.le_refl _) hn (Nat.le_trans (zo2 (x:=n) (by omega)).2.2 (by decide)) (.inl rfl)
end
end Go.Proofs.YtchndljcahjldaaGreatDoor
