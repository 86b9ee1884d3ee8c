/- sort.Slice by a comparison that makes blocks: the world while it sorts. -/
import Derived.Test.YtchndljcahjldaaGreatDoorMZSort
namespace Go.Proofs.YtchndljcahjldaaGreatDoor
section
open Go.RowKit Go.Lib
open Go.Sort hiding Below
structure SA (sl:Value) (k X:Nat) (S:Array Int→World→Prop) (w:World) (d:Array Int) (W:World):Prop where
 s:S d W
 ap:y5 (fun j=>j=k) w W
 x0:W.cell? ⟨X,0,none⟩=some (g6 sl)
 x1:W.cell? ⟨X,1,none⟩=some (b6 sl)
 ne:¬ X=k
section
variable {sl:Value} {k n T X:Nat} {S:Array Int→World→Prop} {w W W1:World} {d d1:Array Int}
theorem SA.start (C:z26 sl k n T S) (hS:S d w):SA sl k w.heap.size S w d (w.alloc (.cells #[g6 sl,b6 sl] 174)):=by
 have hb:=z8 w (.cells #[g6 sl,b6 sl] 174)
 obtain ⟨_,hk,hT⟩:=C.size _ _ hS
 exact ⟨C.below _ _ _ hS hb,y5.of_below _ hb,by simp,by simp,by omega⟩
theorem SA.below (C:z26 sl k n T S) (h:SA sl k X S w d W) (hb:Below W.heap.size W W1):SA sl k X S w d W1:=
 ⟨C.below _ _ _ h.s hb,h.ap.trans (y5.of_below _ hb),z6 h.x0 hb,z6 h.x1 hb,h.ne⟩
theorem SA.call (h:SA sl k X S w d W) (hs:S d1 W1) (ha:y5 (fun j=>j=k) W W1):SA sl k X S w d1 W1:=⟨hs,h.ap.trans ha,ha.cell h.x0 h.ne,ha.cell h.x1 h.ne,h.ne⟩
theorem SA.less (C:z26 sl k n T S) (h:SA sl k X S w d W) {i j:Nat} (hi:i<n) (hj:j<n) :
 Calls Tryz.prog 83 #[sl,.int .i64 i,.int .i64 j] W (fun e W1=>e = .returned (.bool (ltInt d[i]! d[j]!))∧SA sl k X S w d W1):=
 (C.less d W i j h.s hi hj).mono fun _ _ he=>⟨he.1,h.below C he.2⟩
theorem SA.lessB (C:z26 sl k n T S) (h:SA sl k X S w d W) {i j:Nat} (hi:i<n) (hj:j<n) {x:Bool} (hx:ltInt d[i]! d[j]! = x) :
 Calls Tryz.prog 83 #[sl,.int .i64 i,.int .i64 j] W (fun e W1=>e = .returned (.bool x)∧SA sl k X S w d W1):=hx ▸ h.less C hi hj
theorem SA.swap (C:z26 sl k n T S) (h:SA sl k X S w d W) {i j:Nat} (hi:i<n) (hj:j<n) :
 ∃ W1,(callFunc 193 #[.int .i64 i,.int .i64 j,sl,typeHandle Tryz.prog 46]).run Tryz.prog W = .ok (.value (.tuple #[])) W1∧SA sl k X S w (swp d i j) W1:=by
 obtain ⟨W1,h1,h2,h3⟩:=C.swap d W i j h.s hi hj
 exact ⟨W1,h1,h.call h2 h3⟩
theorem SA.size (C:z26 sl k n T S) (h:SA sl k X S w d W):d.size=n:=(C.size _ _ h.s).1
theorem SA.run (h:SA sl k X S w d W) {f:FuncId} {args:Array Value} {R:Array Int→Prop} (K:Calls Tryz.prog f args W (zw1 k S R W)):Calls Tryz.prog f args W (fun e W1=>e = .returned (.tuple #[])∧∃ d',R d'∧SA sl k X S w d' W1):=
 K.mono fun _ _ ⟨he,d',h1,h2,h3⟩=>⟨he,d',h1,h.call h2 h3⟩
theorem SA.done (h:SA sl k X S w d W) {R:Array Int→Prop} (hR:R d):zw1 k S R w (.returned (.tuple #[])) W:=⟨rfl,d,hR,h.s,h.ap⟩
end
end
section
open Go.RowKit Go.Lib
open Go.Sort hiding Below
variable {sl:Value} {k n T c X:Nat} {w W W1:World} {d:Array Int}
set_option maxRecDepth 100000 in
set_option maxHeartbeats 4000000 in
theorem w45 {S:Array Int→World→Prop} (C:z26 sl k n T S) (d:Array Int) (a b:Nat) (w:World) (hS:S d w) (hab:a≤b) (hb:b≤n) (hn:n≤1000000) :
 Calls Tryz.prog 198 #[.agg #[g6 sl,b6 sl],.int .i64 a,.int .i64 b] w (zw1 k S (PermIn a b d) w):=by
 obtain ⟨hsz,hkT,hTW⟩:=C.size _ _ hS
 have hA0:=SA.start C hS
 obtain ⟨X,hX⟩:∃ X,w.heap.size=X:=⟨_,rfl⟩
 obtain ⟨W0,hW0⟩:∃ W0,w.alloc (.cells #[g6 sl,b6 sl] 174)=W0:=⟨_,rfl⟩
 rw [hX,hW0] at hA0
 have x0:=hA0.x0
 have x1:=hA0.x1
 have HA:=qh hA0
 have HC:=qh C
 have hag:=Tryz.isAgg174
 clear hA0 hS C
 go_enter Tryz.func198,Tryz.ntmps198
 go_wp2_with fail
 go_loopw [6,7] (fun vi vj wr=>∃ (i:Nat) (j:Int) (dk:Array Int),vi = .int .i64 i∧vj = .int .i64 j∧a≤i∧i≤b ∧ -1≤j∧j<b∧PermIn a b d dk∧SA sl k X S w dk wr) (fun _ vj _=>(intOf vj+1).toNat)
 case atStart=>exact ⟨a,(b:Int) - 1,d,rfl,rfl,Nat.le_refl _,hab,by omega,by omega,permIn_refl _ _ _,HA.out⟩
 case round =>
  clear HA x0 x1
  obtain ⟨i,j,dk,rfl,rfl,h1,h2,h3,h4,hp,hA⟩:=hrel
  have x0:=hA.x0
  have x1:=hA.x1
  have hsk:=hA.size HC.out
  have HA:=qh hA;clear hA
  have HP:=qh hp;clear hp
  by_cases hlt:(i:Int)<j
  ·obtain ⟨j,rfl⟩:∃ n:Nat,j=(n:Int):=⟨j.toNat,by omega⟩
   obtain ⟨w2,hsw,h2⟩:=HA.out.swap HC.out (i:=i) (j:=j) (by omega) (by omega)
   have HA:=qh h2;clear h2
   have y0:=HA.out.x0
   have y1:=HA.out.x1
   go_wp2_with fail
   go_roundw
   case rel=>exact ⟨i+1,(j:Int) - 1,swp dk i j,by go_num,by first | rfl | go_num,by omega,by omega,by omega,by omega,permIn_trans _ _ _ _ _ HP.out (swp_permIn _ _ _ _ _ (by omega) (by omega) (by omega) (by omega) (by omega)),HA.out⟩
   case measure=>simp [intOf] <;> omega
  ·go_wp2_with fail
   go_end0
   exact HA.out.done HP.out
set_option maxRecDepth 100000 in
set_option maxHeartbeats 4000000 in
theorem v04 {S:Array Int→World→Prop} (C:z26 sl k n T S) (d:Array Int) (lo hi f:Nat) (w:World) (hS:S d w) (hf:f+hi≤n) (hlo:lo≤n) (hn:n≤1000000) :
 Calls Tryz.prog 228 #[.agg #[g6 sl,b6 sl],.int .i64 lo,.int .i64 hi,.int .i64 f] w (zw1 k S (fun d'=>d'=siftDown ltInt hi f lo d) w):=by
 obtain ⟨hsz,hkT,hTW⟩:=C.size _ _ hS
 have hA0:=SA.start C hS
 obtain ⟨X,hX⟩:∃ X,w.heap.size=X:=⟨_,rfl⟩
 obtain ⟨W0,hW0⟩:∃ W0,w.alloc (.cells #[g6 sl,b6 sl] 174)=W0:=⟨_,rfl⟩
 rw [hX,hW0] at hA0
 have x0:=hA0.x0
 have x1:=hA0.x1
 have HA:=qh hA0
 have HC:=qh C
 have hag:=Tryz.isAgg174
 clear hA0 hS C
 go_enter Tryz.func228,Tryz.ntmps228
 go_wp2_with fail
 go_loopg [8] (n - lo) (fun z vr wr=>∃ (r:Nat) (dk:Array Int),vr = .int .i64 r∧r≤n∧n - r≤z∧siftDown ltInt hi f r dk=siftDown ltInt hi f lo d∧SA sl k X S w dk wr)
 case atStart=>exact ⟨lo,d,rfl,hlo,Nat.le_refl _,rfl,HA.out⟩
 case round =>
  clear HA x0 x1
  obtain ⟨r,dk,rfl,h1,hz,he,hA⟩:=hrel
  have x0:=hA.x0
  have x1:=hA.x1
  have hsk:=hA.size HC.out
  have HA:=qh hA;clear hA
  have HE:=qh he;clear he
  by_cases hend:hi≤2*r+1
  ·have HZ:=qh (yu2 hi f r dk hend)
   have hend2:(hi:Int)≤2*(r:Int)+1:=by omega
   go_wp2_with fail
   go_end0
   exact HA.out.done (by rw [← HE.out,HZ.out])
  ·obtain ⟨c1,hc1⟩:∃ c1:Nat,2*r+1=c1:=⟨_,rfl⟩
   obtain ⟨p,hp⟩:∃ p:Nat,f+r=p:=⟨_,rfl⟩
   obtain ⟨p1,hp1⟩:∃ p1:Nat,f+c1=p1:=⟨_,rfl⟩
   obtain ⟨p2,hp2⟩:∃ p2:Nat,p1+1=p2:=⟨_,rfl⟩
   obtain ⟨c2,hc2⟩:∃ c2:Nat,c1+1=c2:=⟨_,rfl⟩
   have e1:2*(r:Int)+1=(c1:Int):=by omega
   have e2:(f:Int)+(r:Int)=(p:Int):=by omega
   have e3:(f:Int)+(c1:Int)=(p1:Int):=by omega
   have e4:(p1:Int)+1=(p2:Int):=by omega
   have e5:(c1:Int)+1=(c2:Int):=by omega
   have l2:(c1:Int)<(hi:Int):=by omega
   have b1:p<n:=by omega
   have b2:p1<n:=by omega
   have HCH:Hid (∀ c p3,f+c=p3→((c2<hi∧ltInt dk[p1]! dk[p2]! = true∧c=c2)∨((c2<hi→ltInt dk[p1]! dk[p2]! = false)∧c=c1))→r<c∧c<hi∧(ltInt dk[p]! dk[p3]! = false→siftDown ltInt hi f r dk=dk)∧(ltInt dk[p]! dk[p3]! = true→siftDown ltInt hi f r dk=siftDown ltInt hi f c (swp dk p p3))):=qh fun c p3 h3 hc=>by
    have:=yl7 (d:=dk) (c:=c) (f:=f) hend (by
     rw [hc1,hp1,hp2]
     rcases hc with ⟨a1,a2,a3⟩ | ⟨a1,a2⟩
     ·exact .inl ⟨by omega,a2,by omega⟩
     ·exact .inr ⟨fun h=>a1 (by omega),a2⟩)
    rw [hp,h3] at this
    exact ⟨this.2.1,this.1,this.2.2⟩
   have HF:=qh (And.intro (show f+c1=p1 from hp1) (show f+c2=p2 by omega))
   have HL:Hid (c2<hi→p2<n):=qh fun h=>by omega
   clear hend hc1 hp hp1 hp2 hc2
   go_upto_region 4 with fail
   go_cut [32] from 11 to 54 (fun s32 wx=>(∃ x:Bool,s32 = .bool x∧(x=true→c2<hi∧ltInt dk[p1]! dk[p2]! = true)∧(x=false→c2<hi→ltInt dk[p1]! dk[p2]! = false))∧SA sl k X S w dk wx)
   case first =>
    by_cases h2:c2<hi
    ·have h2':(c2:Int)<(hi:Int):=by omega
     obtain ⟨y,hy⟩:∃ y,ltInt dk[p1]! dk[p2]! = y:=⟨_,rfl⟩
     have K:=qh (HA.out.lessB HC.out (i:=p1) (j:=p2) (by omega) (HL.out h2) hy)
     have HY:=qh hy;clear hy
     go_wp2_with (go_at_call 83;refine K.out.mono ?_;rintro e w1 ⟨rfl,h1⟩)
     go_meet
     case rel=>exact ⟨⟨y,rfl,fun h=>⟨h2,HY.out.trans h⟩,fun h _=>HY.out.trans h⟩,by assumption⟩
    ·have h2':¬ (c2:Int)<(hi:Int):=by omega
     go_wp2_with fail
     go_meet
     case rel=>exact ⟨⟨false,rfl,fun h=>(by cases h),fun _ h=>absurd h h2⟩,HA.out⟩
   case rest =>
    clear HA x0 x1
    obtain ⟨⟨x,rfl,hx1,hx2⟩,hA⟩:=hcut
    have x0:=hA.x0
    have x1:=hA.x1
    have hsk:=hA.size HC.out
    have HA:=qh hA;clear hA
    go_upto_if 32 with fail
    go_cut [9] from 11 to 54 (fun s9 wx=>(∃ c p3:Nat,s9 = .int .i64 c∧f+c=p3∧p3<n∧r<c∧c<hi∧(ltInt dk[p]! dk[p3]! = false→siftDown ltInt hi f r dk=dk)∧(ltInt dk[p]! dk[p3]! = true→siftDown ltInt hi f r dk=siftDown ltInt hi f c (swp dk p p3)))∧SA sl k X S w dk wx)
    case first =>
     cases x with
     | true =>
       obtain ⟨h2,hb⟩:=hx1 rfl
       have HX:=qh (HCH.out c2 p2 HF.out.2 (.inl ⟨h2,hb,rfl⟩))
       have h3:=HL.out h2
       clear hx1 hx2 hb
       go_wp2_with fail
       go_meet
       case rel=>exact ⟨⟨c2,p2,rfl,HF.out.2,h3,HX.out⟩,HA.out⟩
     | false =>
       have HX:=qh (HCH.out c1 p1 HF.out.1 (.inr ⟨hx2 rfl,rfl⟩))
       clear hx1 hx2
       go_wp2_with fail
       go_meet
       case rel=>exact ⟨⟨c1,p1,rfl,HF.out.1,b2,HX.out⟩,HA.out⟩
    case rest =>
     clear HA x0 x1 hx1 hx2
     obtain ⟨⟨c,p3,rfl,h3,h4,hrc,hch,q3,q4⟩,hA⟩:=hcut
     have x0:=hA.x0
     have x1:=hA.x1
     have hsk:=hA.size HC.out
     have HA:=qh hA;clear hA
     have e7:(f:Int)+(c:Int)=(p3:Int):=by omega
     cases hbb:ltInt dk[p]! dk[p3]! with
     | false =>
       have HZ:=qh (q3 hbb);clear q3 q4
       have K:=qh (HA.out.lessB HC.out (i:=p) (j:=p3) (by omega) (by omega) hbb)
       clear hbb
       go_wp2_with (first | (go_at_call 83;refine K.out.mono ?_;rintro e w1 ⟨rfl,h1⟩;have HA:=qh h1;clear h1;have x0:=HA.out.x0;have x1:=HA.out.x1))
       (try simp only [Exit.inBlock,Exit.then]);refine bodyPost_ret (results_none rfl _ _ _) rfl ?_
       exact HA.out.done (by rw [← HE.out,HZ.out])
     | true =>
       have HZ:=qh (q4 hbb);clear q3 q4
       have K:=qh (HA.out.lessB HC.out (i:=p) (j:=p3) (by omega) (by omega) hbb)
       clear hbb
       go_wp2_with (first | (go_at_call 83;refine K.out.mono ?_;rintro e w1 ⟨rfl,h1⟩;have HA:=qh h1;clear h1;have x0:=HA.out.x0;have x1:=HA.out.x1;obtain ⟨w2,hsw,h2⟩:=HA.out.swap HC.out (i:=p) (j:=p3) (by omega) (by omega);have HA:=qh h2;clear h2;have y0:=HA.out.x0;have y1:=HA.out.x1))
       go_roundg (n - c)
       case measure=>omega
       case rel=>exact ⟨c,swp dk p p3,rfl,by omega,Nat.le_refl _,by rw [← HE.out,HZ.out],HA.out⟩
set_option maxRecDepth 100000 in
set_option maxHeartbeats 4000000 in
theorem v05 {S:Array Int→World→Prop} (C:z26 sl k n T S) (d:Array Int) (a b:Nat) (w:World) (hS:S d w) (hab:a≤b) (hb:b≤n) (hn:n≤1000000) :
 Calls Tryz.prog 195 #[.agg #[g6 sl,b6 sl],.int .i64 a,.int .i64 b] w (zw1 k S (fun d'=>PermIn a b d d'∧SortedIn ltInt a b d') w):=by
 obtain ⟨hsz,hkT,hTW⟩:=C.size _ _ hS
 have HFIN:Hid (PermIn a b d (heapSort ltInt d a b)∧SortedIn ltInt a b (heapSort ltInt d a b)):=qh (heapSort_holds swo_ltInt d a b hab (hsz ▸ hb))
 have KS:=qh (fun (dk:Array Int) (lo hi f:Nat) (W:World) (hS:S dk W) h1 h2=>v04 C dk lo hi f W hS h1 h2 hn)
 obtain ⟨m,hm⟩:∃ m:Nat,b - a=m:=⟨_,rfl⟩
 have e1:(b:Int) - (a:Int)=(m:Int):=by omega
 obtain ⟨q,hq⟩:∃ q:Nat,(m - 1) / 2+1=q:=⟨_,rfl⟩
 have e2:((m:Int) - 1).tdiv 2=(q:Int) - 1:=by
  rcases Nat.eq_zero_or_pos m with h | h
  ·subst h;rw [← hq];rfl
  ·rw [show (m:Int) - 1=((m - 1:Nat):Int) from by omega,show ((m - 1:Nat):Int).tdiv 2=(((m - 1) / 2:Nat):Int) from rfl];omega
 have HD:=qh (show heapSort ltInt d a b=heapPop ltInt a m (heapBuild ltInt m a q d) by unfold heapSort;rw [hm,hq])
 have hqn:q≤m+1:=by omega
 clear hq
 have hA0:=SA.start C hS
 obtain ⟨X,hX⟩:∃ X,w.heap.size=X:=⟨_,rfl⟩
 obtain ⟨W0,hW0⟩:∃ W0,w.alloc (.cells #[g6 sl,b6 sl] 174)=W0:=⟨_,rfl⟩
 rw [hX,hW0] at hA0
 have x0:=hA0.x0
 have x1:=hA0.x1
 have HA:=qh hA0
 have HC:=qh C
 have hag:=Tryz.isAgg174
 clear hA0 hS C
 go_enter Tryz.func195,Tryz.ntmps195
 go_wp2_with fail
 go_loopw [9] (fun vi wr=>∃ (q1:Nat) (z:Int) (dk:Array Int),vi = .int .i64 z∧z=(q1:Int) - 1∧q1≤q∧heapPop ltInt a m (heapBuild ltInt m a q1 dk)=heapSort ltInt d a b∧SA sl k X S w dk wr) (fun vi _=>(intOf vi+1).toNat)
 case atStart=>exact ⟨q,_,d,rfl,rfl,Nat.le_refl _,HD.out.symm,HA.out⟩
 case round =>
  clear HA x0 x1
  obtain ⟨q1,z,dk,rfl,hz,hk,he,hA⟩:=hrel
  have x0:=hA.x0
  have x1:=hA.x1
  have hsk:=hA.size HC.out
  have HA:=qh hA;clear hA
  have HE:=qh he;clear he
  cases q1 with
  | zero =>
    obtain rfl:z = -1:=by omega
    clear hz
    go_wp2_with fail
    obtain ⟨z2,hz2⟩:∃ z2,(m:Int) - 1=z2:=⟨_,rfl⟩
    rw [hz2]
    go_loopw [10] (fun vi wr=>∃ (q1:Nat) (z:Int) (dk:Array Int),vi = .int .i64 z∧z=(q1:Int) - 1∧q1≤m∧heapPop ltInt a q1 dk=heapSort ltInt d a b∧SA sl k X S w dk wr) (fun vi _=>(intOf vi+1).toNat)
    case atStart=>exact ⟨m,_,dk,rfl,hz2.symm,Nat.le_refl _,HE.out,HA.out⟩
    case round =>
     clear hsk HA HE hk x0 x1
     obtain ⟨q1,z,dk,rfl,hz,hk,he,hA⟩:=hrel
     have x0:=hA.x0
     have x1:=hA.x1
     have hsk:=hA.size HC.out
     have HA:=qh hA;clear hA
     cases q1 with
     | zero =>
       obtain rfl:z = -1:=by omega
       clear hz
       have HE:=qh he;clear he
       go_wp2_with fail
       go_end0
       refine HA.out.done ?_
       rw [show dk=heapSort ltInt d a b from HE.out]
       exact HFIN.out
     | succ q1 =>
       obtain rfl:z=(q1:Int):=by omega
       obtain ⟨p,hp⟩:∃ p:Nat,a+q1=p:=⟨_,rfl⟩
       have e3:(a:Int)+(q1:Int)=(p:Int):=by omega
       have HE:=qh (show heapPop ltInt a q1 (siftDown ltInt q1 a 0 (swp dk a p))=heapSort ltInt d a b by rw [← he,← hp];rfl)
       obtain ⟨w2,hsw,h2⟩:=HA.out.swap HC.out (i:=a) (j:=p) (by omega) (by omega)
       have HA:=qh h2;clear h2
       have y0:=HA.out.x0
       have y1:=HA.out.x1
       have K:=qh (HA.out.run (KS.out (swp dk a p) 0 q1 a _ HA.out.s (by omega) (by omega)))
       clear he hz hp
       go_wp2_with (first | (go_at_call 228;refine K.out.mono ?_;rintro e w3 ⟨rfl,d3,rfl,h3⟩;have HA:=qh h3;clear h3))
       go_roundw
       case rel=>exact ⟨q1,_,_,rfl,by omega,by omega,HE.out,HA.out⟩
       case measure=>simp [intOf] <;> omega
  | succ q1 =>
    obtain rfl:z=(q1:Int):=by omega
    clear hz
    have K:=qh (HA.out.run (KS.out dk q1 m a _ HA.out.s (by omega) (by omega)))
    go_wp2_with (first | (go_at_call 228;refine K.out.mono ?_;rintro e w3 ⟨rfl,d3,rfl,h3⟩;have HA:=qh h3;clear h3))
    go_roundw
    case rel=>exact ⟨q1,_,_,rfl,by omega,by omega,HE.out,HA.out⟩
    case measure=>simp [intOf] <;> omega
structure SB (sl:Value) (k T X c:Nat) (S:Array Int→World→Prop) (w:World) (d:Array Int) (W:World):Prop where
 s:S d W
 ct:CtU W c
 ap:y5 (fun j=>j=c) w W
 x0:W.cell? ⟨X,0,none⟩=some (g6 sl)
 x1:W.cell? ⟨X,1,none⟩=some (b6 sl)
 ne:¬ X=c
 tc:T≤c
theorem CtU.below {w':World} (h:CtU w c) (hb:Below w.heap.size w w'):CtU w' c:=⟨⟨_,z6 h.1.choose_spec hb⟩,x6 h.2 (World.block_lt_of_cell? w _ h.1.choose_spec) hb⟩
theorem SB.start {S:Array Int→World→Prop} (C:z26 sl k n T S) (hS:S d w) (hc:CtU w c) (ht:T≤c):SB sl k T w.heap.size c S w d (w.alloc (.cells #[g6 sl,b6 sl] 174)):=by
 have hb:=z8 w (.cells #[g6 sl,b6 sl] 174)
 have hl:=World.block_lt_of_cell? w _ hc.1.choose_spec
 dsimp only at hl
 exact ⟨C.below _ _ _ hS hb,hc.below hb,y5.of_below _ hb,by simp,by simp,by omega,ht⟩
theorem SB.below {S:Array Int→World→Prop} (C:z26 sl k n T S) (h:SB sl k T X c S w d W) (hb:Below W.heap.size W W1):SB sl k T X c S w d W1:=
 ⟨C.below _ _ _ h.s hb,h.ct.below hb,h.ap.trans (y5.of_below _ hb),z6 h.x0 hb,z6 h.x1 hb,h.ne,h.tc⟩
theorem SB.call {S:Array Int→World→Prop} (h:SB sl k T X c S w d W) (hs:S d W1) (hc:CtU W1 c) (ha:y5 (fun j=>j=c) W W1):SB sl k T X c S w d W1:=
 ⟨hs,hc,h.ap.trans ha,ha.cell h.x0 h.ne,ha.cell h.x1 h.ne,h.ne,h.tc⟩
def v06 (c:Nat) (S:Array Int→World→Prop) (d:Array Int) (w w':World):Prop:=S d w'∧CtU w' c∧y5 (fun j=>j=c) w w'
set_option maxRecDepth 100000 in
set_option maxHeartbeats 4000000 in
theorem yl5 {S:Array Int→World→Prop} (C:z26 sl k n T S) (d:Array Int) (a b c:Nat) (w:World) (hS:S d w) (hc:CtU w c) (ht:T≤c) (ha:a<n) (hb:b<n) :
 Calls Tryz.prog 249 #[.agg #[g6 sl,b6 sl],.int .i64 a,.int .i64 b,.pointer (some ⟨c,0,none⟩)] w (fun e w'=>(e = .returned (.tuple #[.int .i64 a,.int .i64 b])∨e = .returned (.tuple #[.int .i64 b,.int .i64 a]))∧v06 c S d w w'):=by
 have hB0:=SB.start C hS hc ht
 obtain ⟨X,hX⟩:∃ X,w.heap.size=X:=⟨_,rfl⟩
 obtain ⟨W0,hW0⟩:∃ W0,w.alloc (.cells #[g6 sl,b6 sl] 174)=W0:=⟨_,rfl⟩
 rw [hX,hW0] at hB0
 have x0:=hB0.x0
 have x1:=hB0.x1
 have HB:=qh hB0
 have HC:=qh C
 have hag:=Tryz.isAgg174
 clear hB0 hS C hc
 go_enter Tryz.func249,Tryz.ntmps249
 have K:=qh (HC.out.less d W0 b a HB.out.s hb ha)
 generalize ltInt d[b]! d[a]! = y at K
 go_wp2_with (go_at_call 83;refine K.out.mono ?_;rintro e w1 ⟨rfl,h1⟩;have HB:=qh (HB.out.below HC.out h1);clear h1;obtain ⟨⟨s,hs⟩,hf⟩:=HB.out.ct;cases y)
 ·go_ret2
  exact ⟨.inl rfl,HB.out.s,HB.out.ct,HB.out.ap⟩
 ·go_ret2
  exact ⟨.inr rfl,HC.out.keep _ _ _ HB.out.s (y5.set _ _ HB.out.tc),HB.out.ct.set _,HB.out.ap.trans (y5.set _ _ rfl)⟩
set_option maxRecDepth 100000 in
set_option maxHeartbeats 4000000 in
theorem yl6 {S:Array Int→World→Prop} (C:z26 sl k n T S) (d:Array Int) (a b e0 c:Nat) (w:World) (hS:S d w) (hc:CtU w c) (ht:T≤c) (ha:a<n) (hb:b<n) (he0:e0<n) :
 Calls Tryz.prog 232 #[.agg #[g6 sl,b6 sl],.int .i64 a,.int .i64 b,.int .i64 e0,.pointer (some ⟨c,0,none⟩)] w (fun e w'=>∃ m:Nat,e = .returned (.int .i64 m)∧(m=a∨m=b∨m=e0)∧v06 c S d w w'):=by
 have hB0:=SB.start C hS hc ht
 obtain ⟨X,hX⟩:∃ X,w.heap.size=X:=⟨_,rfl⟩
 obtain ⟨W0,hW0⟩:∃ W0,w.alloc (.cells #[g6 sl,b6 sl] 174)=W0:=⟨_,rfl⟩
 rw [hX,hW0] at hB0
 have x0:=hB0.x0
 have x1:=hB0.x1
 have HB:=qh hB0
 have HC:=qh C
 have hag:=Tryz.isAgg174
 clear hB0 hS C hc
 go_enter Tryz.func232,Tryz.ntmps232
 go_wp2_with fail
 refine (yl5 HC.out d a b c _ HB.out.s HB.out.ct HB.out.tc (by omega) (by omega)).mono ?_
 rintro e w1 ⟨he,h1,h2,h3⟩
 have HB:=qh (HB.out.call h1 h2 h3);clear h1 h2 h3
 have x0:=HB.out.x0
 have x1:=HB.out.x1
 obtain ⟨a1,b1,rfl,q1⟩:∃ u v:Nat,e = .returned (.tuple #[.int .i64 u,.int .i64 v])∧((u=a∧v=b)∨(u=b∧v=a)):=he.elim (fun h=>⟨_,_,h,.inl ⟨rfl,rfl⟩⟩) (fun h=>⟨_,_,h,.inr ⟨rfl,rfl⟩⟩)
 go_wp2_with fail
 refine (yl5 HC.out d b1 e0 c _ HB.out.s HB.out.ct HB.out.tc (by omega) (by omega)).mono ?_
 rintro e w2 ⟨he,h1,h2,h3⟩
 have HB:=qh (HB.out.call h1 h2 h3);clear h1 h2 h3
 have x0:=HB.out.x0
 have x1:=HB.out.x1
 obtain ⟨b2,c2,rfl,q2⟩:∃ u v:Nat,e = .returned (.tuple #[.int .i64 u,.int .i64 v])∧((u=b1∧v=e0)∨(u=e0∧v=b1)):=he.elim (fun h=>⟨_,_,h,.inl ⟨rfl,rfl⟩⟩) (fun h=>⟨_,_,h,.inr ⟨rfl,rfl⟩⟩)
 go_wp2_with fail
 refine (yl5 HC.out d a1 b2 c _ HB.out.s HB.out.ct HB.out.tc (by omega) (by omega)).mono ?_
 rintro e w3 ⟨he,h1,h2,h3⟩
 have HB:=qh (HB.out.call h1 h2 h3);clear h1 h2 h3
 have x0:=HB.out.x0
 have x1:=HB.out.x1
 obtain ⟨a3,b3,rfl,q3⟩:∃ u v:Nat,e = .returned (.tuple #[.int .i64 u,.int .i64 v])∧((u=a1∧v=b2)∨(u=b2∧v=a1)):=he.elim (fun h=>⟨_,_,h,.inl ⟨rfl,rfl⟩⟩) (fun h=>⟨_,_,h,.inr ⟨rfl,rfl⟩⟩)
 go_wp2_with fail
 go_ret
 exact ⟨b3,rfl,by omega,HB.out.s,HB.out.ct,HB.out.ap⟩
set_option maxRecDepth 100000 in
set_option maxHeartbeats 4000000 in
theorem zs4 {S:Array Int→World→Prop} (C:z26 sl k n T S) (d:Array Int) (a c:Nat) (w:World) (hS:S d w) (hc:CtU w c) (ht:T≤c) (ha0:1≤a) (ha:a+1<n) (hn:n≤1000000) :
 Calls Tryz.prog 231 #[.agg #[g6 sl,b6 sl],.int .i64 a,.pointer (some ⟨c,0,none⟩)] w (fun e w'=>∃ m:Nat,e = .returned (.int .i64 m)∧(a - 1≤m∧m≤a+1)∧v06 c S d w w'):=by
 have hB0:=SB.start C hS hc ht
 obtain ⟨X,hX⟩:∃ X,w.heap.size=X:=⟨_,rfl⟩
 obtain ⟨W0,hW0⟩:∃ W0,w.alloc (.cells #[g6 sl,b6 sl] 174)=W0:=⟨_,rfl⟩
 rw [hX,hW0] at hB0
 have x0:=hB0.x0
 have x1:=hB0.x1
 have HB:=qh hB0
 have HC:=qh C
 have hag:=Tryz.isAgg174
 clear hB0 hS C hc
 go_enter Tryz.func231,Tryz.ntmps231
 obtain ⟨a1,h1⟩:∃ a1:Nat,a - 1=a1:=⟨_,rfl⟩
 obtain ⟨a2,h2⟩:∃ a2:Nat,a+1=a2:=⟨_,rfl⟩
 have e1:(a:Int) - 1=(a1:Int):=by omega
 have e2:(a:Int)+1=(a2:Int):=by omega
 have K:=qh (yl6 HC.out d a1 a a2 c _ HB.out.s HB.out.ct HB.out.tc (by omega) (by omega) (by omega))
 have l1:a1≤1000000:=by omega
 have l2:a2≤1000000:=by omega
 have HE:=qh (And.intro h1 h2);clear h1 h2
 go_wp2_with (go_at_call 232;refine K.out.mono ?_;rintro e w1 ⟨m,rfl,hm,k1,k2,k3⟩;have HB:=qh (HB.out.call k1 k2 k3);clear k1 k2 k3)
 go_ret
 exact ⟨m,rfl,by have:=HE.out;omega,HB.out.s,HB.out.ct,HB.out.ap⟩
set_option maxRecDepth 100000 in
set_option maxHeartbeats 4000000 in
theorem wt4 {S:Array Int→World→Prop} (C:z26 sl k n T S) (d:Array Int) (a b:Nat) (w:World) (hS:S d w) (hab:a+12<b) (hb:b≤n) (hn:n≤1000000) :
 Calls Tryz.prog 197 #[.agg #[g6 sl,b6 sl],.int .i64 a,.int .i64 b] w (fun e w'=>∃ (q:Nat) (h:Int),e = .returned (.tuple #[.int .i64 q,.int .i64 h])∧a≤q∧q<b∧(h=0∨h=1∨h=2)∧Below w.heap.size w w'):=by
 obtain ⟨hsz,hkT,hTW⟩:=C.size _ _ hS
 obtain ⟨l,hl⟩:∃ l:Nat,b - a=l:=⟨_,rfl⟩
 have e1:(b:Int) - (a:Int)=(l:Int):=by omega
 obtain ⟨q,hq⟩:∃ q:Nat,l / 4=q:=⟨_,rfl⟩
 have e2:(l:Int).tdiv 4=(q:Int):=by rw [show (l:Int).tdiv 4=((l / 4:Nat):Int) from rfl,hq]
 have l1:3≤q:=by omega
 have l2:4*q≤l:=by omega
 obtain ⟨i,hi⟩:∃ i:Nat,a+q=i:=⟨_,rfl⟩
 obtain ⟨j,hj⟩:∃ j:Nat,a+q*2=j:=⟨_,rfl⟩
 obtain ⟨k3,hk3⟩:∃ k3:Nat,a+q*3=k3:=⟨_,rfl⟩
 have e3:(a:Int)+(q:Int)=(i:Int):=by omega
 have e4:(a:Int)+(q:Int)*2=(j:Int):=by omega
 have e5:(a:Int)+(q:Int)*3=(k3:Int):=by omega
 have HE:=qh (And.intro hl (And.intro hi (And.intro hj (And.intro hk3 (And.intro l1 l2)))))
 clear hl hq hi hj hk3
 have hA0:=SA.start C hS
 obtain ⟨X,hX⟩:∃ X,w.heap.size=X:=⟨_,rfl⟩
 obtain ⟨W0,hW0⟩:∃ W0,w.alloc (.cells #[g6 sl,b6 sl] 174)=W0:=⟨_,rfl⟩
 rw [hX,hW0] at hA0
 have x0:=hA0.x0
 have x1:=hA0.x1
 have HA:=qh hA0
 have HC:=qh C
 have hag:=Tryz.isAgg174
 clear hA0 hS C
 have hXW:X<W0.heap.size:=World.block_lt_of_cell? W0 _ x0
 obtain ⟨c,hcW⟩:∃ c,W0.heap.size=c:=⟨_,rfl⟩
 obtain ⟨W1,hW1⟩:∃ W1,W0.alloc (.cells #[.int .i64 0] 3)=W1:=⟨_,rfl⟩
 have hb1:Below W0.heap.size W0 W1:=hW1 ▸ z8 W0 _
 have hA1:=HA.out.below HC.out hb1
 have HB:=qh (show SB sl k T X c S W1 d W1 from ⟨hA1.s,by rw [← hW1,← hcW];exact CtU.new W0 _,y5.refl _ _,hA1.x0,hA1.x1,by omega,by omega⟩)
 have HF:=qh (fun (W:World) (h:y5 (fun j=>j=c) W1 W)=>(show Below w.heap.size w W from z7 (hW0 ▸ z8 w _) (hb1.trans (h.below hb1.size fun j hj e=>by omega))))
 have x0:=hA1.x0
 have x1:=hA1.x1
 clear hA1 hb1 HA hXW
 go_enter Tryz.func197,Tryz.ntmps197
 by_cases h50:50≤l
 ·go_wp2_with fail
  refine (zs4 HC.out d i c _ HB.out.s HB.out.ct HB.out.tc (by have:=HE.out;omega) (by have:=HE.out;omega) hn).mono ?_
  rintro e w1 ⟨i2,rfl,hm1,h1,h2,h3⟩
  have HB:=qh (HB.out.call h1 h2 h3);clear h1 h2 h3
  have x0:=HB.out.x0
  have x1:=HB.out.x1
  go_wp2_with fail
  refine (zs4 HC.out d j c _ HB.out.s HB.out.ct HB.out.tc (by have:=HE.out;omega) (by have:=HE.out;omega) hn).mono ?_
  rintro e w2 ⟨j2,rfl,hm2,h1,h2,h3⟩
  have HB:=qh (HB.out.call h1 h2 h3);clear h1 h2 h3
  have x0:=HB.out.x0
  have x1:=HB.out.x1
  go_wp2_with fail
  refine (zs4 HC.out d k3 c _ HB.out.s HB.out.ct HB.out.tc (by have:=HE.out;omega) (by have:=HE.out;omega) hn).mono ?_
  rintro e w3 ⟨k32,rfl,hm3,h1,h2,h3⟩
  have HB:=qh (HB.out.call h1 h2 h3);clear h1 h2 h3
  have x0:=HB.out.x0
  have x1:=HB.out.x1
  go_wp2_with fail
  refine (yl6 HC.out d i2 j2 k32 c _ HB.out.s HB.out.ct HB.out.tc (by have:=HE.out;omega) (by have:=HE.out;omega) (by have:=HE.out;omega)).mono ?_
  rintro e w9 ⟨m,rfl,hm,h1,h2,h3⟩
  have HB:=qh (HB.out.call h1 h2 h3);clear h1 h2 h3
  have x0:=HB.out.x0
  have x1:=HB.out.x1
  obtain ⟨⟨s,hs⟩,hf⟩:=HB.out.ct
  go_wp2_with fail
  all_goals go_ret2
  all_goals exact ⟨m,_,rfl,by have:=HE.out;omega,by have:=HE.out;omega,by simp,HF.out _ HB.out.ap⟩
 ·go_wp2_with fail
  refine (yl6 HC.out d i j k3 c _ HB.out.s HB.out.ct HB.out.tc (by have:=HE.out;omega) (by have:=HE.out;omega) (by have:=HE.out;omega)).mono ?_
  rintro e w9 ⟨m,rfl,hm,h1,h2,h3⟩
  have HB:=qh (HB.out.call h1 h2 h3);clear h1 h2 h3
  have x0:=HB.out.x0
  have x1:=HB.out.x1
  obtain ⟨⟨s,hs⟩,hf⟩:=HB.out.ct
  go_wp2_with fail
  all_goals go_ret2
  all_goals exact ⟨m,_,rfl,by have:=HE.out;omega,by have:=HE.out;omega,by simp,HF.out _ HB.out.ap⟩
set_option maxRecDepth 100000 in
theorem v07 (n:Nat) (w:World) (hn:0<n) (hsz:n<65536):Calls Tryz.prog 229 #[.int .i64 n] w (fun e w'=>(∃ m:Nat,e = .returned (.int .u64 m)∧n<m∧m≤2*n∧∃ k,m=2 ^ k)∧w'=w):=by
 have K:=qh (zu7 (n:Int) w (by omega) (by omega))
 obtain ⟨h1,h2,_⟩:=zo2 (x:=n) (by omega)
 rw [Int.toNat_natCast] at K
 obtain ⟨k,hk⟩:∃ k,Lib.bitLen n=k:=⟨_,rfl⟩
 rw [hk] at K h1 h2
 have h3:k≤17:=by
  rcases Nat.lt_or_ge k 18 with h | h
  ·omega
  ·have:=Nat.pow_le_pow_right (show 0<2 by decide) h;have:=h2 hn;omega
 have HK:=qh (And.intro h1 (h2 hn));clear h1 h2 hk
 go_enter Tryz.func229,Tryz.ntmps229
 go_wp2_with fail
 refine K.out.mono ?_
 rintro e w' ⟨rfl,rfl⟩
 go_wp2_with fail
 go_ret
 have h2:=HK.out
 have h4:IntKind.u64.wrap (2 ^ k)=((2 ^ k:Nat):Int):=by
  rw [IntKind.wrap_u64,show ((2:Int) ^ k)=((2 ^ k:Nat):Int) from by simp]
  omega
 exact ⟨⟨2 ^ k,by rw [h4];rfl,by omega,by omega,k,rfl⟩,rfl⟩
set_option maxRecDepth 100000 in
theorem v88 (c:Nat) (x:Int) (w:World) (hc:w.cell? ⟨c,0,none⟩=some (.int .u64 x)) (hf:w.frozen? ⟨c,0,none⟩=false):Calls Tryz.prog 230 #[.pointer (some ⟨c,0,none⟩)] w (fun e w' =>
 ∃ y:Int,e = .returned (.int .u64 y)∧0≤y∧y<2 ^ 64∧w'.cell? ⟨c,0,none⟩=some (.int .u64 y)∧w'.frozen? ⟨c,0,none⟩=false∧y5 (fun k=>k=c) w w'):=by
 have HA:=qh (y5.refl (fun k=>k=c) w)
 go_enter Tryz.func230,Tryz.ntmps230
 go_wp2_with fail
 go_region
 obtain ⟨x1,hx1⟩:∃ x1,bits BinOp.xor .u64 x (IntKind.u64.wrap (x*8192))=x1:=⟨_,rfl⟩
 rw [hx1]
 clear hx1
 obtain ⟨w1,hw1⟩:∃ w1,(w.setCell ⟨c,0,none⟩ (.int .u64 x1)).drew=w1:=⟨_,rfl⟩
 have HA:=qh (show y5 (fun k=>k=c) w w1 from hw1 ▸ (HA.out.trans (y5.set _ _ rfl)).trans (y5.drew _ _))
 have hc:w1.cell? ⟨c,0,none⟩=some (.int .u64 x1):=hw1 ▸ World.cell?_setCell_same _ _ _ hc
 have hf:w1.frozen? ⟨c,0,none⟩=false:=by rw [← hw1];exact (World.frozen?_setCell _ _ _ _).trans hf
 rw [hw1]
 clear hw1
 go_wp2_with fail
 go_region
 obtain ⟨x2,hx2⟩:∃ x2,bits BinOp.xor .u64 x1 (x1 / 128)=x2:=⟨_,rfl⟩
 rw [hx2]
 clear hx2
 obtain ⟨w2,hw2⟩:∃ w2,(w1.setCell ⟨c,0,none⟩ (.int .u64 x2)).drew=w2:=⟨_,rfl⟩
 have HA:=qh (show y5 (fun k=>k=c) w w2 from hw2 ▸ (HA.out.trans (y5.set _ _ rfl)).trans (y5.drew _ _))
 have hc:w2.cell? ⟨c,0,none⟩=some (.int .u64 x2):=hw2 ▸ World.cell?_setCell_same _ _ _ hc
 have hf:w2.frozen? ⟨c,0,none⟩=false:=by rw [← hw2];exact (World.frozen?_setCell _ _ _ _).trans hf
 rw [hw2]
 clear hw2
 go_wp2_with fail
 go_region
 obtain ⟨x3,hx3⟩:∃ x3,bits BinOp.xor .u64 x2 (IntKind.u64.wrap (x2*131072))=x3:=⟨_,rfl⟩
 rw [hx3]
 have hy:=xc7 .xor x2 (IntKind.u64.wrap (x2*131072))
 rw [hx3] at hy
 have HY:=qh hy;clear hx3 hy
 obtain ⟨w3,hw3⟩:∃ w3,(w2.setCell ⟨c,0,none⟩ (.int .u64 x3)).drew=w3:=⟨_,rfl⟩
 have HA:=qh (show y5 (fun k=>k=c) w w3 from hw3 ▸ (HA.out.trans (y5.set _ _ rfl)).trans (y5.drew _ _))
 have hc:w3.cell? ⟨c,0,none⟩=some (.int .u64 x3):=hw3 ▸ World.cell?_setCell_same _ _ _ hc
 have hf:w3.frozen? ⟨c,0,none⟩=false:=by rw [← hw3];exact (World.frozen?_setCell _ _ _ _).trans hf
 rw [hw3]
 clear hw3
 go_wp2_with fail
 go_ret
 exact ⟨x3,rfl,HY.out.1,HY.out.2,hc,hf,HA.out⟩
structure SR (sl:Value) (k T X c:Nat) (S:Array Int→World→Prop) (w:World) (d:Array Int) (W:World):Prop where
 a:SA sl k X S w d W
 rnd:∃ x:Int,W.cell? ⟨c,0,none⟩=some (.int .u64 x)
 free:W.frozen? ⟨c,0,none⟩=false
 lt:c<W.heap.size
theorem SR.swap {S:Array Int→World→Prop} {d1:Array Int} (h:SR sl k T X c S w d W) (hck:¬ c=k) (hs:S d1 W1) (ha:y5 (fun j=>j=k) W W1):SR sl k T X c S w d1 W1:=by
 obtain ⟨x,hx⟩:=h.rnd
 exact ⟨h.a.call hs ha,⟨x,ha.cell hx hck⟩,ha.free h.free h.lt hck,Nat.lt_of_lt_of_le h.lt ha.size⟩
theorem SR.next {S:Array Int→World→Prop} (C:z26 sl k n T S) (h:SR sl k T X c S w d W) (hXc:¬ X=c) (ht:T≤c) (hw:w.heap.size≤c) {y:Int} (hy:W1.cell? ⟨c,0,none⟩=some (.int .u64 y)) (hf:W1.frozen? ⟨c,0,none⟩=false) (ha:y5 (fun j=>j=c) W W1):SR sl k T X c S w d W1:=
 ⟨⟨C.keep _ _ _ h.a.s (ha.mono fun j _ e=>e ▸ ht),((h.a.ap.mono fun j _ e=>(.inl e:j=k∨j=c)).trans (ha.mono fun j _ e=>(.inr e:j=k∨j=c))).mono fun j hj e=>(by
  rcases e with e | e
  ·exact e
  ·omega),ha.cell h.a.x0 hXc,ha.cell h.a.x1 hXc,h.a.ne⟩,⟨y,hy⟩,hf,Nat.lt_of_lt_of_le h.lt ha.size⟩
set_option maxRecDepth 100000 in
set_option maxHeartbeats 4000000 in
theorem wt5 {S:Array Int→World→Prop} (C:z26 sl k n T S) (d:Array Int) (a b:Nat) (w:World) (hS:S d w) (hab:a+12<b) (hb:b≤n) (hn:n≤65535) :
 Calls Tryz.prog 196 #[.agg #[g6 sl,b6 sl],.int .i64 a,.int .i64 b] w (zw1 k S (PermIn a b d) w):=by
 obtain ⟨hsz,hkT,hTW⟩:=C.size _ _ hS
 obtain ⟨l,hl⟩:∃ l:Nat,b - a=l:=⟨_,rfl⟩
 have e1:(b:Int) - (a:Int)=(l:Int):=by omega
 obtain ⟨q,hq⟩:∃ q:Nat,l / 4=q:=⟨_,rfl⟩
 have e2:(l:Int).tdiv 4=(q:Int):=by rw [show (l:Int).tdiv 4=((l / 4:Nat):Int) from rfl,hq]
 obtain ⟨p,hp⟩:∃ p:Nat,a+q*2=p:=⟨_,rfl⟩
 have e3:(a:Int)+(q:Int)*2=(p:Int):=by omega
 have l1:3≤q:=by omega
 have l2:4*q≤l:=by omega
 have l3:8≤l:=by omega
 have l4:l<65536:=by omega
 have KP:=qh (fun w=>v07 l w (by omega) l4)
 have KX:=qh v88
 clear hq
 have HLP:=qh (And.intro hl hp);clear hl hp
 have hA0:=SA.start C hS
 obtain ⟨X,hX⟩:∃ X,w.heap.size=X:=⟨_,rfl⟩
 obtain ⟨W0,hW0⟩:∃ W0,w.alloc (.cells #[g6 sl,b6 sl] 174)=W0:=⟨_,rfl⟩
 rw [hX,hW0] at hA0
 have x0:=hA0.x0
 have x1:=hA0.x1
 have HA:=qh hA0
 have HC:=qh C
 have hag:=Tryz.isAgg174
 clear hA0 hS C
 have hXW:X<W0.heap.size:=World.block_lt_of_cell? W0 _ x0
 obtain ⟨c,hcW⟩:∃ c,W0.heap.size=c:=⟨_,rfl⟩
 obtain ⟨W1,hW1⟩:∃ W1,W0.alloc (.cells #[.int .u64 (l:Int)] 257)=W1:=⟨_,rfl⟩
 have hb1:Below W0.heap.size W0 W1:=hW1 ▸ z8 W0 _
 have HI:=qh (show SR sl k T X c S w d W1 from ⟨HA.out.below HC.out hb1,⟨l,by rw [← hW1,← hcW];simp⟩,by rw [← hW1,← hcW];simp,by rw [← hW1,← hcW];simp⟩)
 have hcX:¬ X=c:=by omega
 have hcT:T≤c:=by omega
 have hck:¬ c=k:=by omega
 have hcw:w.heap.size≤c:=by omega
 clear hb1 HA hXW
 go_enter Tryz.func196,Tryz.ntmps196
 go_wp2_with (go_at_call 229;refine (KP.out _).mono ?_;rintro e w' ⟨⟨m,rfl,hm1,hm2,kk,hmk⟩,rfl⟩;have HM:=qh (And.intro hm1 (And.intro hm2 hmk));clear hm1 hm2 hmk;have l5:m<140000:=(by have:=HM.out;omega);have v1:IntKind.u64.wrap ((m:Int) - 1)=(m:Int) - 1:=(by rw [IntKind.wrap_u64];have:=HM.out;omega))
 go_loopw [9] (fun vi wr=>∃ (idx:Nat) (dk:Array Int),vi = .int .i64 idx∧p≤idx+1∧idx≤p+2∧PermIn a b d dk∧SR sl k T X c S w dk wr) (fun vi _=>p+3 - (intOf vi).toNat)
 case atStart=>exact ⟨p - 1,d,by congr 1;omega,by omega,by omega,permIn_refl _ _ _,HI.out⟩
 case round =>
  clear HI x0 x1 hW1 hW0
  obtain ⟨idx,dk,rfl,h1,h2,hpm,hI⟩:=hrel
  have hsk:=hI.a.size HC.out
  have HPM:=qh hpm;clear hpm
  by_cases hlt:idx≤p+1
  ·obtain ⟨x,hx⟩:=hI.rnd
   have K:=qh (KX.out c x wr hx hI.free)
   have HI:=qh hI;clear hI hx
   have x0:=HI.out.a.x0
   have x1:=HI.out.a.x1
   go_wp2_with fail
   refine K.out.mono ?_
   rintro e w2 ⟨y,rfl,hy0,hy1,hc2,hf2,hA2⟩
   have HI:=qh (HI.out.next HC.out hcX hcT hcw hc2 hf2 hA2)
   obtain ⟨u,hu,hum⟩:∃ u:Nat,bits BinOp.and IntKind.u64 y ((m:Int) - 1)=(u:Int)∧u<m:=by
    obtain ⟨h3,h4,h5⟩:=HM.out
    have hk:kk≤64:=by
     rcases Nat.lt_or_ge kk 65 with h | h
     ·omega
     ·have:=Nat.pow_le_pow_right (show 0<2 by decide) h;omega
    have e:((m:Int))=2 ^ kk:=by rw [h5];simp
    have hpos:(0:Int)<2 ^ kk:=by rw [← e];omega
    refine ⟨(y % 2 ^ kk).toNat,?_,?_⟩
    ·rw [e,bits_mask .u64 64 (by decide) wraps_u64 kk hk y hy0 hy1,Int.toNat_of_nonneg (Int.emod_nonneg _ (by omega))]
    ·have:=Int.emod_lt_of_pos y hpos
     have:=Int.emod_nonneg y (show (2:Int) ^ kk≠0 by omega)
     omega
   clear hc2 hf2 hA2 hy0 hy1 x0 x1
   have x0:=HI.out.a.x0
   have x1:=HI.out.a.x1
   have v2:IntKind.i64.wrap (u:Int)=(u:Int):=IntWalk.i64_in _ (by omega)
   obtain ⟨v,hv,hvl⟩:∃ v:Nat,(if l≤u then u - l else u)=v∧v<l:=⟨_,rfl,by have:=HM.out;split <;> omega⟩
   obtain ⟨p2,hp2⟩:∃ p2:Nat,a+v=p2:=⟨_,rfl⟩
   have e6:(a:Int)+(v:Int)=(p2:Int):=by omega
   have HV:=qh (show (a≤idx∧idx<b)∧a≤p2∧p2<b by have:=HLP.out;omega)
   obtain ⟨w3,hsw,hs3,ha3⟩:=HC.out.swap dk w2 idx p2 HI.out.a.s (by have:=HV.out;omega) (by have:=HV.out;omega)
   have HI3:=qh (HI.out.swap hck hs3 ha3)
   have HP3:=qh (permIn_trans _ _ _ _ _ HPM.out (swp_permIn dk a b idx p2 HV.out.1.1 HV.out.1.2 HV.out.2.1 HV.out.2.2 (by omega)))
   clear hs3 ha3 hp2
   by_cases hul:l≤u
   ·rw [if_pos hul] at hv
    have e5:(u:Int) - (l:Int)=(v:Int):=by omega
    clear hv
    go_wp2_with fail
    go_roundw
    case rel=>exact ⟨idx+1,_,by go_num,by omega,by omega,HP3.out,HI3.out⟩
    case measure=>simp [intOf] <;> omega
   ·rw [if_neg hul] at hv
    obtain rfl:u=v:=hv
    go_wp2_with fail
    go_roundw
    case rel=>exact ⟨idx+1,_,by go_num,by omega,by omega,HP3.out,HI3.out⟩
    case measure=>simp [intOf] <;> omega
  ·go_wp2_with fail
   go_end0
   exact hI.a.done HPM.out
end
end Go.Proofs.YtchndljcahjldaaGreatDoor
