/- The merging of intervals that are sorted by their beginnings. Conditions: the ends are numbers of 64 bits, at most 1048576 intervals. -/
import Derived.Test.YtchndljcahjldaaGreatDoorMROwn
import Derived.Test.YtchndljcahjldaaGreatDoorMRCheck
import Derived.Deep.DrawnRows
import Derived.Test.YtchndljcahjldaaGreatDoorMRPdq
import Derived.Laws.CopyRow
namespace Go.Proofs.YtchndljcahjldaaGreatDoor
set_option maxRecDepth 100000
set_option maxHeartbeats 4000000
section
open Go.RowKit
attribute [local go_sem ↓] Go.wp_at_zero Go.wp_at_succ
variable {W w1:World} {p q r t:Addr} {a b c d v:Value} {L:List Iv}
theorem yk8 {w2:World}
 (h:Below W.heap.size W w1∧w1.cell? p=some a∧w1.cell? q=some b∧w1.cell? r=some c∧w1.cell? t=some d∧r9 w1 W.heap.size v L) (hb:Hid (Below w1.heap.size w1 w2)) :
 Below W.heap.size W w2∧w2.cell? p=some a∧w2.cell? q=some b∧w2.cell? r=some c∧w2.cell? t=some d∧r9 w2 W.heap.size v L:=
 ⟨z7 h.1 hb.out,z6 h.2.1 hb.out,z6 h.2.2.1 hb.out,z6 h.2.2.2.1 hb.out,z6 h.2.2.2.2.1 hb.out,h.2.2.2.2.2.below hb.out⟩
theorem i9
 (h:Below W.heap.size W w1∧w1.cell? p=some a∧w1.cell? q=some b∧w1.cell? r=some c∧w1.cell? t=some d∧r9 w1 W.heap.size v L) :
 Below W.heap.size W w1.drew∧w1.drew.cell? p=some a∧w1.drew.cell? q=some b∧w1.drew.cell? r=some c∧w1.drew.cell? t=some d∧r9 w1.drew W.heap.size v L:=yk8 h (Below.refl _ _).drew
def v81 (L:List Iv) (w:World) (e:Ending) (w':World):Prop:=∃ v,e = .returned v∧r9 w' w.heap.size v L∧Below w.heap.size w w'
theorem yz8 {a b c d:Int} (h:¬ b+1<c) (h1:a≤c) (h2:c≤d):z73 a b c d≠0∧z73 a b c d≠4:=by grind [zu1,z73]
theorem w37 (l:List Iv) (s:Value) (w:World) (hl:v7 w s l) (h64:m9 l) (hs:zo0 l) (ho:∀ y ∈ l,y.1≤y.2) :
 Calls Tryz.prog 204 #[s] w (v81 (z33 l) w):=by
 obtain ⟨i0,hi',hz0,hz1,hz2⟩:=info_parts zb2
 obtain ⟨p,cap,rfl,hlen⟩:=hl.shape
 have I:=qh hl;clear hl
 have KR:=qh zo1
 have KJ:=qh wi4
 have HS:=qh hs;clear hs
 have HO:=qh ho;clear ho
 have H64:=qh h64;clear h64
 go_enter Tryz.func204,Tryz.ntmps204
 go_wp2_with fail
 go_loopw [3,9] (fun v i wr=>∃ k:Nat,k≤l.length∧i = .int .i64 k∧r9 wr w.heap.size v (z33 (l.take k))∧Below w.heap.size w wr) (fun _ i _=>l.length - (intOf i).toNat)
 case atStart=>exact ⟨0,Nat.zero_le _,rfl,r9.nil _ _,Below.refl _ _⟩
 case round =>
  obtain ⟨k,hk,rfl,hown,hb⟩:=hrel
  have HB:=qh hb;clear hb
  by_cases hlt:k<l.length
  ·obtain ⟨x,hx⟩:∃ x,l[k]? = some x:=⟨l[k],by simp [hlt]⟩
   obtain ⟨b0,o0,cap0,e0,z0,z1⟩:=(I.out.call HB.out).elem hx
   cases e0
   have hL1:(z33 (l.take k)).length≤1048576:=by have:=w42 _ (l.take k) rfl;simp at this;omega
   have HN:=qh (show z33 (l.take (k+1))=zi4 (z33 (l.take k)) x by rw [y71 hx,zi5])
   have hx64:=H64.out.at hx
   have hm64:=xm3 _ (l.take k) rfl (fun z hz=>H64.out z (List.mem_of_mem_take hz))
   have HM:=qh (fun m y=>xm4 (m:=m) (y:=y) hx HS.out HO.out)
   have hxo:=HO.out x (List.mem_of_getElem? hx)
   clear hx
   generalize z33 (l.take k)=L at *
   obtain ⟨x1,x2⟩:=x
   have hBn:=(y7 HB.out (.cells #[.int .u64 x1,.int .u64 x2] 65))
   have HBn:=qh hBn
   have hsz0:w.heap.size≤wr.heap.size:=HB.out.size
   by_cases hL:L = []
   ·subst hL
    obtain ⟨pv,cv,rfl,_⟩:=y8 hown
    have hown2:=qh (hown.below (z8 wr (.cells #[.int .u64 x1,.int .u64 x2] 65)))
    clear hown hm64 hx64 HM hL1
    go_wp2_with fail
    go_quiet (fail)
    obtain ⟨wq,hwq⟩:∃ wq,(wr.alloc (.cells #[.int .u64 x1,.int .u64 x2] 65)).drewN nq=wq:=⟨_,rfl⟩
    have hq:Below w.heap.size w wq:=hwq ▸ below_drewN HBn.out _
    have hown3:r9 wq w.heap.size (.slice pv 0 cv) []:=hwq ▸ hown2.out.below (below_drewN (Below.refl _ _) _)
    have q0:wq.cell? ⟨wr.heap.size,0,none⟩=some (.int .u64 x1):=by rw [← hwq];simp
    have q1:wq.cell? ⟨wr.heap.size,1,none⟩=some (.int .u64 x2):=by rw [← hwq];simp
    rw [hwq]
    clear hwq
    have HQ:=qh hq;clear hq
    have HO3:=qh hown3;clear hown3
    go_wp2_with (at_builtin;refine wpList_append_own _ rfl _ _ 42 rfl w.heap.size 65 i0 (.agg #[.int .u64 0,.int .u64 0]) 2 16 Tryz.underlying42 hi' hz0 hz1 hz2 rfl (by decide) _ _ _ rfl (HO3.out.below (z8 _ _)) ⟨wq.heap.size,0,none⟩ 1 1 [.int .u64 x1,.int .u64 x2] rfl rfl (z60 _ _ _ _ _ rfl) (by simp [Value.oneCell']) (by unfold maxLen;simp) (by simp) (by have:=HQ.out.size;simp;omega) ?_;intro v' w1 hown' hgrow _;obtain ⟨g',cap',rfl⟩:=ownsRow_succ hown';have HO4:=qh hown';clear hown';have HW:=qh (x8 (y7 HQ.out _) (HO3.out.below (z8 _ _)) hgrow (by have:=HQ.out.size;simp;omega));clear hgrow)
    go_roundw
    case rel=>exact ⟨k+1,by omega,by go_num,by rw [HN.out,y66];exact HO4.out,HW.out⟩
    case measure=>simp [intOf];omega
   ·obtain ⟨m,y,rfl⟩:=z79 hL
    obtain ⟨hyx,hyo⟩:=HM.out m y rfl
    have hy64:=hm64 y (by simp)
    rw [List.length_append,List.length_singleton] at hL1
    have hr0:¬ y.2+1<x1→z73 y.1 y.2 x1 x2≠0∧z73 y.1 y.2 x1 x2≠4:=fun h=>yz8 h hyx hxo
    have hrz:=zu1 y.1 y.2 x1 x2
    have KX:=qh (fun w=>KR.out y.1 y.2 x1 x2 w hy64.2.1 hx64.1.2 hx64.2.1 hy64.1.2)
    obtain ⟨r,hr⟩:∃ r,z73 y.1 y.2 x1 x2=r:=⟨_,rfl⟩
    have hlo:(if x1<y.1 then x1 else y.1)=y.1:=if_neg (by omega)
    obtain ⟨hi,hhi⟩:∃ hi,(if y.2<x2 then x2 else y.2)=hi:=⟨_,rfl⟩
    have KJ2:=qh (fun w h=>KJ.out y.1 y.2 x1 x2 y.1 hi w hlo hhi hy64.2.1 hx64.1.2 hx64.2.1 hy64.1.2 (hr0 h).1 (hr0 h).2)
    have HN2:¬ y.2+1<x1→zi4 (m ++ [y]) (x1,x2)=m ++ [(y.1,hi)]:=fun h=>by rw [zn9 _ _ _ h,hhi]
    have HN3:y.2+1<x1→zi4 (m ++ [y]) (x1,x2)=m ++ [y] ++ [(x1,x2)]:=fun h=>zu3 _ _ _ h
    have HN2':=qh HN2;clear HN2
    have HN3':=qh HN3;clear HN3
    rw [hr] at KX hrz
    have HRZ:=qh hrz;clear hrz
    clear hL hyx hyo hy64 hr0 hr hlo hhi hm64 hx64 HM hxo
    have hown1:=hown.below (z8 wr (.cells #[.int .u64 x1,.int .u64 x2] 65))
    obtain ⟨g,cap',rfl,y0,y1,_,_,hg1,hg2⟩:=hown1.last
    have hlit:(m ++ [y]).length=m.length+1:=by simp
    have HOW:=qh hown1;clear hown1 hown
    have hm0:(0:Int)≤(m.length:Int):=by omega
    have hm1:(m.length:Int)<(m.length:Int)+1:=by omega
    have hw2:IntKind.i64.wrap (m.length:Int)=(m.length:Int):=IntWalk.i64_in _ (by omega)
    obtain ⟨yl,yh⟩:=y
    dsimp only at y0 y1
    have hs:Below w.heap.size w (wr.alloc (.cells #[.int .u64 x1,.int .u64 x2] 65))∧(wr.alloc (.cells #[.int .u64 x1,.int .u64 x2] 65)).cell? ⟨g,m.length*2,none⟩=some (.int .u64 yl)∧(wr.alloc (.cells #[.int .u64 x1,.int .u64 x2] 65)).cell? ⟨g,m.length*2+1,none⟩=some (.int .u64 yh) ∧
     (wr.alloc (.cells #[.int .u64 x1,.int .u64 x2] 65)).cell? ⟨wr.heap.size,0,none⟩=some (.int .u64 x1)∧(wr.alloc (.cells #[.int .u64 x1,.int .u64 x2] 65)).cell? ⟨wr.heap.size,1,none⟩=some (.int .u64 x2):=⟨HBn.out,y0,y1,by simp,by simp⟩
    clear y0 y1 hlit
    have hs2:Below w.heap.size w (wr.alloc (.cells #[.int .u64 x1,.int .u64 x2] 65))∧(wr.alloc (.cells #[.int .u64 x1,.int .u64 x2] 65)).cell? ⟨g,m.length*2,none⟩=some (.int .u64 yl)∧(wr.alloc (.cells #[.int .u64 x1,.int .u64 x2] 65)).cell? ⟨g,m.length*2+1,none⟩=some (.int .u64 yh) ∧
     (wr.alloc (.cells #[.int .u64 x1,.int .u64 x2] 65)).cell? ⟨wr.heap.size,0,none⟩=some (.int .u64 x1)∧(wr.alloc (.cells #[.int .u64 x1,.int .u64 x2] 65)).cell? ⟨wr.heap.size,1,none⟩=some (.int .u64 x2) ∧
     r9 (wr.alloc (.cells #[.int .u64 x1,.int .u64 x2] 65)) w.heap.size (.slice (some ⟨g,0,none⟩) (m.length+1) cap') (m ++ [(yl,yh)]):=⟨hs.1,hs.2.1,hs.2.2.1,hs.2.2.2.1,hs.2.2.2.2,HOW.out⟩
    have HS2:=qh hs2;clear hs hs2
    go_wp2_with fail
    go_region_held3 (fun w'=>Below w.heap.size w w'∧w'.cell? ⟨g,m.length*2,none⟩=some (.int .u64 yl)∧w'.cell? ⟨g,m.length*2+1,none⟩=some (.int .u64 yh)∧w'.cell? ⟨wr.heap.size,0,none⟩=some (.int .u64 x1)∧w'.cell? ⟨wr.heap.size,1,none⟩=some (.int .u64 x2)∧r9 w' w.heap.size (.slice (some ⟨g,0,none⟩) (m.length+1) cap') (m ++ [(yl,yh)]))
     (first
       | exact yk8 (by assumption) (by assumption)
       | exact i9 (by assumption)
       | exact HS2.out
       | assumption)
     (first
       | (go_at_call 73;refine (KX.out _).mono ?_;rintro en w' ⟨rfl,hb4'⟩;have hb4:=qh hb4';clear hb4'))
    all_goals
     rename_i hE
     have HE:=qh hE
     obtain ⟨_,e0,e1,e2,e3,_⟩:=hE
     have hszE:=HE.out.1.size
     clear HS2
     by_cases h0:r=0
     ·have h0b:(r != 0)=false:=by simpa using h0
      have HZ:=qh h0
      clear h0
      go_wp2_with (at_builtin;refine wpList_append_own _ rfl _ _ 42 rfl w.heap.size 65 i0 (.agg #[.int .u64 0,.int .u64 0]) 2 16 Tryz.underlying42 hi' hz0 hz1 hz2 rfl (by decide) _ (m.length+1) (ivC (m ++ [(yl,yh)])) rfl (r9.row (HE.out.2.2.2.2.2.below (z8 _ _))) ⟨_,0,none⟩ 1 1 [.int .u64 x1,.int .u64 x2] rfl rfl (z60 _ _ _ _ _ rfl) (by simp [Value.oneCell']) (by unfold maxLen;omega) (by omega) (by simp;omega) ?_;intro v' w1 hown' hgrow _;obtain ⟨g',cap',rfl⟩:=ownsRow_succ hown';have HO4:=qh hown';clear hown';have HW:=qh (x8 (y7 HE.out.1 _) (HE.out.2.2.2.2.2.below (z8 _ _)) hgrow (by simp;omega));clear hgrow)
      go_roundw
      case rel =>
       refine ⟨k+1,by omega,by go_num,?_,HW.out⟩
       rw [HN.out,HN3'.out (HRZ.out.1 HZ.out)]
       simpa [r9,ivC] using HO4.out
      case measure=>simp [intOf];omega
     ·have h0b:(r != 0)=true:=by simpa using h0
      have HZ:=qh h0
      clear h0
      have KJ3:=qh (fun w=>KJ2.out w (by have h1:=HRZ.out;have h2:=HZ.out;omega))
      go_wp2_with fail
      go_region_with ((go_at_call 234;refine (KJ3.out _).mono ?_;rintro e w3 ⟨rfl,h3⟩;have HE3:=qh (yk8 (by first | exact HE.out | exact i9 HE.out | exact i9 (i9 HE.out) | exact i9 (i9 (i9 HE.out)) | exact i9 (i9 (i9 (i9 HE.out)))) (qh h3));have hsz3:=h3.size;clear h3;obtain ⟨_,f0,f1,_⟩:=HE3.out;obtain ⟨_,_,e',_,_,r0,r1,_,_⟩:=HE3.out.2.2.2.2.2.last;cases e'))
      all_goals
       have hgw:w.heap.size≤g:=by assumption
       go_wp2_with fail
       go_roundw
       case rel =>
        refine ⟨k+1,by omega,by go_num,?_,j7 (j7 HE3.out.1 hgw _ _) hgw _ _⟩
        rw [HN.out,HN2'.out (by have h1:=HRZ.out;have h2:=HZ.out;omega)]
        exact r9.setLast (yl,hi) HE3.out.2.2.2.2.2
       case measure=>simp [intOf];omega
  ·obtain rfl:k=l.length:=by omega
   rw [List.take_length] at hown
   obtain ⟨pv,cv,rfl,_⟩:=y8 hown
   have HOW:=qh hown;clear hown
   go_wp2_with fail
   go_ret
   exact ⟨_,rfl,HOW.out,HB.out⟩
end
section
open Go.RowKit Go.Shelf Go.Lib
open Go.Sort hiding Below
variable {w:World} {n cap:Nat}
def y70 (a b:Int):Int:=if a<b then -1 else if b<a then 1 else 0
theorem ws3 (x:Int) (w:World):Calls Tryz.prog 129 #[.int .u64 x] w fun e w'=>e = .returned (.bool false)∧w'=w:=by
 go_enter Tryz.func129,Tryz.ntmps129
 go_wp2_with fail
 go_ret
 exact ⟨by simp,rfl⟩
theorem xu0 (a b:Int) (w:World):Calls Tryz.prog 76 #[.int .u64 a,.int .u64 b] w fun e w'=>e = .returned (.int .i64 (y70 a b))∧w'=w:=by
 have K:=qh ws3
 have hlt:a<b∨¬ a<b:=Decidable.em _
 rcases hlt with h | h
 ·have HC:=qh (show y70 a b = -1 by unfold y70;rw [if_pos h])
  go_enter Tryz.func76,Tryz.ntmps76
  go_wp2_with fail
  refine (K.out a w).mono ?_
  rintro e w' ⟨rfl,rfl⟩
  go_wp2_with fail
  refine (K.out b w').mono ?_
  rintro e w' ⟨rfl,rfl⟩
  go_wp2_with fail
  go_ret
  exact ⟨by rw [HC.out];rfl,rfl⟩
 ·by_cases h2:b<a
  ·have HC:=qh (show y70 a b=1 by unfold y70;rw [if_neg h,if_pos h2])
   go_enter Tryz.func76,Tryz.ntmps76
   go_wp2_with fail
   refine (K.out a w).mono ?_
   rintro e w' ⟨rfl,rfl⟩
   go_wp2_with fail
   refine (K.out b w').mono ?_
   rintro e w' ⟨rfl,rfl⟩
   go_wp2_with fail
   go_ret
   exact ⟨by rw [HC.out];rfl,rfl⟩
  ·have HC:=qh (show y70 a b=0 by unfold y70;rw [if_neg h,if_neg h2])
   go_enter Tryz.func76,Tryz.ntmps76
   go_wp2_with fail
   refine (K.out a w).mono ?_
   rintro e w' ⟨rfl,rfl⟩
   go_wp2_with fail
   refine (K.out b w').mono ?_
   rintro e w' ⟨rfl,rfl⟩
   go_wp2_with fail
   go_ret
   exact ⟨by rw [HC.out];rfl,rfl⟩
def y24 (x:Iv):List Value := [.int .u64 x.1,.int .u64 x.2]
def ya4 (x y:Iv):Int:=y70 x.1 y.1
theorem xb5 (x y:Iv) (W:World):Calls Tryz.prog 203 #[.agg (y24 x).toArray,.agg (y24 y).toArray] W fun e w'=>e = .returned (.int .i64 (ya4 x y))∧∃ q os',w'=grow (W.drewN q) os':=by
 have hcon:=qh (fun W'=>xu0 x.1 y.1 W')
 unfold ya4
 unfold y24
 generalize y70 x.1 y.1=r at hcon ⊢
 obtain ⟨x1,x2⟩:=x
 obtain ⟨y1,y2⟩:=y
 dsimp only at hcon ⊢
 go_enter Tryz.func203,Tryz.ntmps203
 go_wp2_with fail
 refine (hcon.out _).mono ?_
 rintro e w' ⟨rfl,rfl⟩
 go_wp2_with fail
 go_ret
 exact ⟨rfl,0,_,by rw [alloc_eq_grow,alloc_eq_grow,grow_grow];rfl⟩
theorem xu1 (x y:Iv):ltOf ya4 x y=decide (x.1<y.1):=by
 unfold ltOf ya4 y70
 by_cases h1:x.1<y.1
 ·simp [h1]
 ·by_cases h2:y.1<x.1 <;> simp [h1,h2]
theorem wh3:Sort.SWO (ltOf ya4) where
 irrefl x:=by rw [xu1];simp
 trans x y z h1 h2:=by rw [xu1] at *;simp at *;omega
 ntrans x y z h1 h2:=by rw [xu1] at *;simp at *;omega
theorem yz9 (B:Nat) (w:World) (blk m:Nat) (dk:Array Iv) (os:Array Obj) (hB:B≤blk) (hblk:blk<w.heap.size):Below B w (sortWorldK y24 2 w blk 0 m dk os):=by
 have h1:Below B w (Sort.putRow id (Sort.ahead w m) blk 0 (flatK y24 2 dk)):=
  ⟨rfl,rfl,rfl,by simp [Sort.putRow,Sort.mapBlock,Sort.ahead],fun k hk=>by
   simp [Sort.putRow,Sort.mapBlock,Sort.ahead,Array.getElem?_modify,show blk≠k by omega]⟩
 refine ⟨rfl,rfl,rfl,Nat.le_trans h1.size ?_,fun k hk => ?_⟩
 ·show _≤((Sort.putRow id (Sort.ahead w m) blk 0 (flatK y24 2 dk)).heap++os).size
  rw [Array.size_append];omega
 ·show ((Sort.putRow id (Sort.ahead w m) blk 0 (flatK y24 2 dk)).heap++os)[k]? = _
  rw [Array.getElem?_append_left (by have:=h1.size;omega)]
  exact h1.block k hk
theorem xu2 (d:Array Iv) (i:Nat) (hi:i<d.size):(flatK y24 2 d)[i*2]! = .int .u64 (d[i]!).1∧(flatK y24 2 d)[i*2+1]! = .int .u64 (d[i]!).2:=by
 rw [get_flatK _ _ _ _ (by omega),get_flatK _ _ _ _ (by omega),show i*2 / 2=i by omega,show i*2 % 2=0 by omega,show (i*2+1) / 2=i by omega,show (i*2+1) % 2=1 by omega]
 exact ⟨rfl,rfl⟩
theorem x00 {B g:Nat} {L:List Iv} (h:r9 w B (.slice (some ⟨g,0,none⟩) n cap) L) (hn:n=L.length):HoldsK y24 2 w g 0 L.toArray:=by
 subst hn
 intro j hj
 rw [size_flatK] at hj
 have hj2:j<L.length*2:=by simpa using hj
 rw [Nat.zero_add]
 unfold r9 at h
 refine ⟨?_,h.frozenAt j⟩
 rw [h.cellAt j hj2]
 have hx:j / 2<L.length:=by omega
 have hf:=yk3 L (j / 2) L[j / 2] (by simp [hx])
 have hg:=xu2 L.toArray (j / 2) (by simpa using hx)
 have e:L.toArray[j / 2]! = L[j / 2]:=by simp [hx]
 rw [e] at hg
 rcases Nat.mod_two_eq_zero_or_one j with h0 | h0
 ·have ej:j / 2*2=j:=by omega
  rw [ej] at hf hg
  rw [hg.1];exact hf.1
 ·have ej:j / 2*2+1=j:=by omega
  rw [ej] at hf hg
  rw [hg.2];exact hf.2
theorem x01 {blk:Nat} {d:Array Iv} (h:HoldsK y24 2 w blk 0 d) (hn:n=d.size) (hl:d.size≤1048576):v7 w (.slice (some ⟨blk,0,none⟩) n cap) d.toList:=by
 subst hn
 refine ⟨_,cap,by simp,by simpa using hl,fun _=>⟨blk,0,rfl,fun i x hi => ?_⟩⟩
 have hlt:i<d.size:=by simpa using (List.getElem?_eq_some_iff.1 hi).1
 have ex:d[i]! = x:=by
  have:=(List.getElem?_eq_some_iff.1 hi).2
  rw [getElem!_pos d i hlt];simpa using this
 have hf:=xu2 d i hlt
 rw [ex] at hf
 have h0:=(h (i*2) (by rw [size_flatK];omega)).1
 have h1:=(h (i*2+1) (by rw [size_flatK];omega)).1
 rw [hf.1] at h0
 rw [hf.2] at h1
 exact ⟨by simpa using h0,by simpa [Nat.add_assoc] using h1⟩
def wh4 (L:List Iv) (g cap:Nat) (w:World) (e:Ending) (w':World):Prop:=
 e = .returned (.tuple #[])∧∃ d:List Iv,d.Perm L∧zo0 d∧v7 w' (.slice (some ⟨g,0,none⟩) L.length cap) d∧Below g w w'
theorem wh5 (L:List Iv) (B g cap:Nat) (w:World) (hown:r9 w B (.slice (some ⟨g,0,none⟩) L.length cap) L) (hlen:L.length≤1048576) :
 Calls Tryz.prog 202 #[.slice (some ⟨g,0,none⟩) L.length cap,.func (.func 203) #[] #[]] w (wh4 L g cap w):=by
 have hblk:g<w.heap.size:=(hown.lt g rfl).2
 have hH:=x00 hown rfl
 have eg:∀ args w,(callFunc 203 args).run Tryz.prog w = .ok (.enter 203 args) w:=enters_of Tryz.func203 (by kernel_rfl) rfl
 have hsz:L.toArray.size=L.length:=by simp
 have hlim:Lib.bitLen L.length<4611686018427387904:=Nat.lt_of_le_of_lt (Lib.bitLen_le L.length 62 (by omega) (by omega)) (by omega)
 have hp:=AnyQ.pdqsortCmpFunc_all Tryz.pdqIv 2 Tryz.isAgg65 Tryz.sizeOf65 y24 ya4 203 #[] wh3 g 0 cap L.toArray w eg
  (fun m os dk _ x y=>xb5 x y _) ⟨fun _=>rfl,fun x v hv=>by simp [y24] at hv;rcases hv with rfl | rfl <;> rfl,hH,hblk⟩ (L.length+1) 0 L.length (Lib.bitLen L.length) L.toArray w (by omega) rfl (SWK.start hH) (Nat.zero_le _) (by rw [hsz];exact Nat.le_refl _) (by rw [hsz];omega) hlim (Or.inl rfl)
 change Calls Tryz.prog 233 _ _ _ at hp
 rw [hsz] at hp
 have hsorts:=Sort.pdq_sorts (ltOf ya4) wh3 L.toArray 0 L.length (Lib.bitLen L.length) true true (Nat.zero_le _) (by rw [hsz];exact Nat.le_refl _) (Or.inl rfl)
 have hl:Calls Tryz.prog 128 #[.int .u64 (L.length:Int)] w fun e w'=>e = .returned (.int .i64 (Lib.bitLen L.length:Nat))∧w'=w:=by
  have h:=Tryz.bits_Len (L.length:Int) w (by omega) (by omega)
  rwa [Int.toNat_natCast] at h
 have HS:=qh hsorts;clear hsorts
 generalize Sort.pdq (ltOf ya4) L.toArray 0 L.length (Lib.bitLen L.length) true true=d' at *
 generalize Lib.bitLen L.length=bl at *
 have HP:=qh hp;clear hp
 have HL:=qh hl;clear hl
 have wr:IntKind.u64.wrap (L.length:Int)=L.length:=by simp [IntKind.wrap,IntKind.bits,IntKind.signed];omega
 have HH:=qh hH;clear hH
 clear hown eg
 go_enter Tryz.func202,Tryz.ntmps202
 go_wp2_with fail
 refine HL.out.mono ?_
 rintro e w' ⟨rfl,rfl⟩
 go_wp2_with fail
 refine HP.out.mono ?_
 rintro e w2 ⟨rfl,n,os,rfl⟩
 go_wp2_with fail
 go_end0
 obtain ⟨⟨p1,p2,p3⟩,s1⟩:=HS.out
 refine ⟨rfl,d'.toList,?_,?_,?_,yz9 g w' g n d' os (Nat.le_refl _) hblk⟩
 ·have e1:d'.extract 0 L.length=d':=by rw [show L.length=d'.size by rw [p1,hsz]];simp
  have e2:L.toArray.extract 0 L.length=L.toArray:=by rw [show L.length=L.toArray.size by rw [hsz]];simp
  rw [e1,e2] at p3
  simpa using p3
 ·refine List.pairwise_iff_getElem.2 fun i j hi hj hij => ?_
  have hj':j<d'.size:=by simpa using hj
  have:=s1 i j (Nat.zero_le _) hij (by rw [p1,hsz] at hj';exact hj')
  rw [xu1,getElem!_pos d' i (by omega),getElem!_pos d' j hj'] at this
  simp only [Array.getElem_toList]
  simp at this
  omega
 ·exact x01 (holdsK_sortWorldK_c y24 2 w' g 0 L.toArray d' n os HH.out hblk p1) (by rw [p1,hsz]) (by rw [p1,hsz];exact hlen)
end
section
open Go.RowKit
variable {P:Program} {W W1:World}
theorem w38 (w:World) (dT sT ty elem:TypeId) (g dLen dCap:Nat) (a:Addr) (sLen sCap:Nat) (cur:Array Value) (t:TypeId) (cs:List Value)
 (hu:P.underlying dT=some (.slice elem)) (hs:(P.info? elem).map (·.size)=some 2)
 (hg:w.heap[g]? = some (.cells cur t (0,0))) (hn:cs.length=Nat.min sLen dLen*2)
 (hsrc:∀ j v,cs[j]? = some v→w.cell? (a.add j)=some v) (hfit:cs.length≤cur.size) (h1:∀ v ∈ cs,v.oneCell'=true) :
 (Builtin.copy_ #[dT,sT] ty #[.slice (some ⟨g,0,none⟩) dLen dCap,.slice (some a) sLen sCap]).run P w =
   .ok (goInt (Nat.min sLen dLen)) (w.setRow g (cs++cur.toList.drop cs.length).toArray):=by
 have hl:=run_loadCells_list (P:=P) w a cs hsrc
 have hst:=run_storeCells_at P g 0 t cs 0 cur w hg (by simpa using hfit) h1
 simp only [Nat.add_zero,Nat.zero_add,List.take_zero,List.nil_append] at hst
 cases hq:P.info? elem with
 | none=>simp [hq] at hs
 | some i =>
   have hi:i.size=2:=by simpa [hq] using hs
   simp [Builtin.copy_,run_underlying hu,Builtin.lenOf,Builtin.firstCells,sizeOf,typeInfo,hq,hi,← hn,hl,hst]
theorem yk9 (w:World) (dT sT ty elem:TypeId) (d:Option Addr) (p:Option Addr) (dCap sCap:Nat) (hu:P.underlying dT=some (.slice elem)) (hs:(P.info? elem).map (·.size)=some 2) :
 (Builtin.copy_ #[dT,sT] ty #[.slice d 0 dCap,.slice p 0 sCap]).run P w = .ok (goInt 0) w:=by
 cases hq:P.info? elem with
 | none=>simp [hq] at hs
 | some i=>cases p <;> cases d <;> simp [Builtin.copy_,run_underlying hu,Builtin.lenOf,Builtin.firstCells,sizeOf,typeInfo,hq,storeCells,loadCells,loadCellsFrom]
theorem wx1:(Tryz.prog.info? 65).map (·.size)=some 2:=by kernel_rfl
theorem wh6 (l:List Iv) (xs:List Value) (p:Option Addr) (cap:Nat) (B g:Nat) (w:World) (hl:v7 w (.slice p l.length cap) l) (hown:w.ownsRow B 65 2 (.slice (some ⟨g,0,none⟩) l.length l.length) l.length xs) :
 ∃ w2,(Builtin.copy_ #[42,42] 3 #[.slice (some ⟨g,0,none⟩) l.length l.length,.slice p l.length cap]).run Tryz.prog w = .ok (.int .i64 l.length) w2 ∧
  r9 w2 B (.slice (some ⟨g,0,none⟩) l.length l.length) l∧w.grownBy w2 (some g):=by
 by_cases h0:l = []
 ·subst h0
  obtain rfl:xs = []:=List.eq_nil_of_length_eq_zero hown.1
  exact ⟨w,yk9 w _ _ _ _ _ _ _ _ Tryz.underlying42 wx1,hown,zg2 (Below.refl _ _) _⟩
 ·obtain ⟨x,hx⟩:∃ x,l[0]? = some x:=by
   cases l with
   | nil=>exact absurd rfl h0
   | cons a r=>exact ⟨a,rfl⟩
  obtain ⟨b,o,cap',e,_⟩:=hl.elem hx
  cases e
  rcases hown.2 with ⟨h,_⟩ | ⟨g',cap',cur,h,hb,hg,hnc,hcm,hcs,htake⟩
  ·cases h
  ·cases h
   have hlen:=zd9 l
   have hmm:Nat.min l.length l.length=l.length:=Nat.min_self _
   have hr:=w38 (P:=Tryz.prog) w 42 42 3 65 g l.length l.length ⟨b,o,none⟩ l.length cap cur 65 (ivC l) Tryz.underlying42 wx1 hg (by rw [hlen,hmm]) (y73 hl) (by omega) (zu5 l)
   have hdrop:cur.toList.drop (ivC l).length = []:=List.drop_of_length_le (by rw [Array.length_toList];omega)
   rw [hdrop,List.append_nil,hmm] at hr
   refine ⟨_,hr,⟨hlen,.inr ⟨g,l.length,(ivC l).toArray,rfl,hb,setRow_heap w g cur _ _ _ hg,Nat.le_refl _,hcm,by simpa using hlen,by simp [← hlen]⟩⟩,⟨rfl,rfl,rfl,by simp,fun k _ hk=>setRow_other w g k _ (fun e=>hk (by simp [e]))⟩⟩
def wh7 (L:List Iv) (w:World) (e:Ending) (w':World):Prop:=∃ v,e = .returned (.tuple #[v,.nilIface])∧r9 w' w.heap.size v L∧Below w.heap.size w w'
theorem yc5 {B g:Nat} {w:World} (hB:Below B w W) (hs:B≤W.heap.size) (hg:W.grownBy W1 (some g)) (hBg:B≤g):Below B w W1:=
 hB.grown hg hs (fun k e=>by cases e;exact hBg)
theorem w39 (hg:W.grownBy W1 none):Below W.heap.size W W1:=(Below.refl _ _).grown hg (Nat.le_refl _) (fun k e=>by cases e)
theorem w40 (l:List Iv) (s:Value) (w:World) (hl:v7 w s l) (h64:m9 l) (ho:∀ y ∈ l,y.1≤y.2) :
 Calls Tryz.prog 140 #[s] w (wh7 (yk6 l) w):=by
 obtain ⟨i0,hi',hz0,hz1,hz2⟩:=info_parts zb2
 obtain ⟨p,cap,rfl,hlen⟩:=hl.shape
 have I:=qh hl;clear hl
 have K1:=qh wg5
 have KS:=qh wh5
 have KM:=qh w37
 have HO:=qh ho;clear ho
 have H64:=qh h64;clear h64
 go_enter Tryz.func140,Tryz.ntmps140
 go_wp2_with fail
 go_loopw [9] (fun i wr=>∃ k:Nat,k≤l.length∧i = .int .i64 k∧Below w.heap.size w wr) (fun i _=>l.length - (intOf i).toNat)
 case atStart=>exact ⟨0,Nat.zero_le _,rfl,Below.refl _ _⟩
 case round =>
  obtain ⟨k,hk,rfl,hb⟩:=hrel
  have HB:=qh hb;clear hb
  by_cases hlt:k<l.length
  ·obtain ⟨x,hx⟩:∃ x,l[k]? = some x:=⟨l[k],by simp [hlt]⟩
   have KX:=qh (K1.out l _ k x wr (I.out.call HB.out) hx (HO.out x (List.mem_of_getElem? hx)))
   clear hx
   go_wp2_with fail
   refine KX.out.mono ?_
   rintro e w1 ⟨rfl,h1⟩
   have H1:=qh (z7 HB.out h1);clear h1
   go_wp2_with fail
   go_roundw
   case rel=>exact ⟨k+1,by omega,by go_num,H1.out⟩
   case measure=>simp [intOf];omega
  ·obtain rfl:k=l.length:=by omega
   obtain ⟨w2,hmk,hown2,hg2⟩:=run_make_full (P:=Tryz.prog) wr w.heap.size 42 65 i0 (.agg #[.int .u64 0,.int .u64 0]) 2 Tryz.underlying42 hi' hz0 hz1 .i64 .i64 l.length (by rw [hz2];omega) (by unfold maxLen;omega) HB.out.size
   have hb2:=w39 hg2
   have hBB:=z7 HB.out hb2
   obtain ⟨w3,hcp,hown3,hg3⟩:=wh6 l _ p cap w.heap.size wr.heap.size w2 (I.out.call hBB) hown2
   have H3:=qh (yc5 hBB hBB.size hg3 HB.out.size)
   have HO3:=qh hown3
   have HSZ:=qh HB.out.size
   have KX:=qh (KS.out l w.heap.size wr.heap.size l.length w3 hown3 hlen)
   clear hown2 hg2 hb2 hBB hown3 hg3
   go_wp2_with fail
   refine KX.out.mono ?_
   rintro e w4 ⟨rfl,d,hperm,hsort,hiv,hb4⟩
   have H4:=qh (H3.out.trans (hb4.mono HSZ.out));clear hb4
   have KY:=qh (KM.out d _ w4 hiv (fun x hx=>H64.out x (hperm.mem_iff.1 hx)) hsort (fun x hx=>HO.out x (hperm.mem_iff.1 hx)))
   have HN:=qh (xm2 hperm hsort HO.out)
   clear hperm hsort hiv
   go_wp2_with fail
   refine KY.out.mono ?_
   rintro e w5 ⟨v,rfl,hv,hb5⟩
   have H5:=qh (z7 H4.out hb5);clear hb5
   have HV:=qh hv
   obtain ⟨pv,cv,rfl,_⟩:=y8 hv
   clear hv
   go_wp2_with fail
   go_ret2
   exact ⟨_,rfl,by rw [← HN.out];exact p8 HV.out H4.out.size,H5.out⟩
end
end Go.Proofs.YtchndljcahjldaaGreatDoor
