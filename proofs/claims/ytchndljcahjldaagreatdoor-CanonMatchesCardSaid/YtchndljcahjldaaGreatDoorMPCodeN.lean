/- The pairs of numbers that package vector yields of two vectors, up to the first counts that are different. -/
import Derived.Test.YtchndljcahjldaaGreatDoorMPIter
import Derived.Test.YtchndljcahjldaaGreatDoorMPMath
import Derived.Test.YtchndljcahjldaaGreatDoorMVPieces
import Derived.Maps.OwnIn
namespace Go.Proofs.YtchndljcahjldaaGreatDoor
section
open Go.RowKit Go.Shelf
attribute [local go_sem] Oper.semAt_some
variable {A B w0 W0:World} {L:List (Int × Int)} {e k ka kb:Nat} {x1 x2 y1 y2:Int} {s t u0 u1 u2 u3 u4 v v':Value}
def prH:List Iv→List Iv→List (Int × Int)
 | x :: r,y :: s=>(x.1,y.1) :: (x.2,y.2) :: prH r s
 | _,_ => []
def prE (x y:Int × Int × List Iv):List (Int × Int):=(x.1,y.1) :: (x.2.1,y.2.1) :: ((x.2.2.length:Int),(y.2.2.length:Int)) :: if x.2.2.length=y.2.2.length then prH x.2.2 y.2.2 else []
def prL:v6→v6→List (Int × Int)
 | x :: r,y :: s=>prE x y++if x.2.2.length=y.2.2.length then prL r s else []
 | _,_ => []
def prV (V V':v6):List (Int × Int):=((V.length:Int),(V'.length:Int)) :: if V.length=V'.length then prL V V' else []
def zq9:List (Int × Int)→Int
 | []=>0
 | (a,b) :: r=>if a<b then -1 else if b<a then 1 else zq9 r
theorem zf4 {a b:Int} {A B:List Int} (h:a=b→g9 A B=zq9 L):g9 (a :: A) (b :: B)=zq9 ((a,b) :: L):=by grind [g9,zq9]
theorem ww4:∀ (H H':List Iv) {A B:List Int} {L:List (Int × Int)},H.length=H'.length→g9 A B=zq9 L→g9 (ivN H++A) (ivN H'++B)=zq9 (prH H H'++L)
 | [],[],_,_,_,_,h=>h
 | x :: r,y :: s,_,_,_,hl,h=>zf4 fun _=>zf4 fun _=>ww4 r s (by simpa using hl) h
 | [],_ :: _,_,_,_,hl,_=>by simp at hl
 | _ :: _,[],_,_,_,hl,_=>by simp at hl
theorem v68 (x y:Int × Int × List Iv) {A B:List Int} (h:g9 A B=zq9 L) :
 g9 (zv1 x++A) (zv1 y++B)=zq9 (prE x y++if x.2.2.length=y.2.2.length then L else []):=by
 refine zf4 fun _=>zf4 fun _ => ?_
 by_cases hl:x.2.2.length=y.2.2.length
 ·rw [if_pos hl,if_pos hl]
  exact zf4 fun _=>ww4 _ _ hl h
 ·rw [if_neg hl,if_neg hl]
  exact zf4 fun e=>absurd (by omega) hl
theorem ww5:∀ (V V':v6),V.length=V'.length→g9 (V.flatMap zv1) (V'.flatMap zv1)=zq9 (prL V V')
 | [],[],_=>rfl
 | x :: r,y :: s,hl=>by
   rw [List.flatMap_cons,List.flatMap_cons]
   exact v68 x y (ww5 r s (by simpa using hl))
 | [],_ :: _,hl=>by simp at hl
 | _ :: _,[],hl=>by simp at hl
theorem v69 (V V':v6):zq9 (prV V V')=g9 (r3 V) (r3 V'):=by
 refine (zf4 fun e => ?_).symm
 grind [ww5]
def x88 (x:Int × Int):Array Value:=#[.int .u64 x.1,.int .u64 x.2]
theorem zx2 {a:Nat} (h:a≤9223372036854775807):IntKind.u64.wrap (a:Int)=(a:Int):=by
 have e:IntKind.u64.wrap (a:Int)=(a:Int) % 18446744073709551616:=by kernel_rfl
 rw [e];omega
theorem zk3 {α:Type} {f g L R:List α} {x:α} (h:f++L=g++x :: R):g ++ [x] <+: f++L:=⟨R,by rw [h];simp⟩
set_option maxRecDepth 100000 in
set_option maxHeartbeats 2000000 in
theorem yi2 (n:Nat) (a b:Nat) (ha:a≤9223372036854775807) (hb:b≤9223372036854775807) (T0:Nat→Prop) (W0:World) :
 v71 n Tryz.prog 158 #[.int .i64 a,.int .i64 b] x88 [((a:Int),(b:Int))] (decide (a=b)) T0 W0:=by
 intro l J Jx f0 hab hY hJ0
 have HY:=qh hY;clear hY
 have HK:=qh hab;clear hab
 have HJ0:=qh hJ0;clear hJ0
 have e1:IntKind.u64.wrap (a:Int)=(a:Int):=zx2 ha
 have e2:IntKind.u64.wrap (b:Int)=(b:Int):=zx2 hb
 have e3:((a:Int) == (b:Int))=decide (a=b):=by rw [Bool.eq_iff_iff,beq_iff_eq,decide_eq_true_eq];omega
 have HE:=qh e3;clear e3
 refine callsIn_of_wp Tryz.func158 rfl trivial ?_ rfl
 simp only [Tryz.ntmps158,List.size_toArray,List.length_cons,List.length_nil,Nat.reduceAdd,Nat.reduceSub,Array.replicate_succ,Array.replicate_zero,List.push_toArray,List.append_toArray,List.nil_append,List.cons_append]
 gi_wp2
 obtain ⟨fn,tmps,assign,body,hy,hR⟩:=HY.out f0 ((a:Int),(b:Int)) T0 W0 HJ0.out (List.prefix_refl _)
 unfold x88 at hy
 dsimp only at hy
 rw [hy,Oper.uponIn_round]
 refine ⟨fun h=>(by cases h),(RoundIn.anyDepth hR).mono ?_⟩
 clear hy hR
 rintro e W3 ⟨hap,⟨rfl,hJ3⟩ | ⟨rfl,hJ3⟩⟩
 ·have HJ3:=qh (And.intro hap hJ3);clear hJ3 hap
  gi_wp2
  refine bodyPost_ret (results_tmp rfl _ _ _) rfl ?_
  exact ⟨HJ3.out.1,.inl ⟨by rw [HE.out];rfl,T0,fun _ h=>h,HJ3.out.2⟩⟩
 ·have HJ3:=qh (And.intro hap hJ3);clear hJ3 hap
  gi_wp2
  refine bodyPost_ret (results_tmp rfl _ _ _) rfl ?_
  exact ⟨HJ3.out.1,.inr ⟨rfl,HJ3.out.2⟩⟩
structure OfE (e:Nat) (x1 x2 y1 y2:Int) (s t:Value) (w0 W0:World) (T0 T:Nat→Prop) (W:World):Prop where
 a0:W.cell? ⟨e,0,none⟩=some (.int .u64 x1)
 a1:W.cell? ⟨e,1,none⟩=some (.int .u64 x2)
 a2:W.cell? ⟨e,2,none⟩=some s
 b0:W.cell? ⟨e+1,0,none⟩=some (.int .u64 y1)
 b1:W.cell? ⟨e+1,1,none⟩=some (.int .u64 y2)
 b2:W.cell? ⟨e+1,2,none⟩=some t
 low:Below w0.heap.size w0 W
 ta:T e
 tb:T (e+1)
 t0:∀ k,k<w0.heap.size→T k
 sub:∀ k,T0 k→T k
 ap:y5 (fun k=>¬ T0 k) W0 W
theorem OfE.apart {T0 T:Nat→Prop} (h:OfE e x1 x2 y1 y2 s t w0 W0 T0 T A) (k:y5 (fun k=>¬ T k) A B):OfE e x1 x2 y1 y2 s t w0 W0 T0 T B:=
 ⟨k.cell h.a0 (fun n=>n h.ta),k.cell h.a1 (fun n=>n h.ta),k.cell h.a2 (fun n=>n h.ta),k.cell h.b0 (fun n=>n h.tb),k.cell h.b1 (fun n=>n h.tb),k.cell h.b2 (fun n=>n h.tb),
  h.low.trans (k.below h.low.size fun i hi n=>n (h.t0 i hi)),h.ta,h.tb,h.t0,h.sub,h.ap.trans (k.mono fun i _ n hi=>n (h.sub i hi))⟩
theorem OfE.ext {T0 T T':Nat→Prop} (h:OfE e x1 x2 y1 y2 s t w0 W0 T0 T A) (k:Below A.heap.size A B) (ht:∀ i,T i→T' i):OfE e x1 x2 y1 y2 s t w0 W0 T0 T' B:=
 ⟨z6 h.a0 k,z6 h.a1 k,z6 h.a2 k,z6 h.b0 k,z6 h.b1 k,z6 h.b2 k,h.low.trans (k.mono h.low.size),ht _ h.ta,ht _ h.tb,fun i hi=>ht _ (h.t0 i hi),fun i hi=>ht _ (h.sub i hi),h.ap.trans (y5.of_below _ k)⟩
theorem OfE.new {T0:Nat→Prop} (e:Nat) (he:W0.heap.size=e) (hT:∀ k,k<w0.heap.size→T0 k) (hb:Below w0.heap.size w0 W0) (hlow:∀ k,T0 k→k<W0.heap.size) {w1:World} {u:TypeId}
 (hw:(W0.alloc (.cells #[.int .u64 x1,.int .u64 x2,s] u)).alloc (.cells #[.int .u64 y1,.int .u64 y2,t] u)=w1) :
 OfE e x1 x2 y1 y2 s t w0 W0 T0 (fun k=>T0 k∨k=e∨k=e+1) w1∧Ext T0 (fun k=>T0 k∨k=e∨k=e+1) W0 w1:=by
 subst he hw
 have hb1:=z8 W0 (.cells #[.int .u64 x1,.int .u64 x2,s] u)
 have hb2:=z8 (W0.alloc (.cells #[.int .u64 x1,.int .u64 x2,s] u)) (.cells #[.int .u64 y1,.int .u64 y2,t] u)
 have hbb:=z7 hb1 hb2
 refine ⟨⟨z6 (by simp) hb2,z6 (by simp) hb2,z6 (by simp) hb2,?_,?_,?_,hb.trans (hbb.mono hb.size),.inr (.inl rfl),.inr (.inr rfl),fun k hk => .inl (hT k hk),fun k hk => .inl hk,y5.of_below _ hbb⟩,hbb,fun k hk => ?_⟩
 ·rw [World.cell?_alloc_at _ _ _ _ (by simp)];rfl
 ·rw [World.cell?_alloc_at _ _ _ _ (by simp)];rfl
 ·rw [World.cell?_alloc_at _ _ _ _ (by simp)];rfl
 ·rcases hk with hk | hk | hk
  ·exact ⟨.inl hk,Nat.lt_of_lt_of_le (hlow k hk) hbb.size⟩
  ·exact ⟨.inr (by omega),by simp;omega⟩
  ·exact ⟨.inr (by omega),by simp;omega⟩
theorem wz0 {H H':List Iv} {h1 h2 g1 g2:Int} (hx:H[k]? = some (h1,h2)) (hy:H'[k]? = some (g1,g2)):prH (H.drop k) (H'.drop k)=(h1,g1) :: (h2,g2) :: prH (H.drop (k+1)) (H'.drop (k+1)):=by
 obtain ⟨k1,e1⟩:=List.getElem?_eq_some_iff.1 hx
 obtain ⟨k2,e2⟩:=List.getElem?_eq_some_iff.1 hy
 rw [List.drop_eq_getElem_cons k1,List.drop_eq_getElem_cons k2,e1,e2]
 rfl
theorem x89 {T:Nat→Prop} {a0 a1 a2 a3 a4:Addr} (h:A.cell? a0=some u0∧A.cell? a1=some u1∧A.cell? a2=some u2∧A.cell? a3=some u3∧A.cell? a4=some u4) (k:y5 (fun k=>¬ T k) A B)
 (t:T a0.block∧T a1.block∧T a2.block∧T a3.block∧T a4.block):B.cell? a0=some u0∧B.cell? a1=some u1∧B.cell? a2=some u2∧B.cell? a3=some u3∧B.cell? a4=some u4:=
 ⟨k.cell h.1 (fun n=>n t.1),k.cell h.2.1 (fun n=>n t.2.1),k.cell h.2.2.1 (fun n=>n t.2.2.1),k.cell h.2.2.2.1 (fun n=>n t.2.2.2.1),k.cell h.2.2.2.2 (fun n=>n t.2.2.2.2)⟩
set_option maxRecDepth 100000 in
set_option maxHeartbeats 8000000 in
theorem yo4 (n:Nat) (x1 x2 y1 y2:Int) (H H':List Iv) (s t:Value) (w0 W0:World) (T0:Nat→Prop) (hT:∀ k,k<w0.heap.size→T0 k) (hb:Below w0.heap.size w0 W0) (hs:v7 w0 s H) (ht:v7 w0 t H') :
 v71 n Tryz.prog 159 #[.agg #[.int .u64 x1,.int .u64 x2,s],.agg #[.int .u64 y1,.int .u64 y2,t]] x88 (prE (x1,x2,H) (y1,y2,H')) (decide (H.length=H'.length)) T0 W0:=by
 obtain ⟨p,cs,rfl,hl1⟩:=hs.shape
 obtain ⟨q,ct,rfl,hl2⟩:=ht.shape
 intro l J Jx f0 hab hY hJ0
 obtain ⟨e,he⟩:∃ e,W0.heap.size=e:=⟨_,rfl⟩
 obtain ⟨w1,hw1⟩:∃ w1,(W0.alloc (.cells #[.int .u64 x1,.int .u64 x2,.slice p H.length cs] 63)).alloc (.cells #[.int .u64 y1,.int .u64 y2,.slice q H'.length ct] 63)=w1:=⟨_,rfl⟩
 obtain ⟨ho,hex⟩:=OfE.new (w0:=w0) e he hT hb (hab.low _ _ _ hJ0) hw1
 have HO:=qh ho;clear ho
 have HJ1:=qh (hab.go _ _ _ _ _ hJ0 hex);clear hJ0 hex
 obtain ⟨L,hL⟩:∃ L,prE (x1,x2,H) (y1,y2,H')=L:=⟨_,rfl⟩
 rw [hL] at hY ⊢
 have HL:=qh hL;clear hL
 have HY:=qh hY;clear hY
 have HK:=qh hab;clear hab
 have HI:=qh (And.intro hs ht);clear hs ht hT hb
 have HW:=qh (And.intro hw1 he);clear hw1 he
 obtain ⟨T1,hT1⟩:∃ T1:Nat→Prop,(fun k=>T0 k∨k=e∨k=e+1)=T1:=⟨_,rfl⟩
 rw [hT1] at HO HJ1
 clear hT1
 have hp1:f0++L=f0++(x1,y1) :: (x2,y2) :: ((H.length:Int),(H'.length:Int)) :: if H.length=H'.length then prH H H' else []:=by rw [← HL.out];rfl
 have hp2:f0++L=(f0 ++ [(x1,y1)])++(x2,y2) :: ((H.length:Int),(H'.length:Int)) :: if H.length=H'.length then prH H H' else []:=by rw [hp1];simp
 have hp3:f0++L=(f0 ++ [(x1,y1)] ++ [(x2,y2)])++((H.length:Int),(H'.length:Int)) :: if H.length=H'.length then prH H H' else []:=by rw [hp1];simp
 have HP:=qh (And.intro hp1 (And.intro hp2 hp3));clear hp1 hp2 hp3
 refine callsIn_of_wp Tryz.func159 rfl trivial ?_ rfl
 simp only [Tryz.ntmps159,List.size_toArray,List.length_cons,List.length_nil,Nat.reduceAdd,Nat.reduceSub,Array.replicate_succ,Array.replicate_zero,List.push_toArray,List.append_toArray,List.nil_append,List.cons_append]
 gi_wp2
 rw [HW.out.1,HW.out.2]
 obtain ⟨fn,tmps,assign,body,hy,hR⟩:=HY.out f0 (x1,y1) T1 w1 HJ1.out (zk3 HP.out.1)
 unfold x88 at hy
 dsimp only at hy
 rw [hy,Oper.uponIn_round]
 refine ⟨fun h=>(by cases h),(RoundIn.anyDepth hR).mono ?_⟩
 clear hy hR
 rintro en W3 ⟨hap,⟨rfl,hJ3⟩ | ⟨rfl,hJ3⟩⟩
 ·have HO3:=qh (HO.out.apart hap)
  have HJ3:=qh hJ3;clear hJ3 hap HJ1 HO
  obtain ⟨a0,a1,a2,b0,b1,b2,_⟩:=HO3.out
  gi_wp2
  obtain ⟨fn,tmps,assign,body,hy,hR⟩:=HY.out _ (x2,y2) T1 W3 HJ3.out (zk3 HP.out.2.1)
  unfold x88 at hy
  dsimp only at hy
  rw [hy,Oper.uponIn_round]
  refine ⟨fun h=>(by cases h),(RoundIn.anyDepth hR).mono ?_⟩
  clear hy hR a0 a1 a2 b0 b1 b2
  rintro en W4 ⟨hap,⟨rfl,hJ4⟩ | ⟨rfl,hJ4⟩⟩
  ·have HO4:=qh (HO3.out.apart hap)
   have HJ4:=qh hJ4;clear hJ4 hap HJ3 HO3
   obtain ⟨a0,a1,a2,b0,b1,b2,_⟩:=HO4.out
   gi_wp2
   refine ⟨trivial,fun h=>(by cases h),?_⟩
   refine (yi2 (n - 1) H.length H'.length (by omega) (by omega) T1 W4 l J Jx _ HK.out (HY.out.part (zk3 HP.out.2.2)) HJ4.out).mono ?_
   clear a0 a1 a2 b0 b1 b2
   rintro en W5 ⟨hap,(⟨rfl,T,hsub,hJ5⟩ | ⟨rfl,hJ5⟩)⟩
   ·have HO5:=qh ((HO4.out.apart hap).ext (Below.refl _ _) hsub)
    have HJ5:=qh hJ5;clear hJ5 hap hsub HJ4 HO4
    obtain ⟨a0,a1,a2,b0,b1,b2,_⟩:=HO5.out
    by_cases hlen:H.length=H'.length
    ·have hd:decide (H.length=H'.length)=true:=decide_eq_true hlen
     rw [hd]
     have HLEN:=qh hlen
     have hpl:=HP.out.2.2
     rw [if_pos hlen] at hpl
     have HPL:=qh (hpl.trans (show _=(f0 ++ [(x1,y1)] ++ [(x2,y2)] ++ [((H.length:Int),(H'.length:Int))])++prH (H.drop 0) (H'.drop 0) by simp));clear hpl hlen hd HP
     gi_wp2
     gi_loopw [39] (fun i wr=>∃ (k:Nat) (T:Nat→Prop) (g:List (Int × Int)),i = .int .i64 k∧k≤H.length∧f0++L=g++prH (H.drop k) (H'.drop k)∧OfE e x1 x2 y1 y2 (.slice p H.length cs) (.slice q H'.length ct) w0 W0 T0 T wr∧J g T wr) (fun i _=>H.length - (intOf i).toNat)
     case atStart=>exact ⟨0,T,_,rfl,Nat.zero_le _,HPL.out,HO5.out,HJ5.out⟩
     case round =>
      clear a0 a1 a2 b0 b1 b2
      obtain ⟨k,T2,g,rfl,hk,hg,ho,hj⟩:=hrel
      have HG:=qh hg;clear hg
      have HO:=qh ho;clear ho
      have HJ:=qh hj;clear hj
      by_cases hlt:k<H.length
      ·have hlt2:k<H'.length:=by rw [← HLEN.out];exact hlt
       obtain ⟨⟨h1,h2⟩,hx⟩:∃ x,H[k]? = some x:=⟨H[k],by simp [hlt]⟩
       obtain ⟨⟨g1,g2⟩,hy⟩:∃ y,H'[k]? = some y:=⟨H'[k],by simp [hlt2]⟩
       obtain ⟨b,o,cb,eb,c0,c1⟩:=HI.out.1.elem hx
       cases eb
       obtain ⟨b',o',cb',eb',d0,d1⟩:=HI.out.2.elem hy
       cases eb'
       dsimp only at c0 c1 d0 d1
       have HBL:=qh (World.block_lt_of_cell? w0 _ d0)
       have hlow:=HO.out.low
       replace c0:=z6 c0 hlow
       replace c1:=z6 c1 hlow
       have HG2:=qh (HG.out.trans (by rw [wz0 hx hy]));clear hx hy
       obtain ⟨w2,hw2⟩:∃ w2,wr.alloc (.cells #[.int .u64 h1,.int .u64 h2] 65)=w2:=⟨_,rfl⟩
       obtain ⟨hbx,hhx⟩:∃ hbx,wr.heap.size=hbx:=⟨_,rfl⟩
       have hb2:Below wr.heap.size wr w2:=hw2 ▸ z8 _ _
       have hhole:w2.cell? ⟨hbx,0,none⟩=some (.int .u64 h1)∧w2.cell? ⟨hbx,1,none⟩=some (.int .u64 h2):=by rw [← hw2,← hhx];exact ⟨by simp,by simp⟩
       obtain ⟨T3,hT3⟩:∃ T3:Nat→Prop,(fun k=>T2 k∨k=hbx)=T3:=⟨_,rfl⟩
       have hs32:∀ i,T2 i→T3 i:=fun i hi=>by rw [← hT3];exact .inl hi
       have ht3:T3 hbx:=by rw [← hT3];exact .inr rfl
       have hex:Ext T2 T3 wr w2.drew:=by
        rw [← hT3]
        exact Ext.one (z7 hb2 (Below.refl _ _).drew) (HK.out.low _ _ _ HJ.out) hbx (by omega) (by have:=hb2.size;rw [← hhx,← hw2];simp)
       have HO2:=qh (HO.out.ext (z7 hb2 (Below.refl _ _).drew) hs32)
       have HJ2:=qh (HK.out.go _ _ _ _ _ HJ.out hex)
       have hb3:=HO2.out.b2
       have hd0:=z6 d0 HO2.out.low
       have hd1:=z6 d1 HO2.out.low
       have HT3:=qh (And.intro ht3 (And.intro HO2.out.tb (HO2.out.t0 _ HBL.out)))
       have HS:=qh (And.intro (z6 hhole.1 (Below.refl _ _).drew) (And.intro (z6 hhole.2 (Below.refl _ _).drew) (And.intro hb3 (And.intro hd0 hd1))))
       have HW2:=qh (And.intro hw2 hhx)
       clear hw2 hhx hb2 hhole hT3 hs32 ht3 hex hb3 hd0 hd1 d0 d1 HJ HO hlow
       have i1:(0:Int)≤(k:Int):=by omega
       have i2:(k:Int)<(H.length:Int):=by omega
       have i3:(k:Int)<(H'.length:Int):=by omega
       have HLT:=qh hlt
       have HM:=qh hk;clear hk
       gi_wp2
       rw [HW2.out.1,HW2.out.2]
       refine x93 (S:=fun w'=>w'.cell? ⟨hbx,0,none⟩=some (.int .u64 h1)∧w'.cell? ⟨hbx,1,none⟩=some (.int .u64 h2)∧w'.cell? ⟨e+1,2,none⟩=some (.slice (some ⟨b',o',none⟩) H'.length ct)∧w'.cell? ⟨b',o'+k*2,none⟩=some (.int .u64 g1)∧w'.cell? ⟨b',o'+k*2+1,none⟩=some (.int .u64 g2)) (by kernel_rfl) ?_
       have hHeld:=HS.out
       clear c0 c1
       refine it (i:=0) (v := ?_) ⟨some 44,.move (.tmp 2),190,_,_,none⟩ hHeld ?_ ?_
       rotate_left
       ·intro wS hSw;(try dsimp only at hSw);go_simp <;> with_reducible rfl
       try simp only [Act.put,o6,o7,o8]
       refine it (i:=1) (v := ?_) ⟨some 45,.fieldAddr 65 (.tmp 8) 0,0,_,_,none⟩ hHeld ?_ ?_
       rotate_left
       ·intro wS hSw;(try dsimp only at hSw);go_simp <;> with_reducible rfl
       try simp only [Act.put,o6,o7,o8]
       refine it (i:=2) (v := ?_) ⟨some 46,.load 36 (.tmp 45),36,_,_,none⟩ hHeld ?_ ?_
       rotate_left
       ·intro wS hSw;(try dsimp only at hSw);go_simp <;> with_reducible rfl
       try simp only [Act.put,o6,o7,o8]
       refine it (i:=3) (v := ?_) ⟨some 47,.fieldAddr 63 (.tmp 4) 2,0,_,_,none⟩ hHeld ?_ ?_
       rotate_left
       ·intro wS hSw;(try dsimp only at hSw);go_simp <;> with_reducible rfl
       try simp only [Act.put,o6,o7,o8]
       refine it (i:=4) (v := ?_) ⟨some 48,.load 42 (.tmp 47),42,_,_,none⟩ hHeld ?_ ?_
       rotate_left
       ·intro wS hSw;(try dsimp only at hSw);go_simp <;> with_reducible rfl
       try simp only [Act.put,o6,o7,o8]
       refine it (i:=5) (v := ?_) ⟨some 49,.move (.tmp 7),3,_,_,none⟩ hHeld ?_ ?_
       rotate_left
       ·intro wS hSw;(try dsimp only at hSw);go_simp <;> with_reducible rfl
       try simp only [Act.put,o6,o7,o8]
       refine it (i:=6) (v := ?_) ⟨some 50,.indexAddr 42 (.tmp 48) (.tmp 49),0,_,_,none⟩ hHeld ?_ ?_
       rotate_left
       ·intro wS hSw;(try dsimp only at hSw);go_simp <;> with_reducible rfl
       try simp only [Act.put,o6,o7,o8]
       refine it (i:=7) (v := ?_) ⟨some 51,.fieldAddr 65 (.tmp 50) 0,0,_,_,none⟩ hHeld ?_ ?_
       rotate_left
       ·intro wS hSw;(try dsimp only at hSw);go_simp <;> with_reducible rfl
       try simp only [Act.put,o6,o7,o8]
       refine it (i:=8) (v := ?_) ⟨some 52,.load 36 (.tmp 51),36,_,_,none⟩ hHeld ?_ ?_
       rotate_left
       ·intro wS hSw;(try dsimp only at hSw);go_simp <;> with_reducible rfl
       try simp only [Act.put,o6,o7,o8]
       refine we6 (i:=9) (l:=l) ⟨some 53,.call { callee := .value (.tmp 44),args:=#[.tmp 46,.tmp 52],argTypes:=#[36,36] },4,_,_,none⟩ rfl (by kernel_rfl) (by rfl) (by go_simp <;> rfl) (HY.out g (h1,g1) T3 _ HJ2.out (zk3 HG2.out)) ?_
       rintro en W6 ⟨hap,hway⟩
       have HO3:=qh (HO2.out.apart hap)
       replace hHeld:=x89 hHeld hap ⟨HT3.out.1,HT3.out.1,HT3.out.2.1,HT3.out.2.2,HT3.out.2.2⟩
       rcases hway with ⟨rfl,hJ6⟩ | ⟨rfl,hJ6⟩
       ·have HJ3:=qh hJ6;clear hJ6 hap
        refine ⟨_,rfl,hHeld,?_⟩
        try simp only [Act.put,o6,o7,o8]
        refine it (i:=10) (v := ?_) ⟨some 54,.unOp UnOp.not 4 (.tmp 53),4,_,_,none⟩ hHeld ?_ ?_
        rotate_left
        ·intro wS hSw;(try dsimp only at hSw);go_simp <;> with_reducible rfl
        try simp only [Act.put,o6,o7,o8]
        refine it (i:=11) (v := ?_) ⟨some 55,.move (.tmp 54),4,_,_,none⟩ hHeld ?_ ?_
        rotate_left
        ·intro wS hSw;(try dsimp only at hSw);go_simp <;> with_reducible rfl
        try simp only [Act.put,o6,o7,o8]
        refine it (i:=12) (v := ?_) ⟨some 56,.move (.tmp 2),190,_,_,some (11,false)⟩ hHeld ?_ ?_
        rotate_left
        ·intro wS hSw;(try dsimp only at hSw);go_simp <;> with_reducible rfl
        try simp only [Act.put,o6,o7,o8]
        refine it (i:=13) (v := ?_) ⟨some 57,.fieldAddr 65 (.tmp 8) 1,0,_,_,some (11,false)⟩ hHeld ?_ ?_
        rotate_left
        ·intro wS hSw;(try dsimp only at hSw);go_simp <;> with_reducible rfl
        try simp only [Act.put,o6,o7,o8]
        refine it (i:=14) (v := ?_) ⟨some 58,.load 36 (.tmp 57),36,_,_,some (11,false)⟩ hHeld ?_ ?_
        rotate_left
        ·intro wS hSw;(try dsimp only at hSw);go_simp <;> with_reducible rfl
        try simp only [Act.put,o6,o7,o8]
        refine it (i:=15) (v := ?_) ⟨some 59,.fieldAddr 63 (.tmp 4) 2,0,_,_,some (11,false)⟩ hHeld ?_ ?_
        rotate_left
        ·intro wS hSw;(try dsimp only at hSw);go_simp <;> with_reducible rfl
        try simp only [Act.put,o6,o7,o8]
        refine it (i:=16) (v := ?_) ⟨some 60,.load 42 (.tmp 59),42,_,_,some (11,false)⟩ hHeld ?_ ?_
        rotate_left
        ·intro wS hSw;(try dsimp only at hSw);go_simp <;> with_reducible rfl
        try simp only [Act.put,o6,o7,o8]
        refine it (i:=17) (v := ?_) ⟨some 61,.move (.tmp 7),3,_,_,some (11,false)⟩ hHeld ?_ ?_
        rotate_left
        ·intro wS hSw;(try dsimp only at hSw);go_simp <;> with_reducible rfl
        try simp only [Act.put,o6,o7,o8]
        refine it (i:=18) (v := ?_) ⟨some 62,.indexAddr 42 (.tmp 60) (.tmp 61),0,_,_,some (11,false)⟩ hHeld ?_ ?_
        rotate_left
        ·intro wS hSw;(try dsimp only at hSw);go_simp <;> with_reducible rfl
        try simp only [Act.put,o6,o7,o8]
        refine it (i:=19) (v := ?_) ⟨some 63,.fieldAddr 65 (.tmp 62) 1,0,_,_,some (11,false)⟩ hHeld ?_ ?_
        rotate_left
        ·intro wS hSw;(try dsimp only at hSw);go_simp <;> with_reducible rfl
        try simp only [Act.put,o6,o7,o8]
        refine it (i:=20) (v := ?_) ⟨some 64,.load 36 (.tmp 63),36,_,_,some (11,false)⟩ hHeld ?_ ?_
        rotate_left
        ·intro wS hSw;(try dsimp only at hSw);go_simp <;> with_reducible rfl
        try simp only [Act.put,o6,o7,o8]
        refine we6 (i:=21) (l:=l) ⟨some 65,.call { callee := .value (.tmp 56),args:=#[.tmp 58,.tmp 64],argTypes:=#[36,36] },4,_,_,some (11,false)⟩ rfl (by kernel_rfl) (by rfl) (by go_simp <;> rfl) (HY.out _ (h2,g2) T3 _ HJ3.out (zk3 (HG2.out.trans (show _=(g ++ [(h1,g1)])++(h2,g2) :: prH (H.drop (k+1)) (H'.drop (k+1)) by simp)))) ?_
        rintro en W7 ⟨hap,hway⟩
        have HO4:=qh (HO3.out.apart hap)
        replace hHeld:=x89 hHeld hap ⟨HT3.out.1,HT3.out.1,HT3.out.2.1,HT3.out.2.2,HT3.out.2.2⟩
        rcases hway with ⟨rfl,hJ7⟩ | ⟨rfl,hJ7⟩
        ·have HJ4:=qh hJ7;clear hJ7 hap
         refine ⟨_,rfl,hHeld,?_⟩
         try simp only [Act.put,o6,o7,o8]
         refine it (i:=22) (v := ?_) ⟨some 66,.unOp UnOp.not 4 (.tmp 65),4,_,_,some (11,false)⟩ hHeld ?_ ?_
         rotate_left
         ·intro wS hSw;(try dsimp only at hSw);go_simp <;> with_reducible rfl
         try simp only [Act.put,o6,o7,o8]
         refine it (i:=23) (v := ?_) ⟨some 67,.pick (.tmp 55) (.const (Value.bool true)) (.tmp 66),4,_,_,none⟩ hHeld ?_ ?_
         rotate_left
         ·intro wS hSw;(try dsimp only at hSw);go_simp <;> with_reducible rfl
         try simp only [Act.put,o6,o7,o8]
         refine ys7 (by kernel_rfl) ?_ _
         gi_wp2
         go_roundw
         case rel=>exact ⟨k+1,T3,_,rfl,HLT.out,by rw [HG2.out];simp,HO4.out,HJ4.out⟩
         case measure=>have:=HLT.out;simp [intOf] at this ⊢;omega
        ·have HJX:=qh (And.intro HO4.out.ap hJ7);clear hJ7 hap
         refine ⟨_,rfl,hHeld,?_⟩
         try simp only [Act.put,o6,o7,o8]
         refine it (i:=22) (v := ?_) ⟨some 66,.unOp UnOp.not 4 (.tmp 65),4,_,_,some (11,false)⟩ hHeld ?_ ?_
         rotate_left
         ·intro wS hSw;(try dsimp only at hSw);go_simp <;> with_reducible rfl
         try simp only [Act.put,o6,o7,o8]
         refine it (i:=23) (v := ?_) ⟨some 67,.pick (.tmp 55) (.const (Value.bool true)) (.tmp 66),4,_,_,none⟩ hHeld ?_ ?_
         rotate_left
         ·intro wS hSw;(try dsimp only at hSw);go_simp <;> with_reducible rfl
         try simp only [Act.put,o6,o7,o8]
         refine ys7 (by kernel_rfl) ?_ _
         gi_wp2
         refine bodyPost_ret (results_tmp rfl _ _ _) rfl ?_
         exact ⟨HJX.out.1,.inr ⟨rfl,HJX.out.2⟩⟩
       ·have HJX:=qh (And.intro HO3.out.ap hJ6);clear hJ6 hap
        refine ⟨_,rfl,hHeld,?_⟩
        try simp only [Act.put,o6,o7,o8]
        refine it (i:=10) (v := ?_) ⟨some 54,.unOp UnOp.not 4 (.tmp 53),4,_,_,none⟩ hHeld ?_ ?_
        rotate_left
        ·intro wS hSw;(try dsimp only at hSw);go_simp <;> with_reducible rfl
        try simp only [Act.put,o6,o7,o8]
        refine it (i:=11) (v := ?_) ⟨some 55,.move (.tmp 54),4,_,_,none⟩ hHeld ?_ ?_
        rotate_left
        ·intro wS hSw;(try dsimp only at hSw);go_simp <;> with_reducible rfl
        try simp only [Act.put,o6,o7,o8]
        refine ik (i:=12) ⟨some 56,.move (.tmp 2),190,_,_,some (11,false)⟩ hHeld ?_
        try simp only [Act.put,o6,o7,o8]
        refine ik (i:=13) ⟨some 57,.fieldAddr 65 (.tmp 8) 1,0,_,_,some (11,false)⟩ hHeld ?_
        try simp only [Act.put,o6,o7,o8]
        refine ik (i:=14) ⟨some 58,.load 36 (.tmp 57),36,_,_,some (11,false)⟩ hHeld ?_
        try simp only [Act.put,o6,o7,o8]
        refine ik (i:=15) ⟨some 59,.fieldAddr 63 (.tmp 4) 2,0,_,_,some (11,false)⟩ hHeld ?_
        try simp only [Act.put,o6,o7,o8]
        refine ik (i:=16) ⟨some 60,.load 42 (.tmp 59),42,_,_,some (11,false)⟩ hHeld ?_
        try simp only [Act.put,o6,o7,o8]
        refine ik (i:=17) ⟨some 61,.move (.tmp 7),3,_,_,some (11,false)⟩ hHeld ?_
        try simp only [Act.put,o6,o7,o8]
        refine ik (i:=18) ⟨some 62,.indexAddr 42 (.tmp 60) (.tmp 61),0,_,_,some (11,false)⟩ hHeld ?_
        try simp only [Act.put,o6,o7,o8]
        refine ik (i:=19) ⟨some 63,.fieldAddr 65 (.tmp 62) 1,0,_,_,some (11,false)⟩ hHeld ?_
        try simp only [Act.put,o6,o7,o8]
        refine ik (i:=20) ⟨some 64,.load 36 (.tmp 63),36,_,_,some (11,false)⟩ hHeld ?_
        try simp only [Act.put,o6,o7,o8]
        refine ik (i:=21) ⟨some 65,.call { callee := .value (.tmp 56),args:=#[.tmp 58,.tmp 64],argTypes:=#[36,36] },4,_,_,some (11,false)⟩ hHeld ?_
        try simp only [Act.put,o6,o7,o8]
        refine ik (i:=22) ⟨some 66,.unOp UnOp.not 4 (.tmp 65),4,_,_,some (11,false)⟩ hHeld ?_
        try simp only [Act.put,o6,o7,o8]
        refine it (i:=23) (v := ?_) ⟨some 67,.pick (.tmp 55) (.const (Value.bool true)) (.tmp 66),4,_,_,none⟩ hHeld ?_ ?_
        rotate_left
        ·intro wS hSw;(try dsimp only at hSw);go_simp <;> with_reducible rfl
        try simp only [Act.put,o6,o7,o8]
        refine ys7 (by kernel_rfl) ?_ _
        gi_wp2
        refine bodyPost_ret (results_tmp rfl _ _ _) rfl ?_
        exact ⟨HJX.out.1,.inr ⟨rfl,HJX.out.2⟩⟩
      ·obtain rfl:k=H.length:=by omega
       have HZ:=qh (show f0++L=g by rw [HG.out,List.drop_of_length_le (Nat.le_refl _),List.drop_of_length_le (by rw [HLEN.out];exact Nat.le_refl _)];simp [prH])
       gi_wp2
       refine bodyPost_ret (results_tmp rfl _ _ _) rfl ?_
       exact ⟨HO.out.ap,.inl ⟨by rw [decide_eq_true HLEN.out];rfl,T2,HO.out.sub,by rw [HZ.out];exact HJ.out⟩⟩
    ·have hd:decide (H.length=H'.length)=false:=decide_eq_false hlen
     rw [hd]
     have hpl:=HP.out.2.2
     rw [if_neg hlen] at hpl
     have HPL:=qh hpl;clear hpl hlen
     gi_wp2
     refine bodyPost_ret (results_tmp rfl _ _ _) rfl ?_
     exact ⟨HO5.out.ap,.inl ⟨by rw [hd];rfl,T,HO5.out.sub,by rw [HPL.out];exact HJ5.out⟩⟩
   ·have HJ5:=qh (And.intro (HO4.out.apart hap).ap hJ5);clear hJ5 HO4 hap
    gi_wp2
    refine bodyPost_ret (results_tmp rfl _ _ _) rfl ?_
    exact ⟨HJ5.out.1,.inr ⟨rfl,HJ5.out.2⟩⟩
  ·have HJ4:=qh (And.intro (HO3.out.apart hap).ap hJ4);clear hJ4 hap HO3
   gi_wp2
   refine ⟨trivial,?_⟩
   gi_wp2
   refine bodyPost_ret (results_tmp rfl _ _ _) rfl ?_
   exact ⟨HJ4.out.1,.inr ⟨rfl,HJ4.out.2⟩⟩
 ·have HJ3:=qh (And.intro (HO.out.apart hap).ap hJ3);clear hJ3 hap HO
  gi_wp2
  refine ⟨fun _ _=>trivial,?_⟩
  gi_wp2
  refine ⟨trivial,?_⟩
  gi_wp2
  refine bodyPost_ret (results_tmp rfl _ _ _) rfl ?_
  exact ⟨HJ3.out.1,.inr ⟨rfl,HJ3.out.2⟩⟩
structure NuS (ka kb:Nat) (v v':Value) (w0:World) (keep T:Nat→Prop) (W:World):Prop where
 ca:W.cell? ⟨ka,0,none⟩=some v
 cb:W.cell? ⟨kb,0,none⟩=some v'
 low:Below w0.heap.size w0 W
 ta:T ka
 tb:T kb
 k0:∀ k,k<w0.heap.size→T k
theorem NuS.apart {keep T:Nat→Prop} (h:NuS ka kb v v' w0 keep T A) (k:y5 (fun k=>¬ T k) A B):NuS ka kb v v' w0 keep T B:=
 ⟨k.cell h.ca (fun n=>n h.ta),k.cell h.cb (fun n=>n h.tb),h.low.trans (k.below h.low.size fun i hi n=>n (h.k0 i hi)),h.ta,h.tb,h.k0⟩
theorem NuS.ext {keep T T':Nat→Prop} (h:NuS ka kb v v' w0 keep T A) (k:Below A.heap.size A B) (ht:∀ i,T i→T' i):NuS ka kb v v' w0 keep T' B:=
 ⟨z6 h.ca k,z6 h.cb k,h.low.trans (k.mono h.low.size),ht _ h.ta,ht _ h.tb,fun i hi=>ht _ (h.k0 i hi)⟩
theorem wz1 {V V':v6} {x y:Int × Int × List Iv} (hx:V[k]? = some x) (hy:V'[k]? = some y):prL (V.drop k) (V'.drop k)=prE x y++if x.2.2.length=y.2.2.length then prL (V.drop (k+1)) (V'.drop (k+1)) else []:=by
 obtain ⟨k1,e1⟩:=List.getElem?_eq_some_iff.1 hx
 obtain ⟨k2,e2⟩:=List.getElem?_eq_some_iff.1 hy
 rw [List.drop_eq_getElem_cons k1,List.drop_eq_getElem_cons k2,e1,e2]
 rfl
theorem x90 {T:Nat→Prop} {a0 a1 a2 a3 a4 a5 a6:Addr} {u5 u6:Value} (h:A.cell? a0=some u0∧A.cell? a1=some u1∧A.cell? a2=some u2∧A.cell? a3=some u3∧A.cell? a4=some u4∧A.cell? a5=some u5∧A.cell? a6=some u6) (k:y5 (fun k=>¬ T k) A B)
 (t:T a0.block∧T a1.block∧T a2.block∧T a3.block∧T a4.block∧T a5.block∧T a6.block):B.cell? a0=some u0∧B.cell? a1=some u1∧B.cell? a2=some u2∧B.cell? a3=some u3∧B.cell? a4=some u4∧B.cell? a5=some u5∧B.cell? a6=some u6:=
 ⟨k.cell h.1 (fun n=>n t.1),k.cell h.2.1 (fun n=>n t.2.1),k.cell h.2.2.1 (fun n=>n t.2.2.1),k.cell h.2.2.2.1 (fun n=>n t.2.2.2.1),k.cell h.2.2.2.2.1 (fun n=>n t.2.2.2.2.1),k.cell h.2.2.2.2.2.1 (fun n=>n t.2.2.2.2.2.1),k.cell h.2.2.2.2.2.2 (fun n=>n t.2.2.2.2.2.2)⟩
set_option maxRecDepth 100000 in
set_option maxHeartbeats 8000000 in
theorem yy3 (n:Nat) (ka kb:Nat) (v v':Value) (V V':v6) (w0 W0:World) (keep:Nat→Prop) (hk0:∀ k,k<w0.heap.size→keep k) (hka:keep ka) (hkb:keep kb) (hb:Below w0.heap.size w0 W0) (hv:zd5 w0 v V) (hv':zd5 w0 v' V')
 (hca:W0.cell? ⟨ka,0,none⟩=some v) (hcb:W0.cell? ⟨kb,0,none⟩=some v'):we4 n Tryz.prog 157 #[.pointer (some ⟨ka,0,none⟩),.pointer (some ⟨kb,0,none⟩)] x88 (prV V V') keep W0:=by
 obtain ⟨p,cs,rfl⟩:=hv.shape
 obtain ⟨q,ct,rfl⟩:=hv'.shape
 have hl1:=hv.len
 have hl2:=hv'.len
 intro l J Jx hab hY hJ0
 have HN:=qh (show NuS ka kb _ _ w0 keep keep W0 from ⟨hca,hcb,hb,hka,hkb,hk0⟩);clear hca hcb hb hka hkb hk0
 have HV:=qh (And.intro hv hv');clear hv hv'
 have HJ0:=qh hJ0;clear hJ0
 have HK:=qh hab;clear hab
 obtain ⟨L,hL⟩:∃ L,prV V V'=L:=⟨_,rfl⟩
 rw [hL] at hY ⊢
 have HY:=qh hY;clear hY
 have hp1:([]:List (Int × Int))++L = []++((V.length:Int),(V'.length:Int)) :: if V.length=V'.length then prL V V' else []:=by rw [← hL];rfl
 have HP:=qh hp1;clear hp1 hL
 obtain ⟨a0,b0,_⟩:=HN.out
 refine callsIn_of_wp Tryz.func157 rfl trivial ?_ rfl
 simp only [Tryz.ntmps157,List.size_toArray,List.length_cons,List.length_nil,Nat.reduceAdd,Nat.reduceSub,Array.replicate_succ,Array.replicate_zero,List.push_toArray,List.append_toArray,List.nil_append,List.cons_append]
 gi_wp2
 refine ⟨trivial,fun h=>(by cases h),?_⟩
 refine (yi2 (n - 1) V.length V'.length (by omega) (by omega) keep W0 l J Jx [] HK.out (HY.out.part (zk3 HP.out)) HJ0.out).mono ?_
 clear a0 b0
 rintro en W5 ⟨hap,(⟨rfl,T,hsub,hJ5⟩ | ⟨rfl,hJ5⟩)⟩
 ·have HN5:=qh ((HN.out.apart hap).ext (Below.refl _ _) hsub)
  have HJ5:=qh hJ5;clear hJ5 hap hsub HN HJ0
  obtain ⟨a0,b0,_⟩:=HN5.out
  by_cases hlen:V.length=V'.length
  ·have hd:decide (V.length=V'.length)=true:=decide_eq_true hlen
   rw [hd]
   have HLEN:=qh hlen
   have hpl:=HP.out
   rw [if_pos hlen] at hpl
   have HPL:=qh (hpl.trans (show _=([] ++ [((V.length:Int),(V'.length:Int))])++prL (V.drop 0) (V'.drop 0) by simp));clear hpl hlen hd HP
   gi_wp2
   gi_loopw [15] (fun i wr=>∃ (k:Nat) (T:Nat→Prop) (g:List (Int × Int)),i = .int .i64 k∧k≤V.length ∧ []++L=g++prL (V.drop k) (V'.drop k)∧NuS ka kb (.slice p V.length cs) (.slice q V'.length ct) w0 keep T wr∧J g T wr) (fun i _=>V.length - (intOf i).toNat)
   case atStart=>exact ⟨0,T,_,rfl,Nat.zero_le _,HPL.out,HN5.out,HJ5.out⟩
   case round =>
    clear a0 b0
    obtain ⟨k,T2,g,rfl,hk,hg,ho,hj⟩:=hrel
    have HG:=qh hg;clear hg
    have HO:=qh ho;clear ho
    have HJ:=qh hj;clear hj
    by_cases hlt:k<V.length
    ·have hlt2:k<V'.length:=by rw [← HLEN.out];exact hlt
     obtain ⟨⟨x1,x2,Hx⟩,hx⟩:∃ x,V[k]? = some x:=⟨V[k],by simp [hlt]⟩
     obtain ⟨⟨y1,y2,Hy⟩,hy⟩:∃ y,V'[k]? = some y:=⟨V'[k],by simp [hlt2]⟩
     obtain ⟨b,o,cb,px,nx,cx,eb,c0,c1,c2,hax⟩:=HV.out.1.elem hx
     cases eb
     obtain ⟨b',o',cb',py,ny,cy,eb',d0,d1,d2,hay⟩:=HV.out.2.elem hy
     cases eb'
     have HBL:=qh (World.block_lt_of_cell? w0 _ d0)
     have hlow:=HO.out.low
     replace c0:=z6 c0 hlow
     replace c1:=z6 c1 hlow
     replace c2:=z6 c2 hlow
     have HE:=qh (And.intro hax.at' hay.at');clear hax hay
     have HG2:=qh (HG.out.trans (show _=g++(prE (x1,x2,Hx) (y1,y2,Hy)++if Hx.length=Hy.length then prL (V.drop (k+1)) (V'.drop (k+1)) else []) by rw [wz1 hx hy]));clear hx hy
     have HPRE:Hid (g++prE (x1,x2,Hx) (y1,y2,Hy) <+: L):=qh ⟨_,by rw [List.append_assoc];exact HG2.out.symm⟩
     obtain ⟨w2,hw2⟩:∃ w2,wr.alloc (.cells #[.int .u64 x1,.int .u64 x2,.slice px nx cx] 63)=w2:=⟨_,rfl⟩
     obtain ⟨hbx,hhx⟩:∃ hbx,wr.heap.size=hbx:=⟨_,rfl⟩
     have hb2:Below wr.heap.size wr w2:=hw2 ▸ z8 _ _
     have hbox:w2.cell? ⟨hbx,0,none⟩=some (.int .u64 x1)∧w2.cell? ⟨hbx,1,none⟩=some (.int .u64 x2)∧w2.cell? ⟨hbx,2,none⟩=some (.slice px nx cx):=by rw [← hw2,← hhx];exact ⟨by simp,by simp,by simp⟩
     obtain ⟨T3,hT3⟩:∃ T3:Nat→Prop,(fun k=>T2 k∨k=hbx)=T3:=⟨_,rfl⟩
     have hs32:∀ i,T2 i→T3 i:=fun i hi=>by rw [← hT3];exact .inl hi
     have ht3:T3 hbx:=by rw [← hT3];exact .inr rfl
     have hex:Ext T2 T3 wr w2.drew:=by
      rw [← hT3]
      exact Ext.one (z7 hb2 (Below.refl _ _).drew) (HK.out.low _ _ _ HJ.out) hbx (by omega) (by have:=hb2.size;rw [← hhx,← hw2];simp)
     have HN2:=qh (HO.out.ext (z7 hb2 (Below.refl _ _).drew) hs32)
     have HJ2:=qh (HK.out.go _ _ _ _ _ HJ.out hex)
     have hbk:=HN2.out.cb
     have hd0:=z6 d0 HN2.out.low
     have hd1:=z6 d1 HN2.out.low
     have hd2:=z6 d2 HN2.out.low
     have HT3:=qh (show T3 hbx∧T3 hbx∧T3 hbx∧T3 kb∧T3 b'∧T3 b'∧T3 b' from ⟨ht3,ht3,ht3,HN2.out.tb,HN2.out.k0 _ HBL.out,HN2.out.k0 _ HBL.out,HN2.out.k0 _ HBL.out⟩)
     have HS:=qh (And.intro (z6 hbox.1 (Below.refl _ _).drew) (And.intro (z6 hbox.2.1 (Below.refl _ _).drew) (And.intro (z6 hbox.2.2 (Below.refl _ _).drew) (And.intro hbk (And.intro hd0 (And.intro hd1 hd2))))))
     have HW2:=qh (And.intro hw2 hhx)
     clear hw2 hhx hb2 hbox hT3 hs32 ht3 hex hbk hd0 hd1 hd2 d0 d1 d2 HJ HO hlow
     have i1:(0:Int)≤(k:Int):=by omega
     have i2:(k:Int)<(V.length:Int):=by omega
     have i3:(k:Int)<(V'.length:Int):=by omega
     have HLT:=qh hlt
     have HM:=qh hk;clear hk
     gi_wp2
     rw [HW2.out.1,HW2.out.2]
     refine x93 (S:=fun w'=>w'.cell? ⟨hbx,0,none⟩=some (.int .u64 x1)∧w'.cell? ⟨hbx,1,none⟩=some (.int .u64 x2)∧w'.cell? ⟨hbx,2,none⟩=some (.slice px nx cx)∧w'.cell? ⟨kb,0,none⟩=some (.slice (some ⟨b',o',none⟩) V'.length ct)∧w'.cell? ⟨b',o'+k*3,none⟩=some (.int .u64 y1)∧w'.cell? ⟨b',o'+k*3+1,none⟩=some (.int .u64 y2)∧w'.cell? ⟨b',o'+k*3+2,none⟩=some (.slice py ny cy)) (by kernel_rfl) ?_
     have hHeld:=HS.out
     clear c0 c1 c2
     refine it (i:=0) (v := ?_) ⟨some 20,.load 63 (.tmp 5),63,_,_,none⟩ hHeld ?_ ?_
     rotate_left
     ·intro wS hSw;(try dsimp only at hSw);go_simp <;> with_reducible rfl
     try simp only [Act.put,o6,o7,o8]
     refine it (i:=1) (v := ?_) ⟨some 21,.load 44 (.tmp 2),44,_,_,none⟩ hHeld ?_ ?_
     rotate_left
     ·intro wS hSw;(try dsimp only at hSw);go_simp <;> with_reducible rfl
     try simp only [Act.put,o6,o7,o8]
     refine it (i:=2) (v := ?_) ⟨some 22,.move (.tmp 4),3,_,_,none⟩ hHeld ?_ ?_
     rotate_left
     ·intro wS hSw;(try dsimp only at hSw);go_simp <;> with_reducible rfl
     try simp only [Act.put,o6,o7,o8]
     refine it (i:=3) (v := ?_) ⟨some 23,.indexAddr 44 (.tmp 21) (.tmp 22),0,_,_,none⟩ hHeld ?_ ?_
     rotate_left
     ·intro wS hSw;(try dsimp only at hSw);go_simp <;> with_reducible rfl
     try simp only [Act.put,o6,o7,o8]
     refine it (i:=4) (v := ?_) ⟨some 24,.load 63 (.tmp 23),63,_,_,none⟩ hHeld ?_ ?_
     rotate_left
     ·intro wS hSw;(try dsimp only at hSw);go_simp <;> with_reducible rfl
     try simp only [Act.put,o6,o7,o8]
     refine it (i:=5) (v := ?_) ⟨some 25,.move (.tmp 0),190,_,_,none⟩ hHeld ?_ ?_
     rotate_left
     ·intro wS hSw;(try dsimp only at hSw);go_simp <;> with_reducible rfl
     try simp only [Act.put,o6,o7,o8]
     refine v74 (i:=6) (f:=159) ⟨some 26,.call { callee := .value (.func 159),args:=#[.tmp 20,.tmp 24,.tmp 25],argTypes:=#[63,63,190] },4,_,_,none⟩ rfl (by kernel_rfl) (by rfl) (by go_simp <;> rfl) (yo4 (n - 1) x1 x2 y1 y2 Hx Hy _ _ w0 _ T3 HN2.out.k0 HN2.out.low HE.out.1 HE.out.2 l J Jx g HK.out (HY.out.part HPRE.out) HJ2.out) ?_
     rintro en W6 ⟨hap,(⟨rfl,T5,hsub,hJ5⟩ | ⟨rfl,hJX⟩)⟩
     ·have HN5:=qh ((HN2.out.apart hap).ext (Below.refl _ _) hsub)
      have HJ5:=qh hJ5;clear hJ5
      replace hHeld:=x90 hHeld hap HT3.out
      refine ⟨_,rfl,hHeld,?_⟩
      clear hap hsub
      try simp only [Act.put,o6,o7,o8]
      by_cases hq:Hx.length=Hy.length
      ·rw [decide_eq_true hq]
       have HEQ:=qh hq;clear hq
       refine it (i:=7) (v := ?_) ⟨some 27,.unOp UnOp.not 4 (.tmp 26),4,_,_,none⟩ hHeld ?_ ?_
       rotate_left
       ·intro wS hSw;(try dsimp only at hSw);go_simp <;> with_reducible rfl
       try simp only [Act.put,o6,o7,o8]
       refine ys7 (by kernel_rfl) ?_ _
       gi_wp2
       go_roundw
       case rel=>exact ⟨k+1,T5,_,rfl,HLT.out,by rw [HG2.out,if_pos HEQ.out];simp,HN5.out,HJ5.out⟩
       case measure=>have:=HLT.out;simp [intOf] at this ⊢;omega
      ·rw [decide_eq_false hq]
       have HEQ:=qh hq;clear hq
       refine it (i:=7) (v := ?_) ⟨some 27,.unOp UnOp.not 4 (.tmp 26),4,_,_,none⟩ hHeld ?_ ?_
       rotate_left
       ·intro wS hSw;(try dsimp only at hSw);go_simp <;> with_reducible rfl
       try simp only [Act.put,o6,o7,o8]
       refine ys7 (by kernel_rfl) ?_ _
       gi_wp2
       refine bodyPost_ret (results_none rfl _ _ _) rfl ?_
       exact ⟨⟨_,rfl⟩,.inl ⟨T5,by rw [show L=_ from HG2.out,if_neg HEQ.out,List.append_nil];exact HJ5.out⟩⟩
     ·have HJX:=qh hJX;clear hJX
      replace hHeld:=x90 hHeld hap HT3.out
      clear hap
      refine ⟨_,rfl,hHeld,?_⟩
      try simp only [Act.put,o6,o7,o8]
      refine it (i:=7) (v := ?_) ⟨some 27,.unOp UnOp.not 4 (.tmp 26),4,_,_,none⟩ hHeld ?_ ?_
      rotate_left
      ·intro wS hSw;(try dsimp only at hSw);go_simp <;> with_reducible rfl
      try simp only [Act.put,o6,o7,o8]
      refine ys7 (by kernel_rfl) ?_ _
      gi_wp2
      refine bodyPost_ret (results_none rfl _ _ _) rfl ?_
      exact ⟨⟨_,rfl⟩,.inr HJX.out⟩
    ·obtain rfl:k=V.length:=by omega
     have HZ:=qh (show []++L=g by rw [HG.out,List.drop_of_length_le (Nat.le_refl _),List.drop_of_length_le (by rw [HLEN.out];exact Nat.le_refl _)];simp [prL])
     gi_wp2
     refine bodyPost_end (results_none rfl _ _ _) rfl ?_
     exact ⟨⟨_,rfl⟩,.inl ⟨T2,by rw [show L=g from HZ.out];exact HJ.out⟩⟩
  ·have hd:decide (V.length=V'.length)=false:=decide_eq_false hlen
   rw [hd]
   have hpl:=HP.out
   rw [if_neg hlen] at hpl
   have HPL:=qh hpl;clear hpl hlen
   gi_wp2
   refine bodyPost_ret (results_none rfl _ _ _) rfl ?_
   exact ⟨⟨_,rfl⟩,.inl ⟨T,by rw [show L = [] ++ [((V.length:Int),(V'.length:Int))] from HPL.out];exact HJ5.out⟩⟩
 ·have HJ5:=qh hJ5;clear hJ5 HN hap
  gi_wp2
  refine bodyPost_ret (results_none rfl _ _ _) rfl ?_
  exact ⟨⟨_,rfl⟩,.inr HJ5.out⟩
end
section
open Go.RowKit Go.Shelf Go.ChangeShapes Go.WideShapes
attribute [local go_sem] Oper.semAt_some
set_option maxRecDepth 100000 in
theorem yy4 (p q:Option Addr) (n n' c c':Nat) (w:World):Calls Tryz.prog 114 #[.slice p n c,.slice q n' c'] w (fun e w' =>
 e = .returned (.func (.func 157) #[] #[.pointer (some ⟨w.heap.size,0,none⟩),.pointer (some ⟨w.heap.size+1,0,none⟩)]) ∧
  w'=(w.alloc (.cells #[.slice p n c] 44)).alloc (.cells #[.slice q n' c'] 44)):=by
 go_enter Tryz.func114,Tryz.ntmps114
 go_wp2_with fail
 go_ret
 exact ⟨by simp,by simp⟩
theorem y49 {fn:Func} {p:Tmp} {ty:TypeId} (h:fn.results=#[.cell p ty]) (tmps:Array Value) (P:Program) (w:World) (a:Addr) (x:Value) (hp:tmps.getD p undef = .pointer (some a))
 (hx:(loadVar ty a).run P w = .ok x w):(results fn tmps).run P w = .ok x w:=by
 have ha:∀ (v:Value) (c:Addr),v = .pointer (some c)→(asAddr v).run P w = .ok c w:=fun v c e=>by subst e;rfl
 have h1:(asAddr (tmps[p]?.getD undef)).run P w = .ok a w:=by simpa using ha _ _ hp
 simp only [results,h]
 simp [Sem.run_bind,Result.andThen,h1,hx]
theorem we1 {W:World} {b:Nat} {v:Value} (h:Boxed W b 3 v):(loadVar 3 ⟨b,0,none⟩).run Tryz.prog W = .ok v W:=by
 have hc:=h.cell
 have h2:=Tryz.isAgg3
 go_simp
theorem x91:∀ {L:List (Int × Int)},(∀ x ∈ L,x.1=x.2)→zq9 L=0
 | [],_=>rfl
 | (a,b) :: r,h=>by
   have h1:a=b:=h (a,b) (by simp)
   show (if a<b then (-1:Int) else if b<a then 1 else zq9 r)=0
   rw [if_neg (by omega),if_neg (by omega)]
   exact x91 fun x hx=>h x (by simp [hx])
theorem xs0:∀ {f:List (Int × Int)} {x:Int × Int} {L:List (Int × Int)},(∀ y ∈ f,y.1=y.2)→x.1≠x.2→f ++ [x] <+: L→zq9 L=z71 x.1 x.2
 | [],(a,b),L,_,hne,h=>by
   obtain ⟨R,rfl⟩:=h
   show (if a<b then (-1:Int) else if b<a then 1 else zq9 R)=if a<b then -1 else if b<a then 1 else 0
   omega
 | (a,b) :: f,x,L,hf,hne,h=>by
   obtain ⟨R,rfl⟩:=h
   have h1:a=b:=hf (a,b) (by simp)
   show (if a<b then (-1:Int) else if b<a then 1 else zq9 (f ++ [x]++R))=_
   rw [if_neg (by omega),if_neg (by omega)]
   exact xs0 (fun y hy=>hf y (by simp [hy])) hne ⟨R,rfl⟩
theorem wq3 {a b:Int} (h:a≠b):(z71 a b != 0)=true:=by grind [z71]
structure CpI (h:Nat) (w:World) (front:List (Int × Int)) (T:Nat→Prop) (W:World):Prop where
 eq:∀ x ∈ front,x.1=x.2
 free:¬ T h
 box:Boxed W h 3 (.int .i64 0)
 low:Below h w W
set_option maxRecDepth 100000 in
set_option maxHeartbeats 4000000 in
theorem x92 (V V':v6) (v v':Value) (ka kb:Nat) (w:World) (hv:zd5 w v V) (hv':zd5 w v' V') (hca:w.cell? ⟨ka,0,none⟩=some v) (hcb:w.cell? ⟨kb,0,none⟩=some v') :
 Calls Tryz.prog 113 #[.func (.func 157) #[] #[.pointer (some ⟨ka,0,none⟩),.pointer (some ⟨kb,0,none⟩)]] w (zi6 (zq9 (prV V V')) w):=by
 refine (callsIn_wide (n:=5)).1 ?_
 obtain ⟨h,hh⟩:∃ h,w.heap.size=h:=⟨_,rfl⟩
 have hka:ka<h:=by rw [← hh];exact World.block_lt_of_cell? w _ hca
 have hkb:kb<h:=by rw [← hh];exact World.block_lt_of_cell? w _ hcb
 have HV:=qh (And.intro (And.intro hv hv') (And.intro hca hcb));clear hv hv' hca hcb
 have HH:=qh hh;clear hh
 have KC:=qh w57
 refine callsIn_of_wp_marks Tryz.func113 rfl trivial ?_ rfl
 simp only [Tryz.ntmps113,List.size_toArray,List.length_cons,List.length_nil,Nat.reduceAdd,Nat.reduceSub,Array.replicate_succ,Array.replicate_zero,List.push_toArray,List.append_toArray,List.nil_append,List.cons_append]
 gi_wp2
 have bL:=Boxed.new w 3 (.int .i64 0)
 have hB0:=z8 w (.cells #[.int .i64 0] 3)
 obtain ⟨w1,hw1⟩:∃ w1,w.alloc (.cells #[.int .i64 0] 3)=w1:=⟨_,rfl⟩
 have hs1:w1.heap.size=h+1:=by rw [← hw1,← HH.out];simp
 rw [hw1] at bL hB0 ⊢
 rw [HH.out] at bL hB0 ⊢
 clear hw1
 have hwh:h≤w.heap.size:=Nat.le_of_eq HH.out.symm
 refine xs1 (n:=5) (by omega) (gf:=157) (lb:=#[.pointer (some ⟨ka,0,none⟩),.pointer (some ⟨kb,0,none⟩)]) (encs:=x88) (L:=prV V V') (keep:=fun k=>k<h)
  rfl (enters_of Tryz.func157 (by kernel_rfl) rfl) (fun _=>rfl) (fun k hk=>by omega)
  (fun W hsW hb=>by
    have hbw:Below w.heap.size w W:=by rw [HH.out];exact hB0.trans (hb.mono (by omega))
    exact yy3 _ ka kb v v' V V' w W _ (fun k hk=>by rw [HH.out] at hk;exact hk) hka hkb hbw HV.out.1.1 HV.out.1.2 (z6 HV.out.2.1 hbw) (z6 HV.out.2.2 hbw))
  (CpI h w) (fun W=>Boxed W h 3 (.int .i64 (zq9 (prV V V')))∧Below h w W)
  (fun front T T' A B hI hx=>⟨hI.eq,fun ht=>(by
    rcases (hx.2 h ht).1 with hh | hh
    ·exact hI.free hh
    ·have:=hI.box.lt;omega),(y5.of_below (fun _=>False) hx.1).boxed hI.box id,hI.low.trans (hx.1.mono (Nat.le_of_lt hI.box.lt))⟩)
  (fun front T A B hI hab=>⟨hI.eq,hI.free,hab.boxed hI.box (by omega),hI.low.trans (hab.below (Nat.le_of_lt hI.box.lt) fun k hk=>by omega)⟩)
  (fun A B hI hab=>⟨hab.boxed hI.1 (by omega),hI.2.trans (hab.below (Nat.le_of_lt hI.1.lt) fun k hk=>by omega)⟩)
  ⟨fun x hx=>(by cases hx),Nat.lt_irrefl h,bL,hB0⟩
  (fun x a' _=>a'={ tmps:=#[.func (.func 157) #[] #[.pointer (some ⟨ka,0,none⟩),.pointer (some ⟨kb,0,none⟩)],undef,.pointer (some ⟨h,0,none⟩),.int .u64 x.1,.int .u64 x.2,undef,.func (.func 157) #[] #[.pointer (some ⟨ka,0,none⟩),.pointer (some ⟨kb,0,none⟩)],.int .u64 x.1,.int .u64 x.2,undef,undef,undef,undef,undef,undef],defers := [] })
  (fun x a' A B hx _=>hx) ?assign ?body ?done ?stop
 case assign =>
  rintro l2 front x T W K _ _ hK
  unfold x88
  gi_wp2
  exact hK _ _ (Below.refl _ _) (by simp)
 case body =>
  rintro l2 front ⟨x1,x2⟩ a' T W hI hT rfl hx hs
  have hcl:=hI.box.cell
  have hfz:=hI.box.frozen
  have HI:=qh hI;clear hI
  have HX:=qh hx;clear hx
  have HS1:=qh hs1;clear hs1
  have HT:=qh hT;clear hT
  dsimp only
  by_cases hxx:x1=x2
  ·subst hxx
   have e0:z71 x1 x1=0:=w58
   gi_wp2
   refine ⟨trivial,?_⟩
   refine (CallsIn.inRound l2 (callsIn_wide.2 (KC.out _ _ _))).mono ?_
   rintro en w' ⟨rfl,hw⟩
   obtain rfl:=hw.symm
   rw [e0]
   gi_wp2
   exact ⟨y5.refl _ _,fun y hy=>(by
    rcases List.mem_append.1 hy with hy | hy
    ·exact HI.out.eq y hy
    ·obtain rfl:=List.mem_singleton.1 hy;rfl),HI.out.free,HI.out.box,HI.out.low⟩
  ·have e0:=wq3 hxx
   have HZ:=qh (xs0 HI.out.eq hxx HX.out)
   dsimp only at HZ
   gi_wp2
   refine ⟨trivial,?_⟩
   refine (CallsIn.inRound l2 (callsIn_wide.2 (KC.out _ _ _))).mono ?_
   rintro en w' ⟨rfl,hw⟩
   obtain rfl:=hw.symm
   generalize z71 x1 x2=o at *
   gi_wp2
   have hs1:=HS1.out
   refine ⟨y5.set _ _ ?_,?_,?_⟩
   ·intro hn
    have hn:T h∨h=w1.heap.size∨h=w1.heap.size+1:=hn
    rcases hn with hn | hn
    ·exact HI.out.free hn
    ·omega
   ·rw [HZ.out];exact HI.out.box.set _
   ·exact HI.out.low.trans ((Below.refl h W).setCell (p:=⟨h,0,none⟩) (Nat.le_refl _) _)
 case done =>
  rintro D T W hD hszW hI hK
  have hv:=hI.box
  have hb:=hI.low
  have hcl:=hv.cell
  have hfz:=hv.frozen
  have HE:=qh (x91 hI.eq);clear hI
  have HVV:=qh hv;clear hv
  have HB:=qh hb;clear hb
  have HK:=qh hK;clear hK
  have HS1:=qh hs1;clear hs1
  have HD:=qh hD;clear hD
  gi_wp2
  have hs1:=HS1.out
  have hD:=HD.out
  have hK2:(W.setCell ⟨h,0,none⟩ (.int .i64 0)).heap[D]? = some (.deferred (some [])):=(y5.set (q:=fun k=>k=h) W (o:=0) (.int .i64 0) rfl).obj HK.out (by omega)
  have hv2:=y5.boxed (q:=fun k=>k=D) (y5.put _ (.deferred none) rfl) (HVV.out.set (.int .i64 0)) (by omega)
  refine ⟨by simp,.inl ⟨_,_,rfl,run_takeDeferred hK2,?_⟩⟩
  refine ⟨_,y49 rfl _ _ _ ⟨h,0,none⟩ _ rfl (we1 hv2),?_,?_⟩
  ·rw [HE.out]
  ·rw [HH.out]
   refine (HB.out.setCell (p:=⟨h,0,none⟩) (Nat.le_refl _) (.int .i64 0)).trans (belowK_b (w:=w) hwh _ D _ _ (by rw [HH.out];omega) hK2 rfl rfl)
 case stop =>
  rintro D W hD ⟨hv,hb⟩ hK
  have HVV:=qh hv;clear hv
  have HB:=qh hb;clear hb
  have HK:=qh hK;clear hK
  have HS1:=qh hs1;clear hs1
  have HD:=qh hD;clear hD
  gi_wp2
  have hs1:=HS1.out
  have hD:=HD.out
  have hv2:=y5.boxed (q:=fun k=>k=D) (y5.put _ (.deferred none) rfl) HVV.out (by omega)
  refine ⟨by simp,.inl ⟨_,_,rfl,run_takeDeferred HK.out,?_⟩⟩
  refine ⟨_,y49 rfl _ _ _ ⟨h,0,none⟩ _ rfl (we1 hv2),rfl,?_⟩
  rw [HH.out]
  exact HB.out.trans (belowK_b (w:=w) hwh _ D _ _ (by rw [HH.out];omega) HK.out rfl rfl)
set_option maxRecDepth 100000 in
theorem y11 (V V':v6) (v v':Value) (w:World) (hv:zd5 w v V) (hv':zd5 w v' V'):Calls Tryz.prog 64 #[v,v'] w (zi6 (g9 (r3 V) (r3 V')) w):=by
 obtain ⟨p,cs,rfl⟩:=hv.shape
 obtain ⟨q,ct,rfl⟩:=hv'.shape
 have KN:=qh yy4
 obtain ⟨w1,hw1⟩:∃ w1,(w.alloc (.cells #[.slice p V.length cs] 44)).alloc (.cells #[.slice q V'.length ct] 44)=w1:=⟨_,rfl⟩
 have hb1:Below w.heap.size w w1:=hw1 ▸ z7 (z8 _ _) (z8 _ _)
 have c0:w1.cell? ⟨w.heap.size,0,none⟩=some (.slice p V.length cs):=by rw [← hw1];exact z6 (by simp) (z8 _ _)
 have c1:w1.cell? ⟨w.heap.size+1,0,none⟩=some (.slice q V'.length ct):=by rw [← hw1,World.cell?_alloc_at _ _ _ _ (by simp)];rfl
 have K:=qh (x92 V V' _ _ _ _ w1 (hv.call hb1) (hv'.call hb1) c0 c1)
 rw [v69] at K
 clear hv hv' c0 c1
 have HW:=qh (And.intro hw1 hb1);clear hw1 hb1
 generalize g9 (r3 V) (r3 V')=j at *
 go_enter Tryz.func64,Tryz.ntmps64
 go_wp2_with fail
 refine (KN.out _ _ _ _ _ _ _).mono ?_
 rintro e w2 ⟨rfl,hw2⟩
 rw [HW.out.1] at hw2
 obtain rfl:=hw2
 go_wp2_with fail
 refine K.out.mono ?_
 rintro e w3 ⟨rfl,h⟩
 have H3:=qh (z7 HW.out.2 h);clear h
 go_wp2_with fail
 go_ret
 exact ⟨rfl,H3.out⟩
end
end Go.Proofs.YtchndljcahjldaaGreatDoor
