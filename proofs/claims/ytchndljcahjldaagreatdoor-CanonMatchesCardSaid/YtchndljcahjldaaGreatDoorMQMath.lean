/- Knowledge: what is known for an item, which items there are, in which fragments an item is. Plain mathematics; no conditions of its own. -/
import Derived.Test.YtchndljcahjldaaGreatDoorMLPut
namespace Go.Proofs.YtchndljcahjldaaGreatDoor
section
open Go.RowKit
variable {F:t8} {k B:Nat} {x:List Iv × v6} {t:Int} {w w' W w1:World} {f:Value × Value} {v a0 a1 a2 a3:Value} {L:List Int} {V:v6} {fs:List (Value × Value)} {p0 p1 p2 p3:Addr}
def x9 (F:t8):Prop:=∀ x ∈ F,t6 x.1∧s8 x.2
def zb0 (x:List Iv × v6):Int:=if c5 (z16 x.1)=0 then zk8 x.2 else c5 (z16 x.1)
def yj3 (F:t8):Option (Int × Nat):=(List.range F.length).findSome? fun i=>match F[i]? with
 | none=>none
 | some x=>if zb0 x=0 then none else some (zb0 x,i)
theorem y57 (h:∀ (j:Nat) x,F[j]? = some x→zb0 x=0):yj3 F=none:=by grind [yj3,List.findSome?_eq_none_iff]
theorem y58 (hx:F[k]? = some x) (h:∀ (j:Nat) y,j<k→F[j]? = some y→zb0 y=0) (hb:zb0 x≠0):yj3 F=some (zb0 x,k):=by
 unfold yj3
 have hk:=(List.getElem?_eq_some_iff.1 hx).1
 obtain ⟨d,hd⟩:∃ d,F.length=k+(d+1):=⟨F.length - k - 1,by omega⟩
 rw [hd,List.range_add,List.findSome?_append]
 have h1:(List.range k).findSome? (fun i=>match F[i]? with | none=>none | some x=>if zb0 x=0 then none else some (zb0 x,i))=none:=by grind
 grind [List.range_succ_eq_map]
def zr5 (F:t8):Int:=match yj3 F with | some x=>x.1 | none=>0
def xa3 (F:t8):Int:=match yj3 F with | some x=>(x.2:Int) | none => -1
def zn6 (F:t8):Bool:=decide (zr5 F=0)
theorem xl7 (h:zn6 F=true):∀ x ∈ F,zb0 x=0:=by grind [zb0,yj3,List.mem_iff_getElem?,List.findSome?_eq_none_iff,List.getElem?_eq_some_iff,zn6,zr5,List.exists_of_findSome?_eq_some,Option.some.inj]
theorem yj4 (h1:∀ x ∈ F,m9 x.1) (h2:∀ x ∈ F,∀ y ∈ x.2,m9 y.2.2∧0≤y.2.1∧y.2.1≤UM) (h:zn6 F=true):x9 F:=by
 intro x hx
 have he:=xl7 h x hx
 unfold zb0 at he
 by_cases hc:c5 (z16 x.1)=0
 ·rw [if_pos hc] at he
  have hr:yk1 x.1=true:=by unfold yk1;exact decide_eq_true hc
  refine ⟨yy1 ((yk2 _).1 hr) (h1 x hx),yo5 (h2 x hx) ?_⟩
  unfold z31
  cases hv:z84 x.2 with
  | none=>rfl
  | some z =>
    grind [zk8,yi7]
 omega
def z32 (F:t8) (t r c:Int):Bool:=F.any fun x=>y9 x.1 t && z27 x.2 r c
def z09 (t:Int) (A:v6) (x:List Iv × v6):v6:=if y9 x.1 t then opV orL A x.2 else A
def atK (F:t8) (t:Int):v6:=F.foldl (z09 t) []
def z15 (F:t8):List Iv:=F.foldl (fun A x=>orL A x.1) []
def inF (F:t8) (t:Int) (i:Nat):Bool:=match F[i]? with | some x=>y9 x.1 t | none=>false
def zk9 (F:t8) (t:Int):List Int:=((List.range F.length).filter (inF F t)).map fun i:Nat=>(i:Int)
theorem w23 {α β:Type} {l:List α} {x:α} (f:β→α→β) (b:β) (h:l[k]? = some x):(l.take (k+1)).foldl f b=f ((l.take k).foldl f b) x:=by
 rw [List.take_add_one,h]
 grind
theorem m7 (h:x9 (x :: F)):(t6 x.1∧s8 x.2)∧x9 F:=⟨h x (List.mem_cons_self ..),fun y hy=>h y (List.mem_cons_of_mem _ hy)⟩
theorem zx8 (h:x9 F) (k:Nat):x9 (F.take k):=fun x hx=>h x (List.mem_of_mem_take hx)
theorem zc1:∀ (F:t8) (A:List Iv),t6 A→x9 F→t6 (F.foldl (fun A x=>orL A x.1) A)
 | [],_,hA,_=>hA
 | x :: F,A,hA,h=>zc1 F (orL A x.1) (z03 hA (m7 h).1.1) (m7 h).2
theorem zn7 (t:Int):∀ (F:t8) (A:List Iv),t6 A→x9 F→y9 (F.foldl (fun A x=>orL A x.1) A) t=(y9 A t || F.any fun x=>y9 x.1 t)
 | [],_,_,_=>by simp
 | x :: F,A,hA,h=>by
   rw [List.foldl_cons,zn7 t F _ (z03 hA (m7 h).1.1) (m7 h).2,zn1 hA (m7 h).1.1,List.any_cons,Bool.or_assoc]
theorem xa4 (F:t8) (t:Int):decide (0<(zk9 F t).length)=F.any fun x=>y9 x.1 t:=by
 rw [Bool.eq_iff_iff,decide_eq_true_eq,List.any_eq_true]
 unfold zk9
 rw [List.length_map,List.length_pos_iff_exists_mem]
 constructor
 ·grind [inF,List.mem_of_getElem?]
 ·rintro ⟨x,hx,h⟩
  obtain ⟨i,hi⟩:=List.mem_iff_getElem?.1 hx
  exact ⟨i,List.mem_filter.2 ⟨List.mem_range.2 (List.getElem?_eq_some_iff.1 hi).1,by unfold inF;rw [hi];exact h⟩⟩
def yz1 (F:t8) (t:Int) (k:Nat):List Int:=((List.range k).filter (inF F t)).map fun i:Nat=>(i:Int)
theorem wg1 (F:t8) (t:Int):yz1 F t F.length=zk9 F t:=rfl
theorem w24 (hx:F[k]? = some x):yz1 F t (k+1)=if y9 x.1 t=true then yz1 F t k ++ [(k:Int)] else yz1 F t k:=by grind [yz1,List.range_succ,inF,y9]
theorem wg2 (F:t8) (t:Int) (k:Nat):(yz1 F t k).length≤k:=by grind [yz1,List.length_map,Nat.le_trans,List.length_filter_le]
theorem zr6 {A:v6} (hA:s8 A∧∀ y ∈ A,o5 y.2.1 y.2.2=true) (hx:s8 x.2):s8 (z09 t A x)∧∀ y ∈ z09 t A x,o5 y.2.1 y.2.2=true:=by grind [z09,zk7,z03]
theorem zl0 {t:Int}:∀ (F:t8) (A:v6),(s8 A∧∀ y ∈ A,o5 y.2.1 y.2.2=true)→x9 F→s8 (F.foldl (z09 t) A)∧∀ y ∈ F.foldl (z09 t) A,o5 y.2.1 y.2.2=true
 | [],_,hA,_=>hA
 | x :: F,A,hA,h=>zl0 F (z09 t A x) (zr6 hA (m7 h).1.2) (m7 h).2
theorem y60 {t:Int} {n m:Nat}:∀ (F:t8) (A:v6) (a b:Nat),(s8 A∧∀ y ∈ A,o5 y.2.1 y.2.2=true)→x9 F→n7 a b A→(∀ x ∈ F,n7 n m x.2)→n7 (a+F.length*n) (b+F.length*(m+3)) (F.foldl (z09 t) A)
 | [],A,a,b,_,_,hs,_=>by simpa using hs
 | x :: F,A,a,b,hA,h,hs,hF=>by
   have hx:n7 (a+n) (b+m+3) (z09 t A x):=by
    unfold z09
    split
    ·exact yg6 hA.1 (m7 h).1.2 hs (hF x (List.mem_cons_self ..))
    ·exact hs.mono (by omega) (by omega)
   have h1:=y60 (t:=t) F (z09 t A x) (a+n) (b+m+3) (zr6 (t:=t) hA (m7 h).1.2) (m7 h).2 hx (fun y hy=>hF y (List.mem_cons_of_mem _ hy))
   grind
theorem xt5 {t:Int} (r:Int) {c:Int} (hc:0≤c):∀ (F:t8) (A:v6),(s8 A∧∀ y ∈ A,o5 y.2.1 y.2.2=true)→x9 F→z27 (F.foldl (z09 t) A) r c=(z27 A r c || z32 F t r c)
 | [],_,_,_=>by simp [z32]
 | x :: F,A,hA,h=>by
   rw [List.foldl_cons,xt5 r hc F (z09 t A x) (zr6 hA (m7 h).1.2) (m7 h).2]
   have h1:z27 (z09 t A x) r c=(z27 A r c || (y9 x.1 t && z27 x.2 r c)):=by
    unfold z09
    cases hL:y9 x.1 t with
    | false=>simp
    | true =>
      have hx:=(m7 h).1.2
      grind [zd4,yd3,wb8,zn1,m8]
   grind [z32,Bool.or_assoc]
theorem z10:s8 []∧∀ y ∈ ([]:v6),o5 y.2.1 y.2.2=true:=⟨⟨fun x hx=>(by cases hx),List.Pairwise.nil⟩,fun y hy=>(by cases hy)⟩
theorem y16 (r c:Int):z27 [] r c=false:=rfl
theorem zr7 (hF:x9 F) (t r:Int) {c:Int} (hc:0≤c):z27 (atK F t) r c=z32 F t r c:=by
 unfold atK
 rw [xt5 r hc F [] z10 hF,y16,Bool.false_or]
structure zp2 (W:World) (f:Value × Value) (x:List Iv × v6):Prop where
 at1:v7 W f.1 x.1
 all:m9 x.1
 sane:z02 f.1
 vec:z30 W f.2 x.2
theorem zp2.call (h:zp2 w f x) (hb:Below w.heap.size w w'):zp2 w' f x:=⟨h.at1.call hb,h.all,h.sane,h.vec.call hb⟩
structure z85 (W:World) (v:Value) (F:t8):Prop where
 sh:∃ fs,zr3 W v fs∧fs.length=F.length∧∀ (i:Nat) (f:Value × Value) (x:List Iv × v6),fs[i]? = some f→F[i]? = some x→zp2 W f x
 len:F.length≤100000
theorem z85.call (h:z85 w v F) (hb:Below w.heap.size w w'):z85 w' v F:=by
 obtain ⟨⟨fs,h1,h2,h3⟩,h4⟩:=h
 exact ⟨⟨fs,h1.call hb,h2,fun i e x he hx=>(h3 i e x he hx).call hb⟩,h4⟩
theorem z85.shape (h:z85 w v F):∃ p cap,v = .slice p F.length cap:=by
 obtain ⟨⟨fs,⟨p,cap,h1,_⟩,h2,_⟩,_⟩:=h
 exact ⟨p,cap,by rw [h1,h2]⟩
theorem z85.elem (h:z85 w v F) {i:Nat} {L:List Iv} (hi:F[i]? = some (L,V)) :
 ∃ b o cap p c q d,v = .slice (some ⟨b,o,none⟩) F.length cap∧w.cell? ⟨b,o+i*2,none⟩=some (.slice p L.length c)∧w.cell? ⟨b,o+i*2+1,none⟩=some (.slice q V.length d)∧zp2 w (.slice p L.length c,.slice q V.length d) (L,V):=by
 obtain ⟨⟨fs,⟨p,cap,h1,_,h5⟩,h2,h3⟩,h4⟩:=h
 have hlt:i<F.length:=(List.getElem?_eq_some_iff.1 hi).1
 have hlf:i<fs.length:=by omega
 obtain ⟨f,he⟩:∃ f,fs[i]? = some f:=⟨fs[i],by simp [hlf]⟩
 obtain ⟨b,o,rfl,h6⟩:=h5 (by intro e;rw [e] at h2;simp at h2;omega)
 obtain ⟨c0,c1⟩:=h6 i _ he
 have ha:=h3 i _ _ he hi
 obtain ⟨f1,f2⟩:=f
 obtain ⟨q,cq,hs,_⟩:=ha.at1.shape
 obtain ⟨q2,cq2,hs2⟩:=ha.vec.m.shape
 dsimp only at hs hs2 c0 c1
 subst hs hs2
 exact ⟨b,o,cap,q,cq,q2,cq2,by rw [h1,h2],c0,c1,ha⟩
def z58 (F:t8):Prop:=F.length≤12∧∀ x ∈ F,x.1.length≤20∧x.2.length≤20∧∀ y ∈ x.2,y.2.2.length≤30
theorem xa5 (h:zf8 30 w f):xk5 w f.2:=⟨h.sane2,h.vec⟩
theorem xl8 (h:zf8 30 w f):∃ p n c q m d,f=(.slice p n c,.slice q m d):=by
 obtain ⟨⟨q,m,d,e2⟩,_⟩:=(xa5 h).few
 obtain ⟨f1,f2⟩:=f
 rcases h.items with ⟨p,n,c,e1,_⟩ | ⟨l,_,_,hl⟩
 ·exact ⟨p,n,c,q,m,d,by rw [show f1=_ from e1,show f2=_ from e2]⟩
 ·obtain ⟨p,c,e1,_⟩:=hl.shape
  exact ⟨p,_,c,q,m,d,by rw [show f1=_ from e1,show f2=_ from e2]⟩
theorem wr5 (hk:zr3 w v fs) (hin:∀ f ∈ fs,zf8 30 w f) (B:Nat→Bool) (hB:∀ i f,fs[i]? = some f→B i=true→∃ V,z30 w f.2 V∧V.length≤20∧∀ x ∈ V,x.2.2.length≤30)
 (hlen:fs.length≤12) (h:∀ i f,fs[i]? = some f→zv0 f.1≤20∧B i=true):∃ F,z85 w v F∧z58 F:=by
 have each:∀ i,i<fs.length→∃ x:List Iv × v6,∀ f,fs[i]? = some f→zp2 w f x∧x.1.length≤20∧x.2.length≤20∧∀ y ∈ x.2,y.2.2.length≤30:=by
  intro i hi
  have he:fs[i]? = some fs[i]:=by simp [hi]
  have hm:=List.getElem_mem hi
  obtain ⟨h1,h2⟩:=h i _ he
  obtain ⟨V,hv,hl,hh⟩:=hB i _ he h2
  have hf:=hin _ hm
  rcases hf.items with ⟨q,n,cap,hq,hn⟩ | ⟨l,hl',h64,hat⟩
  ·rw [hq] at h1
   have h31:n≤20:=h1
   omega
  ·have hll:l.length≤20:=by
    obtain ⟨p,c,e,_⟩:=hat.shape
    rw [e] at h1
    exact h1
   refine ⟨(l,V),fun f he' => ?_⟩
   obtain rfl:=Option.some.inj (he.symm.trans he')
   exact ⟨⟨hat,h64,hf.sane1,hv⟩,hll,hl,hh⟩
 obtain ⟨q,hq⟩:=Go.Deep.choose_lt each
 refine ⟨(List.range fs.length).map q,⟨⟨fs,hk,by simp,fun i e x he hx => ?_⟩,by simp;omega⟩,by simpa using hlen,fun x hx => ?_⟩
 ·have hi:=(List.getElem?_eq_some_iff.1 he).1
  rw [List.getElem?_map,List.getElem?_range hi] at hx
  obtain rfl:=Option.some.inj hx
  exact (hq i hi e he).1
 ·obtain ⟨i,hi,rfl⟩:=List.mem_map.1 hx
  have hi:=List.mem_range.1 hi
  exact (hq i hi fs[i] (by simp [hi])).2
def xt6 (fs:List (Value × Value)) (B:Nat→Bool) (i:Nat):Bool:=match fs[i]? with | some f=>decide (zv0 f.1≤20) && B i | none=>true
theorem xa6 {B:Nat→Bool} {i:Nat} (h:fs[i]? = some f):xt6 fs B i=true↔zv0 f.1≤20∧B i=true:=by unfold xt6;rw [h];simp
def xa7 (fs:List (Value × Value)) (B:Nat→Bool):Bool:=(List.range fs.length).all (xt6 fs B) && decide (fs.length≤12)
theorem xl9 {B:Nat→Bool} (h:xa7 fs B=true):fs.length≤12∧∀ i f,fs[i]? = some f→zv0 f.1≤20∧B i=true:=by
 unfold xa7 at h
 rw [Bool.and_eq_true,List.all_eq_true,decide_eq_true_eq] at h
 exact ⟨h.2,fun i f hf=>(xa6 hf).1 (h.1 i (List.mem_range.2 (List.getElem?_eq_some_iff.1 hf).1))⟩
set_option maxRecDepth 100000 in
set_option maxHeartbeats 2000000 in
theorem w25 (v:Value) (fs:List (Value × Value)) (w:World) (hv:zr3 w v fs) (hin:∀ f ∈ fs,zf8 30 w f) (B:Nat→Bool) (hB:∀ i f,fs[i]? = some f→∀ W,Below w.heap.size w W→Calls Tryz.prog 31 #[f.2] W (q8 (B i) W)) :
 Calls Tryz.prog 9 #[v] w (q8 (xa7 fs B) w):=by
 obtain ⟨p,cap,rfl,hlen,hc⟩:=hv
 have HC:=qh hc;clear hc
 have HIN:=qh hin;clear hin
 have HBB:=qh hB;clear hB
 have hml:fs.length≤9223372036854775807:=by unfold maxLen at hlen;omega
 obtain ⟨good,hg⟩:∃ g:Nat→Bool,xt6 fs B=g:=⟨_,rfl⟩
 have hgt:∀ i f,fs[i]? = some f→(good i=true↔zv0 f.1≤20∧B i=true):=fun i f hf=>by rw [← hg];exact xa6 hf
 unfold xa7
 rw [hg]
 clear hg
 have HGT:=qh hgt;clear hgt
 go_enter Tryz.func9,Tryz.ntmps9
 go_wp2_with fail
 go_loopw [3] (fun i wr=>∃ k:Nat,i = .int .i64 k∧k≤fs.length∧(∀ j,j<k→good j=true)∧Below w.heap.size w wr) (fun i _=>fs.length - (intOf i).toNat)
 case atStart=>exact ⟨0,rfl,Nat.zero_le _,fun j hj=>absurd hj (Nat.not_lt_zero j),Below.refl _ _⟩
 case round =>
  obtain ⟨k,rfl,hk,hbef,hb⟩:=hrel
  have HBF:=qh hbef;clear hbef
  have HB:=qh hb;clear hb
  by_cases hlt:k<fs.length
  ·obtain ⟨f,he⟩:∃ f,fs[k]? = some f:=⟨fs[k],by simp [hlt]⟩
   obtain ⟨b,o,rfl,h6⟩:=HC.out (by intro e;rw [e] at hlt;simp at hlt)
   obtain ⟨c0,c1⟩:=h6 k _ he
   obtain ⟨q,n,c,q2,n2,c2,rfl⟩:=xl8 (HIN.out f (List.mem_of_getElem? he))
   replace c0:=z6 c0 HB.out
   replace c1:=z6 c1 HB.out
   dsimp only at c0 c1
   have K:=qh (HBB.out k _ he wr HB.out)
   have HGK:=qh (HGT.out k _ he)
   have hlk:k<fs.length:=hlt
   have HLK:=qh hlk;clear hlk he h6
   have i1:(0:Int)≤(k:Int):=by omega
   have i2:(k:Int)<(fs.length:Int):=by omega
   have bad:good k=false→((List.range fs.length).all good && decide (fs.length≤12))=false:=fun h=>by
    rw [Bool.and_eq_false_iff,List.all_eq_false]
    exact .inl ⟨k,List.mem_range.2 HLK.out,by rw [h];simp⟩
   have HBAD:=qh bad;clear bad
   by_cases hn:20<n
   ·have e1:decide ((20:Int)<(n:Int))=true:=by simp;omega
    have HZ:=qh (HBAD.out (by
     cases h:good k with
     | false=>rfl
     | true =>
       have h1:n≤20:=(HGK.out.1 h).1
       omega))
    clear hn
    go_wp2_with fail
    go_ret
    exact ⟨by rw [HZ.out];rfl,HB.out⟩
   ·have e1:decide ((20:Int)<(n:Int))=false:=by simp;omega
    have hn20:zv0 (Value.slice q n c)≤20:=by show n≤20;omega
    cases hbk:B k with
    | false =>
      have HZ:=qh (HBAD.out (by
       cases h:good k with
       | false=>rfl
       | true=>have h1:=(HGK.out.1 h).2;rw [hbk] at h1;cases h1))
      rw [hbk] at K
      clear hbk hn hn20
      go_wp2_with fail
      refine K.out.mono ?_
      rintro e w1 ⟨rfl,h⟩
      have H1:=qh (z7 HB.out h);clear h
      go_wp2_with fail
      go_ret
      exact ⟨by rw [HZ.out];rfl,H1.out⟩
    | true =>
      have HZ:=qh (HGK.out.2 ⟨hn20,hbk⟩)
      rw [hbk] at K
      clear hbk hn hn20
      go_wp2_with fail
      refine K.out.mono ?_
      rintro e w1 ⟨rfl,h⟩
      have H1:=qh (z7 HB.out h);clear h
      go_wp2_with fail
      go_roundw
      case rel=>exact ⟨k+1,by go_num,by omega,fun j hj=>by
       rcases Nat.lt_or_eq_of_le (Nat.le_of_lt_succ hj) with h | h
       ·exact HBF.out j h
       ·subst h;exact HZ.out,H1.out⟩
      case measure=>simp [intOf];omega
  ·obtain rfl:k=fs.length:=by omega
   have hall:(List.range fs.length).all good=true:=List.all_eq_true.2 fun i hi=>HBF.out i (List.mem_range.1 hi)
   have HZ:=qh (show ((List.range fs.length).all good && decide (fs.length≤12))=decide ((fs.length:Int)≤12) by rw [hall,Bool.true_and,Bool.eq_iff_iff,decide_eq_true_eq,decide_eq_true_eq];omega);clear hall
   go_wp2_with fail
   go_ret
   exact ⟨by rw [HZ.out];rfl,HB.out⟩
set_option maxRecDepth 100000 in
set_option maxHeartbeats 4000000 in
theorem yj5 (F:t8) (v:Value) (w:World) (hv:z85 w v F):Calls Tryz.prog 36 #[v] w (yz2 (zr5 F) (xa3 F) w):=by
 obtain ⟨p,cap,rfl⟩:=hv.shape
 have hlen:=hv.len
 have HV:=qh hv;clear hv
 have KL:=qh y18
 have KV:=qh yo7
 go_enter Tryz.func36,Tryz.ntmps36
 go_wp2_with fail
 go_loopw [4] (fun i wr=>∃ k:Nat,i = .int .i64 k∧k≤F.length∧(∀ (j:Nat) y,j<k→F[j]? = some y→zb0 y=0)∧Below w.heap.size w wr) (fun i _=>F.length - (intOf i).toNat)
 case atStart=>exact ⟨0,rfl,Nat.zero_le _,fun j y hj=>absurd hj (Nat.not_lt_zero j),Below.refl _ _⟩
 case round =>
  obtain ⟨k,rfl,hk,hbef,hb⟩:=hrel
  have HBF:=qh hbef;clear hbef
  have HB:=qh hb;clear hb
  by_cases hlt:k<F.length
  ·obtain ⟨⟨L,V⟩,hx⟩:∃ x,F[k]? = some x:=⟨F[k],by simp [hlt]⟩
   obtain ⟨b,o,cap',q,c,q2,c2,e,c0,c1,ha⟩:=(HV.out.call HB.out).elem hx
   cases e
   have K:=qh (KL.out L (.slice q L.length c) wr ha.at1 ha.all)
   have HA:=qh ha.vec.m;clear ha
   have HX:=qh hx
   have i1:(0:Int)≤(k:Int):=by omega
   have i2:(k:Int)<(F.length:Int):=by omega
   have herr:zb0 (L,V)=if c5 (z16 L)=0 then zk8 V else c5 (z16 L):=rfl
   obtain ⟨cl,hcl⟩:∃ cl,c5 (z16 L)=cl:=⟨_,rfl⟩
   rw [hcl] at K herr
   obtain ⟨al,hal⟩:∃ al,(atE (z16 L)).getD (-1)=al:=⟨_,rfl⟩
   rw [hal] at K
   have KW:=qh (fun W h=>KV.out V (.slice q2 V.length c2) W h)
   obtain ⟨cv,hcv⟩:∃ cv,zk8 V=cv:=⟨_,rfl⟩
   rw [hcv] at KW herr
   generalize vAt V=av at *
   clear hcl hal hcv hx
   by_cases hz:cl=0
   ·subst hz
    rw [if_pos rfl] at herr
    by_cases hz2:cv=0
    ·subst hz2
     have HE:=qh herr;clear herr
     go_wp2_with fail
     refine K.out.mono ?_
     rintro e w1 ⟨rfl,h⟩
     replace c1:=z6 c1 h
     have HA1:=qh (HA.out.call h)
     have H1:=qh (z7 HB.out h);clear h
     go_wp2_with fail
     refine (KW.out _ HA1.out).mono ?_
     rintro e w2 ⟨rfl,h⟩
     have H2:=qh (z7 H1.out h);clear h
     go_wp2_with fail
     go_roundw
     case rel=>exact ⟨k+1,by go_num,by omega,fun j y hj hy=>by
      rcases Nat.lt_or_eq_of_le (Nat.le_of_lt_succ hj) with h | h
      ·exact HBF.out j y h hy
      ·subst h
       obtain rfl:=Option.some.inj (HX.out.symm.trans hy)
       exact HE.out,H2.out⟩
     case measure=>simp [intOf];omega
    ·have e2:(cv != 0)=true:=bne_iff_ne.2 hz2
     have hc:=y58 HX.out HBF.out (by rw [herr];exact hz2)
     rw [herr] at hc
     have HZ:=qh (And.intro (show zr5 F=cv by unfold zr5;rw [hc]) (show xa3 F=(k:Int) by unfold xa3;rw [hc]));clear hc herr
     clear hz2
     go_wp2_with fail
     refine K.out.mono ?_
     rintro e w1 ⟨rfl,h⟩
     replace c1:=z6 c1 h
     have HA1:=qh (HA.out.call h)
     have H1:=qh (z7 HB.out h);clear h
     go_wp2_with fail
     refine (KW.out _ HA1.out).mono ?_
     rintro e w2 ⟨rfl,h⟩
     have H2:=qh (z7 H1.out h);clear h
     go_wp2_with fail
     go_ret2
     exact ⟨by rw [HZ.out.1,HZ.out.2];rfl,H2.out⟩
   ·have e1:(cl == 0)=false:=by simpa using hz
    have e2:(cl != 0)=true:=bne_iff_ne.2 hz
    rw [if_neg hz] at herr
    have hc:=y58 HX.out HBF.out (by rw [herr];exact hz)
    rw [herr] at hc
    have HZ:=qh (And.intro (show zr5 F=cl by unfold zr5;rw [hc]) (show xa3 F=(k:Int) by unfold xa3;rw [hc]));clear hc herr
    clear hz
    go_wp2_with fail
    refine K.out.mono ?_
    rintro e w1 ⟨rfl,h⟩
    have H1:=qh (z7 HB.out h);clear h
    go_wp2_with fail
    go_ret2
    exact ⟨by rw [HZ.out.1,HZ.out.2];rfl,H1.out⟩
  ·obtain rfl:k=F.length:=by omega
   have hc:=y57 (F:=F) fun j y hy=>HBF.out j y (List.getElem?_eq_some_iff.1 hy).1 hy
   have HZ:=qh (And.intro (show zr5 F=0 by unfold zr5;rw [hc]) (show xa3 F = -1 by unfold xa3;rw [hc]));clear hc
   go_wp2_with fail
   go_ret2
   exact ⟨by rw [HZ.out.1,HZ.out.2];rfl,HB.out⟩
set_option maxRecDepth 100000 in
theorem yj6 (F:t8) (v:Value) (w:World) (hv:z85 w v F):Calls Tryz.prog 40 #[v] w (q8 (zn6 F) w):=by
 obtain ⟨p,cap,rfl⟩:=hv.shape
 have K:=qh (yj5 F _ w hv);clear hv
 have HZ:Hid (zn6 F=(zr5 F == 0)):=qh (by unfold zn6;rw [Bool.eq_iff_iff,decide_eq_true_eq,beq_iff_eq])
 generalize zn6 F=r at *
 generalize zr5 F=a at *
 generalize xa3 F=b at *
 go_enter Tryz.func40,Tryz.ntmps40
 go_wp2_with fail
 refine K.out.mono ?_
 rintro e w1 ⟨rfl,h⟩
 have H1:=qh h;clear h
 go_wp2_with fail
 go_ret
 exact ⟨by rw [HZ.out];rfl,H1.out⟩
theorem yj7 (h:z58 F) (k:Nat):(F.take k).length≤12∧∀ x ∈ F.take k,x.1.length≤20∧x.2.length≤20∧∀ y ∈ x.2,y.2.2.length≤30:=
 ⟨by rw [List.length_take];have:=h.1;omega,fun x hx=>h.2 x (List.mem_of_mem_take hx)⟩
theorem wr6 (t:Int) (h:F[k]? = some x):atK (F.take (k+1)) t=z09 t (atK (F.take k) t) x:=w23 _ _ h
theorem xa8 (hg:x9 F) (hs:z58 F) (t:Int) (k:Nat):s8 (atK (F.take k) t)∧n7 240 396 (atK (F.take k) t):=by
 refine ⟨(zl0 _ _ z10 (zx8 hg k)).1,?_⟩
 have h1:=y60 (t:=t) (n:=20) (m:=30) (F.take k) [] 0 0 z10 (zx8 hg k) ⟨Nat.zero_le _,fun x hx=>(by cases hx)⟩ (fun x hx=>((yj7 hs k).2 x hx).2)
 have h2:=(yj7 hs k).1
 exact h1.mono (by omega) (by omega)
def ixC (l:List Int):List Value:=l.map (Value.int .i64)
def y17 (W:World) (B:Nat) (v:Value) (L:List Int):Prop:=W.ownsRow B 3 1 v L.length (ixC L)
theorem y17.below {W':World} (h:y17 W B v L) (hb:Below W.heap.size W W'):y17 W' B v L:=y6 h hb
theorem y17.nil (W:World) (B:Nat):y17 W B (.slice none 0 0) []:=World.ownsRow_nil _ _ _ _
theorem xm0:(Tryz.prog.info? 3).map (fun i=>(i.zero,i.size,i.bytes))=some (some (.int .i64 0),1,8):=by kernel_rfl
def yj8 (w:World) (v:Value) (L:List Int):Prop:=
 ∃ p cap,v = .slice p L.length cap∧L.length≤maxLen∧(L ≠ []→∃ b o,p=some ⟨b,o,none⟩∧∀ (i:Nat) (x:Int),L[i]? = some x→w.cell? ⟨b,o+i,none⟩=some (.int .i64 x))
theorem yj8.call (h:yj8 w v L) (hb:Below w.heap.size w w'):yj8 w' v L:=by
 obtain ⟨p,cap,h1,h2,h3⟩:=h
 refine ⟨p,cap,h1,h2,fun hne => ?_⟩
 obtain ⟨b,o,h5,h6⟩:=h3 hne
 exact ⟨b,o,h5,fun i x hi=>z6 (h6 i x hi) hb⟩
theorem wg3 (h:y17 w B v L):yj8 w v L:=by
 have hrow:w.ownsRow B 3 1 v L.length (ixC L):=h
 have h3:=hrow
 rcases hrow.2 with ⟨rfl,h0⟩ | ⟨g,cap,cur,rfl,hbg,hg,hnc,hcm,_⟩
 ·exact ⟨none,0,by rw [h0],by omega,fun e=>absurd (List.eq_nil_of_length_eq_zero h0) e⟩
 ·exact ⟨_,cap,rfl,Nat.le_trans hnc hcm,fun _=>⟨g,0,rfl,fun i x hx=>by
   rw [Nat.zero_add,h3.cellAt i (by have:=(List.getElem?_eq_some_iff.1 hx).1;omega)]
   unfold ixC;rw [List.getElem?_map,hx];rfl⟩⟩
def vb1 (L:List Int) (w:World) (e:Ending) (w':World):Prop:=∃ u,e = .returned u∧yj8 w' u L∧Below w.heap.size w w'
set_option maxRecDepth 100000 in
set_option maxHeartbeats 2000000 in
theorem y61 (F:t8) (v:Value) (t:Int) (w:World) (hv:z85 w v F):Calls Tryz.prog 143 #[v,.int .u64 t] w (vb1 (zk9 F t) w):=by
 obtain ⟨i0,hi',hz0,hz1,hz2⟩:=info_parts xm0
 obtain ⟨p,cap,rfl⟩:=hv.shape
 have hlen:=hv.len
 have HV:=qh hv;clear hv
 have KL:=qh zi2
 go_enter Tryz.func143,Tryz.ntmps143
 go_wp2_with fail
 go_loopw [5,6] (fun u i wr=>∃ k:Nat,i = .int .i64 k∧k≤F.length∧y17 wr w.heap.size u (yz1 F t k)∧Below w.heap.size w wr) (fun _ i _=>F.length - (intOf i).toNat)
 case atStart=>exact ⟨0,rfl,Nat.zero_le _,y17.nil _ _,Below.refl _ _⟩
 case round =>
  obtain ⟨k,rfl,hk,hown,hb⟩:=hrel
  have HB:=qh hb;clear hb
  obtain ⟨pu,cu,rfl,_⟩:=y8 hown
  by_cases hlt:k<F.length
  ·obtain ⟨⟨L,V⟩,hx⟩:∃ x,F[k]? = some x:=⟨F[k],by simp [hlt]⟩
   obtain ⟨b,o,cap',q,cc,q2,c2,e,c0,_,ha⟩:=(HV.out.call HB.out).elem hx
   cases e
   have HT:=qh (w24 (t:=t) hx)
   have K:=qh (KL.out L (.slice q L.length cc) t wr ha.at1)
   have hml:=wg2 F t k
   have i1:(0:Int)≤(k:Int):=by omega
   have i2:(k:Int)<(F.length:Int):=by omega
   clear ha hx
   generalize yz1 F t k=P at *
   cases hL:y9 L t with
   | false =>
     rw [hL] at K
     have HS:=qh (HT.out.trans (if_neg (by rw [hL];simp)));clear hL HT
     have HO:=qh hown;clear hown
     go_wp2_with fail
     refine K.out.mono ?_
     rintro e w1 ⟨rfl,h⟩
     have HO1:=qh (HO.out.below h)
     have H1:=qh (z7 HB.out h);clear h
     go_wp2_with fail
     go_roundw
     case rel=>exact ⟨k+1,by go_num,by omega,by rw [HS.out];exact HO1.out,H1.out⟩
     case measure=>simp [intOf];omega
   | true =>
     rw [hL] at K
     have HS:=qh (HT.out.trans (if_pos hL));clear hL HT
     have HO:=qh hown;clear hown
     go_wp2_with fail
     refine K.out.mono ?_
     rintro e w1 ⟨rfl,h⟩
     have hrow:w1.ownsRow w.heap.size 3 1 (.slice pu P.length cu) P.length (ixC P):=HO.out.below h
     have H1:=qh (z7 HB.out h);clear h
     have HROW:=qh hrow;clear hrow
     go_wp2_with (at_builtin;refine wpList_append_own _ rfl _ _ 48 rfl w.heap.size 3 i0 (.int .i64 0) 1 8 Tryz.underlying48 hi' hz0 hz1 hz2 rfl (by decide) _ P.length (ixC P) rfl (y6 HROW.out (z8 _ _)) ⟨w1.heap.size,0,none⟩ 1 1 [.int .i64 k] rfl rfl (cell_one_new _ _ _) (by simp [Value.oneCell']) (by unfold maxLen;omega) (by omega) (Nat.le_trans H1.out.size (z8 _ _).size) ?_;intro v' w4 hown' hgrow _;have HN:=qh (z8 w1 (.cells #[.int .i64 k] 3));have HW4:=qh (x8 (z7 H1.out HN.out) (y6 HROW.out HN.out) hgrow (Nat.le_trans H1.out.size HN.out.size));obtain ⟨g',cap4,rfl,_⟩:=y8 hown';have HP:=qh hown';clear hown' hgrow)
     go_roundw
     case rel=>exact ⟨k+1,by go_num,by omega,by
      rw [HS.out]
      unfold y17
      have h:=HP.out
      rw [show ixC (P ++ [(k:Int)])=ixC P ++ [.int .i64 k] from by unfold ixC;simp,List.length_append]
      simpa using h,HW4.out⟩
     case measure=>simp [intOf];omega
  ·obtain rfl:k=F.length:=by omega
   rw [wg1] at hown ⊢
   have HO:=qh (wg3 hown);clear hown
   go_wp2_with fail
   go_ret
   exact ⟨_,rfl,HO.out,HB.out⟩
structure xa9 (W:World) (f:Value × Value) (x:List Iv × v6):Prop where
 at1:v7 W f.1 x.1
 vec:zd6 W f.2 x.2
theorem xa9.call (h:xa9 w f x) (hb:Below w.heap.size w w'):xa9 w' f x:=⟨h.at1.call hb,h.vec.call hb⟩
structure zn8 (W:World) (v:Value) (F:t8):Prop where
 sh:∃ fs,zr3 W v fs∧fs.length=F.length∧∀ (i:Nat) (f:Value × Value) (x:List Iv × v6),fs[i]? = some f→F[i]? = some x→xa9 W f x
 len:F.length≤100000
theorem z85.i (h:z85 w v F):zn8 w v F:=by
 obtain ⟨⟨fs,h1,h2,h3⟩,h4⟩:=h
 exact ⟨⟨fs,h1,h2,fun i f x hf hx=>⟨(h3 i f x hf hx).at1,(h3 i f x hf hx).vec.m.i⟩⟩,h4⟩
theorem zn8.call (h:zn8 w v F) (hb:Below w.heap.size w w'):zn8 w' v F:=by
 obtain ⟨⟨fs,h1,h2,h3⟩,h4⟩:=h
 exact ⟨⟨fs,h1.call hb,h2,fun i e x he hx=>(h3 i e x he hx).call hb⟩,h4⟩
theorem zn8.shape (h:zn8 w v F):∃ p cap,v = .slice p F.length cap:=by
 obtain ⟨⟨fs,⟨p,cap,h1,_⟩,h2,_⟩,_⟩:=h
 exact ⟨p,cap,by rw [h1,h2]⟩
theorem zn8.elem (h:zn8 w v F) {i:Nat} {L:List Iv} (hi:F[i]? = some (L,V)) :
 ∃ b o cap p c q d,v = .slice (some ⟨b,o,none⟩) F.length cap∧w.cell? ⟨b,o+i*2,none⟩=some (.slice p L.length c)∧w.cell? ⟨b,o+i*2+1,none⟩=some (.slice q V.length d)∧xa9 w (.slice p L.length c,.slice q V.length d) (L,V):=by
 obtain ⟨⟨fs,⟨p,cap,h1,_,h5⟩,h2,h3⟩,h4⟩:=h
 have hlt:i<F.length:=(List.getElem?_eq_some_iff.1 hi).1
 have hlf:i<fs.length:=by omega
 obtain ⟨f,he⟩:∃ f,fs[i]? = some f:=⟨fs[i],by simp [hlf]⟩
 obtain ⟨b,o,rfl,h6⟩:=h5 (by intro e;rw [e] at h2;simp at h2;omega)
 obtain ⟨c0,c1⟩:=h6 i _ he
 have ha:=h3 i _ _ he hi
 obtain ⟨f1,f2⟩:=f
 obtain ⟨q,cq,hs,_⟩:=ha.at1.shape
 obtain ⟨q2,cq2,hs2⟩:=ha.vec.shape
 dsimp only at hs hs2 c0 c1
 subst hs hs2
 exact ⟨b,o,cap,q,cq,q2,cq2,by rw [h1,h2],c0,c1,ha⟩
theorem ye0 {w2:World} (h:Below W.heap.size W w1∧w1.cell? p0=some a0∧w1.cell? p1=some a1∧w1.cell? p2=some a2∧w1.cell? p3=some a3) (hb:Below w1.heap.size w1 w2):Below W.heap.size W w2∧w2.cell? p0=some a0∧w2.cell? p1=some a1∧w2.cell? p2=some a2∧w2.cell? p3=some a3:=
 ⟨z7 h.1 hb,z6 h.2.1 hb,z6 h.2.2.1 hb,z6 h.2.2.2.1 hb,z6 h.2.2.2.2 hb⟩
theorem zl1 (h:Below W.heap.size W w1∧w1.cell? p0=some a0∧w1.cell? p1=some a1∧w1.cell? p2=some a2∧w1.cell? p3=some a3):Below W.heap.size W w1:=h.1
theorem w26 {α:Type} {A B:List α} (hl:A.length=B.length) (h:∀ j,j<A.length→A[j]? = B[j]?):A=B:=by
 refine List.ext_getElem? fun i => ?_
 grind
set_option maxRecDepth 100000 in
set_option maxHeartbeats 8000000 in
theorem ya2 (F F':t8) (v v':Value) (w:World) (hv:zn8 w v F) (hv':zn8 w v' F'):Calls Tryz.prog 18 #[v,v'] w (q8 (decide (F=F')) w):=by
 obtain ⟨p,cap,rfl⟩:=hv.shape
 obtain ⟨p',cap',rfl⟩:=hv'.shape
 have hlen:=hv.len
 have hlen':=hv'.len
 by_cases hl:F.length=F'.length
 ·have HV:=qh hv;clear hv
  have HV':=qh hv';clear hv'
  have KS:=qh ya3
  have KT:=qh yy7
  obtain ⟨n9,hn9⟩:∃ n9,F.length=n9:=⟨_,rfl⟩
  rw [← hl,hn9]
  have HL:=qh hl;have HN:=qh hn9
  rw [hn9] at hlen
  clear hl hn9 hlen'
  go_enter Tryz.func18,Tryz.ntmps18
  go_wp2_with fail
  go_loopw [5] (fun i wr=>∃ k:Nat,i = .int .i64 k∧k≤n9∧(∀ j,j<k→F[j]? = F'[j]?)∧Below w.heap.size w wr) (fun i _=>n9 - (intOf i).toNat)
  case atStart=>exact ⟨0,rfl,Nat.zero_le _,fun j hj=>absurd hj (Nat.not_lt_zero j),Below.refl _ _⟩
  case round =>
   obtain ⟨k,rfl,hk,hbef,hb⟩:=hrel
   have HBF:=qh hbef;clear hbef
   have HB:=qh hb;clear hb
   by_cases hlt:k<n9
   ·obtain ⟨⟨L,V⟩,hx⟩:∃ x,F[k]? = some x:=⟨F[k]'(by rw [HN.out];exact hlt),by simp⟩
    obtain ⟨⟨L',V'⟩,hx'⟩:∃ x,F'[k]? = some x:=⟨F'[k]'(by rw [← HL.out,HN.out];exact hlt),by simp⟩
    obtain ⟨b,o,cp,q,c,q2,c2,e,c0,c1,ha⟩:=(HV.out.call HB.out).elem hx
    obtain ⟨b',o',cp',q',c',q2',c2',e',d0,d1,ha'⟩:=(HV'.out.call HB.out).elem hx'
    rw [HN.out] at e
    rw [← HL.out,HN.out] at e'
    cases e;cases e'
    have HX:=qh (And.intro hx hx');clear hx hx'
    have HA:=qh (And.intro ha.at1 (And.intro ha'.at1 (And.intro ha.vec ha'.vec)));clear ha ha'
    have HS:=qh (ye0 ⟨Below.refl wr.heap.size wr,c0,c1,d0,d1⟩ (Below.refl _ _).drew)
    have i1:(0:Int)≤(k:Int):=by omega
    have i2:(k:Int)<(n9:Int):=by omega
    by_cases hLL:L=L'
    ·have K4:=qh (fun W h h'=>(decide_eq_true hLL ▸ KS.out L L' (.slice q L.length c) (.slice q' L'.length c') W h h':Calls Tryz.prog 26 #[.slice q L.length c,.slice q' L'.length c'] W (q8 true W)))
     obtain ⟨bb,hbb⟩:∃ bb,decide (V=V')=bb:=⟨_,rfl⟩
     have K9:=qh (fun W h h'=>(hbb ▸ KT.out V V' (.slice q2 V.length c2) (.slice q2' V'.length c2') W h h':Calls Tryz.prog 45 #[.slice q2 V.length c2,.slice q2' V'.length c2'] W (q8 bb W)))
     have HBB:=qh (And.intro hLL hbb);clear hbb hLL
     clear c0 c1 d0 d1
     go_wp2_with fail
     refine wp_region_held_drew (S:=(fun w':World=>Below wr.heap.size wr w'∧w'.cell? ⟨b,o+k*2,none⟩=some (.slice q L.length c)∧w'.cell? ⟨b,o+k*2+1,none⟩=some (.slice q2 V.length c2)∧w'.cell? ⟨b',o'+k*2,none⟩=some (.slice q' L'.length c')∧w'.cell? ⟨b',o'+k*2+1,none⟩=some (.slice q2' V'.length c2'))) (by kernel_rfl) (HS.out) (fun hHeld => ?_)
     refine rt (i:=0) (v := ?_) ⟨some 17,.move (.tmp 0),23,_,_,none⟩ hHeld ?_ ?_
     rotate_left
     ·intro wS hSw;(try dsimp only at hSw);go_simp <;> with_reducible rfl
     try simp only [Act.put,o6,o7,o8]
     refine rt (i:=1) (v := ?_) ⟨some 18,.move (.tmp 5),3,_,_,none⟩ hHeld ?_ ?_
     rotate_left
     ·intro wS hSw;(try dsimp only at hSw);go_simp <;> with_reducible rfl
     try simp only [Act.put,o6,o7,o8]
     refine rt (i:=2) (v := ?_) ⟨some 19,.indexAddr 23 (.tmp 17) (.tmp 18),0,_,_,none⟩ hHeld ?_ ?_
     rotate_left
     ·intro wS hSw;(try dsimp only at hSw);go_simp <;> with_reducible rfl
     try simp only [Act.put,o6,o7,o8]
     refine rt (i:=3) (v := ?_) ⟨some 20,.fieldAddr 46 (.tmp 19) 0,0,_,_,none⟩ hHeld ?_ ?_
     rotate_left
     ·intro wS hSw;(try dsimp only at hSw);go_simp <;> with_reducible rfl
     try simp only [Act.put,o6,o7,o8]
     refine rt (i:=4) (v := ?_) ⟨some 21,.load 42 (.tmp 20),42,_,_,none⟩ hHeld ?_ ?_
     rotate_left
     ·intro wS hSw;(try dsimp only at hSw);go_simp <;> with_reducible rfl
     try simp only [Act.put,o6,o7,o8]
     refine rt (i:=5) (v := ?_) ⟨some 22,.move (.tmp 1),23,_,_,none⟩ hHeld ?_ ?_
     rotate_left
     ·intro wS hSw;(try dsimp only at hSw);go_simp <;> with_reducible rfl
     try simp only [Act.put,o6,o7,o8]
     refine rt (i:=6) (v := ?_) ⟨some 23,.move (.tmp 5),3,_,_,none⟩ hHeld ?_ ?_
     rotate_left
     ·intro wS hSw;(try dsimp only at hSw);go_simp <;> with_reducible rfl
     try simp only [Act.put,o6,o7,o8]
     refine rt (i:=7) (v := ?_) ⟨some 24,.indexAddr 23 (.tmp 22) (.tmp 23),0,_,_,none⟩ hHeld ?_ ?_
     rotate_left
     ·intro wS hSw;(try dsimp only at hSw);go_simp <;> with_reducible rfl
     try simp only [Act.put,o6,o7,o8]
     refine rt (i:=8) (v := ?_) ⟨some 25,.fieldAddr 46 (.tmp 24) 0,0,_,_,none⟩ hHeld ?_ ?_
     rotate_left
     ·intro wS hSw;(try dsimp only at hSw);go_simp <;> with_reducible rfl
     try simp only [Act.put,o6,o7,o8]
     refine rt (i:=9) (v := ?_) ⟨some 26,.load 42 (.tmp 25),42,_,_,none⟩ hHeld ?_ ?_
     rotate_left
     ·intro wS hSw;(try dsimp only at hSw);go_simp <;> with_reducible rfl
     try simp only [Act.put,o6,o7,o8]
     refine wpAnyH_ready (rs := [10]) (by kernel_rfl) (by simp) (AllReadyH.cons (o:=⟨some 27,.call { callee := .value (.func 26),args:=#[.tmp 21,.tmp 26],argTypes:=#[42,42] },4,_,_,none⟩) rfl (fun K hK => ?_) AllReadyH.nil)
     go_simp
     refine (K4.out _ (HA.out.1.call (zl1 hHeld)) (HA.out.2.1.call (zl1 hHeld))).mono ?_
     rintro en wN ⟨rfl,hbN⟩
     have hbH:=qh hbN;clear hbN
     go_wp2_with fail
     refine hK.out _ _ (ye0 hHeld hbH.out) (fun hNew => ?_)
     clear hK K hHeld hbH
     have hHeld:=hNew;clear hNew
     try simp only [Act.put,o6,o7,o8]
     refine rt (i:=11) (v := ?_) ⟨some 28,.unOp UnOp.not 4 (.tmp 27),4,_,_,none⟩ hHeld ?_ ?_
     rotate_left
     ·intro wS hSw;(try dsimp only at hSw);go_simp <;> with_reducible rfl
     try simp only [Act.put,o6,o7,o8]
     refine rt (i:=12) (v := ?_) ⟨some 29,.move (.tmp 28),4,_,_,none⟩ hHeld ?_ ?_
     rotate_left
     ·intro wS hSw;(try dsimp only at hSw);go_simp <;> with_reducible rfl
     try simp only [Act.put,o6,o7,o8]
     refine rt (i:=13) (v := ?_) ⟨some 30,.move (.tmp 0),23,_,_,some (12,false)⟩ hHeld ?_ ?_
     rotate_left
     ·intro wS hSw;(try dsimp only at hSw);go_simp <;> with_reducible rfl
     try simp only [Act.put,o6,o7,o8]
     refine rt (i:=14) (v := ?_) ⟨some 31,.move (.tmp 5),3,_,_,some (12,false)⟩ hHeld ?_ ?_
     rotate_left
     ·intro wS hSw;(try dsimp only at hSw);go_simp <;> with_reducible rfl
     try simp only [Act.put,o6,o7,o8]
     refine rt (i:=15) (v := ?_) ⟨some 32,.indexAddr 23 (.tmp 30) (.tmp 31),0,_,_,some (12,false)⟩ hHeld ?_ ?_
     rotate_left
     ·intro wS hSw;(try dsimp only at hSw);go_simp <;> with_reducible rfl
     try simp only [Act.put,o6,o7,o8]
     refine rt (i:=16) (v := ?_) ⟨some 33,.fieldAddr 46 (.tmp 32) 1,0,_,_,some (12,false)⟩ hHeld ?_ ?_
     rotate_left
     ·intro wS hSw;(try dsimp only at hSw);go_simp <;> with_reducible rfl
     try simp only [Act.put,o6,o7,o8]
     refine rt (i:=17) (v := ?_) ⟨some 34,.load 44 (.tmp 33),44,_,_,some (12,false)⟩ hHeld ?_ ?_
     rotate_left
     ·intro wS hSw;(try dsimp only at hSw);go_simp <;> with_reducible rfl
     try simp only [Act.put,o6,o7,o8]
     refine rt (i:=18) (v := ?_) ⟨some 35,.move (.tmp 1),23,_,_,some (12,false)⟩ hHeld ?_ ?_
     rotate_left
     ·intro wS hSw;(try dsimp only at hSw);go_simp <;> with_reducible rfl
     try simp only [Act.put,o6,o7,o8]
     refine rt (i:=19) (v := ?_) ⟨some 36,.move (.tmp 5),3,_,_,some (12,false)⟩ hHeld ?_ ?_
     rotate_left
     ·intro wS hSw;(try dsimp only at hSw);go_simp <;> with_reducible rfl
     try simp only [Act.put,o6,o7,o8]
     refine rt (i:=20) (v := ?_) ⟨some 37,.indexAddr 23 (.tmp 35) (.tmp 36),0,_,_,some (12,false)⟩ hHeld ?_ ?_
     rotate_left
     ·intro wS hSw;(try dsimp only at hSw);go_simp <;> with_reducible rfl
     try simp only [Act.put,o6,o7,o8]
     refine rt (i:=21) (v := ?_) ⟨some 38,.fieldAddr 46 (.tmp 37) 1,0,_,_,some (12,false)⟩ hHeld ?_ ?_
     rotate_left
     ·intro wS hSw;(try dsimp only at hSw);go_simp <;> with_reducible rfl
     try simp only [Act.put,o6,o7,o8]
     refine rt (i:=22) (v := ?_) ⟨some 39,.load 44 (.tmp 38),44,_,_,some (12,false)⟩ hHeld ?_ ?_
     rotate_left
     ·intro wS hSw;(try dsimp only at hSw);go_simp <;> with_reducible rfl
     try simp only [Act.put,o6,o7,o8]
     refine wpAnyH_ready (rs := [23]) (by kernel_rfl) (by simp) (AllReadyH.cons (o:=⟨some 40,.call { callee := .value (.func 45),args:=#[.tmp 34,.tmp 39],argTypes:=#[44,44] },4,_,_,some (12,false)⟩) rfl (fun K hK => ?_) AllReadyH.nil)
     go_simp
     refine (K9.out _ (HA.out.2.2.1.call (zl1 hHeld)) (HA.out.2.2.2.call (zl1 hHeld))).mono ?_
     rintro en wN ⟨rfl,hbN⟩
     have hbH:=qh hbN;clear hbN
     go_wp2_with fail
     refine hK.out _ _ (ye0 hHeld hbH.out) (fun hNew => ?_)
     clear hK K hHeld hbH
     have hHeld:=hNew;clear hNew
     try simp only [Act.put,o6,o7,o8]
     refine rt (i:=24) (v := ?_) ⟨some 41,.unOp UnOp.not 4 (.tmp 40),4,_,_,some (12,false)⟩ hHeld ?_ ?_
     rotate_left
     ·intro wS hSw;(try dsimp only at hSw);go_simp <;> with_reducible rfl
     try simp only [Act.put,o6,o7,o8]
     refine rt (i:=25) (v := ?_) ⟨some 42,.pick (.tmp 29) (.const (Value.bool true)) (.tmp 41),4,_,_,none⟩ hHeld ?_ ?_
     rotate_left
     ·intro wS hSw;(try dsimp only at hSw);go_simp <;> with_reducible rfl
     try simp only [Act.put,o6,o7,o8]
     refine wpAnyH_done (by kernel_rfl) ?_ _
     have HE:=qh (z7 HB.out hHeld.1)
     clear hHeld
     cases bb with
     | false =>
       have HZ:Hid (decide (F=F')=false):=qh (by
        rw [decide_eq_false_iff_not]
        intro e
        have h1:=HX.out.1
        rw [e,HX.out.2] at h1
        have h2:=HBB.out.2
        cases h1
        simp at h2)
       go_wp2_with fail
       go_ret
       exact ⟨by rw [HZ.out];rfl,HE.out⟩
     | true =>
       go_wp2_with fail
       go_roundw
       case rel=>exact ⟨k+1,by go_num,by omega,fun j hj=>by
        rcases Nat.lt_or_eq_of_le (Nat.le_of_lt_succ hj) with h | h
        ·exact HBF.out j h
        ·subst h
         rw [HX.out.1,HX.out.2,HBB.out.1,of_decide_eq_true HBB.out.2],HE.out⟩
       case measure=>simp [intOf];omega
    ·have K4:=qh (fun W h h'=>(decide_eq_false hLL ▸ KS.out L L' (.slice q L.length c) (.slice q' L'.length c') W h h':Calls Tryz.prog 26 #[.slice q L.length c,.slice q' L'.length c'] W (q8 false W)))
     have HZ:Hid (decide (F=F')=false):=qh (by
      rw [decide_eq_false_iff_not]
      intro e
      have h1:=HX.out.1
      rw [e,HX.out.2] at h1
      cases h1
      exact hLL rfl)
     clear c0 c1 d0 d1 hLL
     go_wp2_with fail
     refine wp_region_held_drew (S:=(fun w':World=>Below wr.heap.size wr w'∧w'.cell? ⟨b,o+k*2,none⟩=some (.slice q L.length c)∧w'.cell? ⟨b,o+k*2+1,none⟩=some (.slice q2 V.length c2)∧w'.cell? ⟨b',o'+k*2,none⟩=some (.slice q' L'.length c')∧w'.cell? ⟨b',o'+k*2+1,none⟩=some (.slice q2' V'.length c2'))) (by kernel_rfl) (HS.out) (fun hHeld => ?_)
     refine rt (i:=0) (v := ?_) ⟨some 17,.move (.tmp 0),23,_,_,none⟩ hHeld ?_ ?_
     rotate_left
     ·intro wS hSw;(try dsimp only at hSw);go_simp <;> with_reducible rfl
     try simp only [Act.put,o6,o7,o8]
     refine rt (i:=1) (v := ?_) ⟨some 18,.move (.tmp 5),3,_,_,none⟩ hHeld ?_ ?_
     rotate_left
     ·intro wS hSw;(try dsimp only at hSw);go_simp <;> with_reducible rfl
     try simp only [Act.put,o6,o7,o8]
     refine rt (i:=2) (v := ?_) ⟨some 19,.indexAddr 23 (.tmp 17) (.tmp 18),0,_,_,none⟩ hHeld ?_ ?_
     rotate_left
     ·intro wS hSw;(try dsimp only at hSw);go_simp <;> with_reducible rfl
     try simp only [Act.put,o6,o7,o8]
     refine rt (i:=3) (v := ?_) ⟨some 20,.fieldAddr 46 (.tmp 19) 0,0,_,_,none⟩ hHeld ?_ ?_
     rotate_left
     ·intro wS hSw;(try dsimp only at hSw);go_simp <;> with_reducible rfl
     try simp only [Act.put,o6,o7,o8]
     refine rt (i:=4) (v := ?_) ⟨some 21,.load 42 (.tmp 20),42,_,_,none⟩ hHeld ?_ ?_
     rotate_left
     ·intro wS hSw;(try dsimp only at hSw);go_simp <;> with_reducible rfl
     try simp only [Act.put,o6,o7,o8]
     refine rt (i:=5) (v := ?_) ⟨some 22,.move (.tmp 1),23,_,_,none⟩ hHeld ?_ ?_
     rotate_left
     ·intro wS hSw;(try dsimp only at hSw);go_simp <;> with_reducible rfl
     try simp only [Act.put,o6,o7,o8]
     refine rt (i:=6) (v := ?_) ⟨some 23,.move (.tmp 5),3,_,_,none⟩ hHeld ?_ ?_
     rotate_left
     ·intro wS hSw;(try dsimp only at hSw);go_simp <;> with_reducible rfl
     try simp only [Act.put,o6,o7,o8]
     refine rt (i:=7) (v := ?_) ⟨some 24,.indexAddr 23 (.tmp 22) (.tmp 23),0,_,_,none⟩ hHeld ?_ ?_
     rotate_left
     ·intro wS hSw;(try dsimp only at hSw);go_simp <;> with_reducible rfl
     try simp only [Act.put,o6,o7,o8]
     refine rt (i:=8) (v := ?_) ⟨some 25,.fieldAddr 46 (.tmp 24) 0,0,_,_,none⟩ hHeld ?_ ?_
     rotate_left
     ·intro wS hSw;(try dsimp only at hSw);go_simp <;> with_reducible rfl
     try simp only [Act.put,o6,o7,o8]
     refine rt (i:=9) (v := ?_) ⟨some 26,.load 42 (.tmp 25),42,_,_,none⟩ hHeld ?_ ?_
     rotate_left
     ·intro wS hSw;(try dsimp only at hSw);go_simp <;> with_reducible rfl
     try simp only [Act.put,o6,o7,o8]
     refine wpAnyH_ready (rs := [10]) (by kernel_rfl) (by simp) (AllReadyH.cons (o:=⟨some 27,.call { callee := .value (.func 26),args:=#[.tmp 21,.tmp 26],argTypes:=#[42,42] },4,_,_,none⟩) rfl (fun K hK => ?_) AllReadyH.nil)
     go_simp
     refine (K4.out _ (HA.out.1.call (zl1 hHeld)) (HA.out.2.1.call (zl1 hHeld))).mono ?_
     rintro en wN ⟨rfl,hbN⟩
     have hbH:=qh hbN;clear hbN
     go_wp2_with fail
     refine hK.out _ _ (ye0 hHeld hbH.out) (fun hNew => ?_)
     clear hK K hHeld hbH
     have hHeld:=hNew;clear hNew
     try simp only [Act.put,o6,o7,o8]
     refine rt (i:=11) (v := ?_) ⟨some 28,.unOp UnOp.not 4 (.tmp 27),4,_,_,none⟩ hHeld ?_ ?_
     rotate_left
     ·intro wS hSw;(try dsimp only at hSw);go_simp <;> with_reducible rfl
     try simp only [Act.put,o6,o7,o8]
     refine rt (i:=12) (v := ?_) ⟨some 29,.move (.tmp 28),4,_,_,none⟩ hHeld ?_ ?_
     rotate_left
     ·intro wS hSw;(try dsimp only at hSw);go_simp <;> with_reducible rfl
     try simp only [Act.put,o6,o7,o8]
     refine rk (i:=13) ⟨some 30,.move (.tmp 0),23,_,_,some (12,false)⟩ hHeld ?_
     try simp only [Act.put,o6,o7,o8]
     refine rk (i:=14) ⟨some 31,.move (.tmp 5),3,_,_,some (12,false)⟩ hHeld ?_
     try simp only [Act.put,o6,o7,o8]
     refine rk (i:=15) ⟨some 32,.indexAddr 23 (.tmp 30) (.tmp 31),0,_,_,some (12,false)⟩ hHeld ?_
     try simp only [Act.put,o6,o7,o8]
     refine rk (i:=16) ⟨some 33,.fieldAddr 46 (.tmp 32) 1,0,_,_,some (12,false)⟩ hHeld ?_
     try simp only [Act.put,o6,o7,o8]
     refine rk (i:=17) ⟨some 34,.load 44 (.tmp 33),44,_,_,some (12,false)⟩ hHeld ?_
     try simp only [Act.put,o6,o7,o8]
     refine rk (i:=18) ⟨some 35,.move (.tmp 1),23,_,_,some (12,false)⟩ hHeld ?_
     try simp only [Act.put,o6,o7,o8]
     refine rk (i:=19) ⟨some 36,.move (.tmp 5),3,_,_,some (12,false)⟩ hHeld ?_
     try simp only [Act.put,o6,o7,o8]
     refine rk (i:=20) ⟨some 37,.indexAddr 23 (.tmp 35) (.tmp 36),0,_,_,some (12,false)⟩ hHeld ?_
     try simp only [Act.put,o6,o7,o8]
     refine rk (i:=21) ⟨some 38,.fieldAddr 46 (.tmp 37) 1,0,_,_,some (12,false)⟩ hHeld ?_
     try simp only [Act.put,o6,o7,o8]
     refine rk (i:=22) ⟨some 39,.load 44 (.tmp 38),44,_,_,some (12,false)⟩ hHeld ?_
     try simp only [Act.put,o6,o7,o8]
     refine rk (i:=23) ⟨some 40,.call { callee := .value (.func 45),args:=#[.tmp 34,.tmp 39],argTypes:=#[44,44] },4,_,_,some (12,false)⟩ hHeld ?_
     try simp only [Act.put,o6,o7,o8]
     refine rk (i:=24) ⟨some 41,.unOp UnOp.not 4 (.tmp 40),4,_,_,some (12,false)⟩ hHeld ?_
     try simp only [Act.put,o6,o7,o8]
     refine rt (i:=25) (v := ?_) ⟨some 42,.pick (.tmp 29) (.const (Value.bool true)) (.tmp 41),4,_,_,none⟩ hHeld ?_ ?_
     rotate_left
     ·intro wS hSw;(try dsimp only at hSw);go_simp <;> with_reducible rfl
     try simp only [Act.put,o6,o7,o8]
     refine wpAnyH_done (by kernel_rfl) ?_ _
     have HE:=qh (z7 HB.out hHeld.1)
     clear hHeld
     go_wp2_with fail
     go_ret
     exact ⟨by rw [HZ.out];rfl,HE.out⟩
   ·obtain rfl:k=n9:=by omega
    have HZ:Hid (decide (F=F')=true):=qh (decide_eq_true (w26 HL.out fun j hj=>HBF.out j (by rw [← HN.out];exact hj)))
    go_wp2_with fail
    go_ret
    exact ⟨by rw [HZ.out];rfl,HB.out⟩
 ·have hb:((F.length:Int) != (F'.length:Int))=true:=bne_iff_ne.2 (by omega)
  have hne:decide (F=F')=false:=by
   rw [decide_eq_false_iff_not]
   intro e
   exact hl (congrArg List.length e)
  have HN:=qh hne;clear hne
  clear hl hv hv'
  go_enter Tryz.func18,Tryz.ntmps18
  go_wp2_with fail
  go_ret
  exact ⟨by rw [HN.out];rfl,Below.refl _ _⟩
end
end Go.Proofs.YtchndljcahjldaaGreatDoor
