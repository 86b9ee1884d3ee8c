/- The laws of sets for the reference's operations: plain mathematics. -/
import Derived.Test.YtchndljcahjldaaGreatDoorKRIv
namespace Go.Proofs.YtchndljcahjldaaGreatDoor
section
def UM:Int:=18446744073709551615
def fOr (p q:Bool):Bool:=p || q
def wp9 (p q:Bool):Bool:=p && q
def yy9 (p q:Bool):Bool:=p && !q
theorem zl4:0≤UM:=by decide
theorem wd8:fOr false false=false:=rfl
theorem xr6:wp9 false false=false:=rfl
theorem xr7:yy9 false false=false:=rfl
def orL (a b:List Iv):List Iv:=opL UM fOr a b
def zv0 (a b:List Iv):List Iv:=opL UM wp9 a b
def zv1 (a b:List Iv):List Iv:=opL UM yy9 a b
structure v7 (l:List Iv):Prop where
 can:q7 l
 ok:okL UM l
theorem z17:v7 []:=⟨trivial,fun y hy=>by cases hy⟩
theorem yz0 {l:List Iv} (h:q7 l) (h64:o6 l):v7 l:=⟨h,w46 h fun y hy=>⟨(h64 y hy).1.1,(h64 y hy).2.2⟩⟩
theorem v7.all {l:List Iv} (h:v7 l):o6 l:=fun x hx=>by
 have:=h.ok x hx
 unfold UM at this
 exact ⟨by omega,by omega⟩
theorem z27 {x y:Int} (h:x≤y) (hx:0≤x) (hy:y≤18446744073709551615):v7 [(x,y)]:=yz0 ⟨h,by simp,trivial⟩ fun z hz=>by rw [List.mem_singleton.1 hz];exact ⟨⟨hx,by simp only;omega⟩,by simp only;omega,hy⟩
theorem z10 {a b:List Iv} (ha:v7 a) (hb:v7 b):v7 (orL a b):=⟨y28 zl4 _ wd8 ha.ok hb.ok,wh6 zl4 _ ha.ok hb.ok⟩
theorem zt7 {a b:List Iv} (ha:v7 a) (hb:v7 b):v7 (zv0 a b):=⟨y28 zl4 _ xr6 ha.ok hb.ok,wh6 zl4 _ ha.ok hb.ok⟩
theorem za2 {a b:List Iv} (ha:v7 a) (hb:v7 b):v7 (zv1 a b):=⟨y28 zl4 _ xr7 ha.ok hb.ok,wh6 zl4 _ ha.ok hb.ok⟩
theorem zl5 {a b:List Iv} (ha:v7 a) (hb:v7 b) (x:Int):y8 (orL a b) x=(y8 a x || y8 b x):=x04 zl4 _ wd8 ha.ok hb.ok x
theorem y12 {a b:List Iv} (ha:v7 a) (hb:v7 b) (x:Int):y8 (zv0 a b) x=(y8 a x && y8 b x):=x04 zl4 _ xr6 ha.ok hb.ok x
theorem zt8 {a b:List Iv} (ha:v7 a) (hb:v7 b) (x:Int):y8 (zv1 a b) x=(y8 a x && !y8 b x):=x04 zl4 _ xr7 ha.ok hb.ok x
theorem zl6 {a b:List Iv} (ha:v7 a) (hb:v7 b) (h:∀ x,y8 a x=y8 b x):a=b:=z93 _ _ ha.can hb.can h
theorem wd9 (f:Bool→Bool→Bool) (a b:List Iv):(opL UM f a b).length≤(s8 UM (a++b)).length:=xu0 _ _ _
theorem x83 {a w:List Iv} (ha:v7 a) (hw:v7 w):zv1 w (zv1 w a)=zv0 a w:=
 zl6 (za2 hw (za2 hw ha)) (zt7 ha hw) fun x=>by
  rw [zt8 hw (za2 hw ha),y12 ha hw,zt8 hw ha]
  cases y8 a x <;> cases y8 w x <;> rfl
end
section
structure z15 (m:Int) (H:List Iv):Prop where
 good:v7 H
 low:0≤m
 top:m≤UM
 hole:∀ y ∈ H,y.2≤m
def x9 (m:Int) (H:List Iv):List Iv:=zv1 [(0,m)] H
def ze9 (m:Int) (H:List Iv) (c:Int):Bool:=decide (c≤m) && !y8 H c
def z04 (L:List Iv):Int:=match L.getLast? with | some y=>y.2 | none=>0
def r9 (L:List Iv):List Iv:=if L = [] then [] else zv1 [(0,z04 L)] L
def r7 (m:Int) (H:List Iv):Bool := !y8 H m
theorem yd4 {m c:Int} (hc:0≤c):y8 [(0,m)] c=decide (c≤m):=by
 unfold y8 inI
 simp [hc]
theorem z15.one {m:Int} {H:List Iv} (h:z15 m H):v7 [(0,m)]:=z27 h.low (Int.le_refl _) h.top
theorem z12 {m:Int} {H:List Iv} (h:z15 m H):v7 (x9 m H):=za2 h.one h.good
theorem z07 {m:Int} {H:List Iv} (h:z15 m H) {c:Int} (hc:0≤c):y8 (x9 m H) c=ze9 m H c:=by
 unfold x9 ze9
 rw [zt8 h.one h.good,yd4 hc]
theorem zi9:∀ {L:List Iv},q7 L→L ≠ []→(∀ y ∈ L,y.2≤z04 L)∧y8 L (z04 L)=true
 | [],_,h=>absurd rfl h
 | [y],hc,_=>by
   refine ⟨fun z hz=>by rw [List.mem_singleton.1 hz];exact Int.le_refl _,?_⟩
   exact (v6 _ _).2 ⟨y,by simp,hc.1,Int.le_refl _⟩
 | y :: z :: r,hc,_=>by
   have ih:=zi9 (L:=z :: r) hc.2.2 (by simp)
   have e:z04 (y :: z :: r)=z04 (z :: r):=by unfold z04;rw [List.getLast?_cons_cons]
   rw [e]
   refine ⟨fun u hu => ?_,?_⟩
   ·rcases List.mem_cons.1 hu with rfl | hu
    ·have h1:=hc.2.1 z rfl
     have h2:=ih.1 z (by simp)
     have h3:=hc.2.2.1
     omega
    ·exact ih.1 u hu
   ·obtain ⟨u,hu,h1⟩:=(v6 _ _).1 ih.2
    exact (v6 _ _).2 ⟨u,by simp at hu ⊢;exact .inr hu,h1⟩
theorem za3 {L:List Iv} (h:v7 L) (hne:L ≠ []):0≤z04 L∧z04 L≤UM:=by
 obtain ⟨y,hy,h1,h2⟩:=(v6 _ _).1 (zi9 h.can hne).2
 have:=h.ok y hy
 omega
theorem xr8 {L:List Iv} (h:v7 L) (hne:L ≠ []):z15 (z04 L) (r9 L):=by
 have ht:=za3 h hne
 have ho:v7 [(0,z04 L)]:=z27 ht.1 (Int.le_refl _) ht.2
 unfold r9
 rw [if_neg hne]
 refine ⟨za2 ho h,ht.1,ht.2,fun y hy => ?_⟩
 have hg:=za2 ho h
 have h1:=hg.ok y hy
 have h2:y8 (zv1 [(0,z04 L)] L) y.2=true:=(v6 _ _).2 ⟨y,hy,h1.2.1,Int.le_refl _⟩
 rw [zt8 ho h,yd4 (by omega)] at h2
 simp at h2
 exact h2.1
theorem x84 {L:List Iv} (h:v7 L) (hne:L ≠ []):r7 (z04 L) (r9 L)=true:=by
 have ht:=za3 h hne
 have ho:v7 [(0,z04 L)]:=z27 ht.1 (Int.le_refl _) ht.2
 unfold r7 r9
 rw [if_neg hne,zt8 ho h,(zi9 h.can hne).2]
 simp
theorem x85 {L:List Iv} (h:v7 L) (hne:L ≠ []):x9 (z04 L) (r9 L)=L:=by
 have ht:=za3 h hne
 have ho:v7 [(0,z04 L)]:=z27 ht.1 (Int.le_refl _) ht.2
 unfold x9 r9
 rw [if_neg hne,x83 h ho]
 refine zl6 (zt7 h ho) h fun x => ?_
 rw [y12 h ho]
 cases hx:y8 L x with
 | false=>rfl
 | true =>
   obtain ⟨y,hy,h1,h2⟩:=(v6 _ _).1 hx
   have h3:=(zi9 h.can hne).1 y hy
   have h4:=h.ok y hy
   rw [yd4 (by omega)]
   simp;omega
theorem yh7 {m:Int} {H:List Iv} (h:z15 m H) (hc:r7 m H=true):x9 m H ≠ []∧z04 (x9 m H)=m∧r9 (x9 m H)=H:=by
 have hm:y8 (x9 m H) m=true:=by rw [z07 h h.low];unfold ze9;unfold r7 at hc;rw [hc];simp
 have hne:x9 m H ≠ []:=fun e=>by rw [e] at hm;cases hm
 have hk:=z12 h
 have ht:=zi9 hk.can hne
 have htr:=za3 hk hne
 have e1:z04 (x9 m H)=m:=by
  obtain ⟨y,hy,h1,h2⟩:=(v6 _ _).1 hm
  have h3:=ht.1 y hy
  have h4:=ht.2
  rw [z07 h htr.1] at h4
  unfold ze9 at h4
  simp at h4
  omega
 refine ⟨hne,e1,?_⟩
 unfold r9
 rw [if_neg hne,e1]
 unfold x9
 rw [x83 h.good h.one]
 refine zl6 (zt7 h.good h.one) h.good fun x => ?_
 rw [y12 h.good h.one]
 cases hx:y8 H x with
 | false=>rfl
 | true =>
   obtain ⟨y,hy,h1,h2⟩:=(v6 _ _).1 hx
   have h3:=h.hole y hy
   have h4:=h.good.ok y hy
   rw [yd4 (by omega)]
   simp;omega
end
section
theorem x86 {L:List Iv} (h:v7 L) {x:Int} (hx:x<0):y8 L x=false:=by
 rw [Bool.eq_false_iff]
 intro hh
 obtain ⟨y,hy,h1,h2⟩:=(v6 _ _).1 hh
 have:=h.ok y hy
 omega
theorem yh8 {A B:List Iv} (ha:v7 A) (hb:v7 B) (h:∀ x:Int,0≤x→y8 A x=y8 B x):A=B:=zl6 ha hb fun x=>by
 by_cases hx:0≤x
 ·exact h x hx
 ·rw [x86 ha (by omega),x86 hb (by omega)]
theorem yh9 {R:List Iv} (h:v7 R):∀ s ∈ R.map (·.1),y8 R s=true∧y8 R (s - 1)=false:=by
 intro s hs
 obtain ⟨y,hy,rfl⟩:=List.mem_map.1 hs
 have hok:=h.ok y hy
 refine ⟨(v6 _ _).2 ⟨y,hy,Int.le_refl _,hok.2.1⟩,?_⟩
 rw [Bool.eq_false_iff]
 intro hh
 obtain ⟨z,hz,h1,h2⟩:=(v6 _ _).1 hh
 obtain ⟨i,hi⟩:=List.mem_iff_getElem?.1 hy
 obtain ⟨j,hj⟩:=List.mem_iff_getElem?.1 hz
 rcases Nat.lt_trichotomy i j with hij | hij | hij
 ·have:=z47 R h.can i j y z hij hi hj;omega
 ·subst hij
  obtain rfl:=Option.some.inj (hi.symm.trans hj)
  omega
 ·have:=z47 R h.can j i z y hij hj hi;omega
theorem y13 {R:List Iv} (h:v7 R):(R.map (·.1)).Nodup:=by
 rw [List.nodup_iff_pairwise_ne,List.pairwise_map,List.pairwise_iff_getElem]
 intro i j hi hj hij
 have h1:R[i]? = some R[i]:=by simp [hi]
 have h2:R[j]? = some R[j]:=by simp [hj]
 have h3:=z47 R h.can i j _ _ hij h1 h2
 have h4:=h.ok R[i] (List.getElem_mem hi)
 intro e
 have e':R[i].1=R[j].1:=e
 omega
theorem zp6 {A:List Iv} {s:Int} (h1:y8 A s=true) (h0:y8 A (s - 1)=false):s ∈ A.map (·.1):=by
 obtain ⟨y,hy,a,b⟩:=(v6 _ _).1 h1
 refine List.mem_map.2 ⟨y,hy,?_⟩
 apply Classical.byContradiction
 intro hne
 have:y8 A (s - 1)=true:=(v6 _ _).2 ⟨y,hy,by have:y.1≠s:=hne;omega,by omega⟩
 rw [h0] at this
 cases this
theorem w09 {B:List Iv} {s:Int} (h1:y8 B s=false) (h0:y8 B (s - 1)=true):s ∈ B.map (·.2+1):=by
 obtain ⟨y,hy,a,b⟩:=(v6 _ _).1 h0
 refine List.mem_map.2 ⟨y,hy,?_⟩
 apply Classical.byContradiction
 intro hne
 have:y8 B s=true:=(v6 _ _).2 ⟨y,hy,by omega,by have:y.2+1≠s:=hne;omega⟩
 rw [h1] at this
 cases this
theorem zp7 {A B:List Iv} (ha:v7 A) (hb:v7 B):(orL A B).length≤A.length+B.length:=by
 have hg:=z10 ha hb
 have:=(y13 hg).length_le_of_subset (l₂:=A.map (·.1)++B.map (·.1)) (fun s hs=>by
  obtain ⟨h1,h0⟩:=yh9 hg s hs
  rw [zl5 ha hb] at h1 h0
  rw [List.mem_append]
  rw [Bool.or_eq_false_iff] at h0
  rw [Bool.or_eq_true] at h1
  exact h1.imp (fun h=>zp6 h h0.1) (fun h=>zp6 h h0.2))
 simpa using this
theorem yt3 {A B:List Iv} (ha:v7 A) (hb:v7 B):(zv1 A B).length≤A.length+B.length:=by
 have hg:=za2 ha hb
 have:=(y13 hg).length_le_of_subset (l₂:=A.map (·.1)++B.map (·.2+1)) (fun s hs=>by
  obtain ⟨h1,h0⟩:=yh9 hg s hs
  rw [zt8 ha hb] at h1 h0
  rw [List.mem_append]
  rw [Bool.and_eq_false_iff] at h0
  rw [Bool.and_eq_true] at h1
  refine h0.imp (fun h=>zp6 h1.1 h) (fun h=>w09 ?_ ?_)
  ·simpa using h1.2
  ·simpa using h)
 simpa using this
theorem zp8 {m:Int} {H:List Iv} (h:z15 m H):(x9 m H).length≤H.length+1:=by
 have:=yt3 h.one h.good
 unfold x9
 simp only [List.length_cons,List.length_nil] at this
 omega
theorem y97 {L:List Iv} (h:v7 L):(r9 L).length≤L.length+1:=by
 by_cases hL:L = []
 ·subst hL;simp [r9]
 ·have ht:=za3 h hL
  have:=yt3 (z27 ht.1 (Int.le_refl _) ht.2:v7 [(0,z04 L)]) h
  unfold r9
  rw [if_neg hL]
  simp only [List.length_cons,List.length_nil] at this
  omega
end
section
def n7 (U:Int):List Iv→List Int
 | [] => []
 | y :: l=>y.1 :: (if y.2<U then (y.2+1) :: n7 U l else [])
abbrev Ch:=Int × Bool × Bool
def mg:Nat→List Int→List Int→Bool→Bool→List Ch
 | 0,_,_,_,_ => []
 | _+1,[],[],_,_ => []
 | n+1,x :: xs,[],p,q=>(x,!p,q) :: mg n xs [] (!p) q
 | n+1,[],y :: ys,p,q=>(y,p,!q) :: mg n [] ys p (!q)
 | n+1,x :: xs,y :: ys,p,q =>
   if x<y then (x,!p,q) :: mg n xs (y :: ys) (!p) q
   else if y<x then (y,p,!q) :: mg n (x :: xs) ys p (!q)
   else (x,!p,!q) :: mg n xs ys (!p) (!q)
def pc (U:Int) (f:Bool→Bool→Bool):List Ch→Int→Bool→List Iv
 | [],s,t=>if t then [(s,U)] else []
 | x :: r,s,t=>if f x.2.1 x.2.2=t then pc U f r s t else if t then (s,x.1 - 1) :: pc U f r x.1 false else pc U f r x.1 true
def zj0:List Int→Bool→Int→Bool
 | [],p,_=>p
 | e :: r,p,x=>if e≤x then zj0 r (!p) x else p
def zy0 (f:Bool→Bool→Bool):List Ch→Bool→Int→Bool
 | [],t,_=>t
 | c :: r,t,x=>if c.1≤x then zy0 f r (f c.2.1 c.2.2) x else t
theorem ze0 (f:Bool→Bool→Bool) (c:Ch) (r:List Ch) (t:Bool) (x:Int):zy0 f (c :: r) t x=if c.1≤x then zy0 f r (f c.2.1 c.2.2) x else t:=rfl
def upE (U:Int):Int→List Int→Prop
 | _,[]=>True
 | b,e :: r=>b<e∧e≤U∧upE U e r
def upC (U:Int):Int→List Ch→Prop
 | _,[]=>True
 | b,c :: r=>b<c.1∧c.1≤U∧upC U c.1 r
theorem zg7 {U:Int} {l:List Int} {b x:Int} (p:Bool) (h:upE U b l) (hx:x≤b):zj0 l p x=p:=by
 cases l with
 | nil=>rfl
 | cons e r=>unfold zj0;rw [if_neg (by have:=h.1;omega)]
theorem zp9 {U:Int} {f:Bool→Bool→Bool} {l:List Ch} {b x:Int} (t:Bool) (h:upC U b l) (hx:x≤b):zy0 f l t x=t:=by
 cases l with
 | nil=>rfl
 | cons e r=>unfold zy0;rw [if_neg (by have:=h.1;omega)]
theorem y14 {U:Int}:∀ {l:List Iv} {b:Int},q7 l→(∀ y ∈ l,y.2≤U)→(∀ y,l.head? = some y→b<y.1)→upE U b (n7 U l)
 | [],_,_,_,_=>trivial
 | y :: l,b,⟨h1,h2,h3⟩,hU,hb=>by
   have hy:=hU y (by simp)
   have hb:=hb y rfl
   refine ⟨hb,by omega,?_⟩
   split
   ·rename_i hlt
    exact ⟨by omega,by omega,y14 h3 (fun z hz=>hU z (by simp [hz])) h2⟩
   ·trivial
theorem yi0 {U:Int}:∀ {l:List Iv},q7 l→(∀ y ∈ l,y.2≤U)→∀ x,x≤U→zj0 (n7 U l) false x=y8 l x
 | [],_,_,_,_=>rfl
 | y :: l,⟨h1,h2,h3⟩,hU,x,hx=>by
   have hy:=hU y (by simp)
   have ih:=yi0 h3 (fun z hz=>hU z (by simp [hz])) x hx
   have hcb:=z92 l _ h3 h2
   rw [yu7]
   unfold n7 zj0
   by_cases c1:y.1≤x
   ·rw [if_pos c1]
    by_cases c2:y.2<U
    ·rw [if_pos c2]
     unfold zj0
     by_cases c3:y.2+1≤x
     ·rw [if_pos c3,show inI y x=false by unfold inI;simp;omega]
      simpa using ih
     ·rw [if_neg c3,show inI y x=true by unfold inI;simp;omega]
      rfl
    ·rw [if_neg c2,show inI y x=true by unfold inI;simp;omega]
     rfl
   ·rw [if_neg c1,show inI y x=false by unfold inI;simp;omega]
    symm
    rw [Bool.false_or,Bool.eq_false_iff]
    intro hh
    obtain ⟨z,hz,h4,h5⟩:=(v6 _ _).1 hh
    have:=hcb z hz
    omega
theorem yi1 (U:Int):∀ l:List Iv,(n7 U l).length≤2*l.length
 | []=>by simp [n7]
 | y :: l=>by
   have:=yi1 U l
   unfold n7
   split <;> simp <;> omega
theorem yi2 {U:Int}:∀ (n:Nat) {xs ys:List Int} {b:Int} (p q:Bool),upE U b xs→upE U b ys→upC U b (mg n xs ys p q)
 | 0,_,_,_,_,_,_,_=>trivial
 | n+1,[],[],_,_,_,_,_=>trivial
 | n+1,x :: xs,[],b,p,q,⟨h1,h2,h3⟩,_=>⟨h1,h2,yi2 n _ _ h3 trivial⟩
 | n+1,[],y :: ys,b,p,q,_,⟨h1,h2,h3⟩=>⟨h1,h2,yi2 n _ _ trivial h3⟩
 | n+1,x :: xs,y :: ys,b,p,q,⟨h1,h2,h3⟩,⟨k1,k2,k3⟩=>by
   unfold mg
   split
   ·rename_i c;exact ⟨h1,h2,yi2 n _ _ h3 ⟨c,k2,k3⟩⟩
   ·split
    ·rename_i c;exact ⟨k1,k2,yi2 n _ _ ⟨c,h2,h3⟩ k3⟩
    ·rename_i c d
     obtain rfl:x=y:=by omega
     exact ⟨h1,h2,yi2 n _ _ h3 k3⟩
theorem y53 {U:Int} (f:Bool→Bool→Bool) (x:Int):∀ (n:Nat) {xs ys:List Int} {b:Int} (p q:Bool),upE U b xs→upE U b ys→xs.length+ys.length≤n →
 zy0 f (mg n xs ys p q) (f p q) x=f (zj0 xs p x) (zj0 ys q x)
 | 0,[],[],_,_,_,_,_,_=>rfl
 | 0,_ :: _,_,_,_,_,_,_,h=>by simp at h
 | 0,[],_ :: _,_,_,_,_,_,h=>by simp at h
 | n+1,[],[],_,_,_,_,_,_=>rfl
 | n+1,u :: xs,[],b,p,q,⟨h1,h2,h3⟩,_,hn=>by
   unfold mg zy0
   show (if u≤x then _ else _)=_
   by_cases c:u≤x
   ·rw [if_pos c,y53 f x n (!p) q h3 (ys := []) trivial (by simp at hn ⊢;omega)]
    simp only [zj0];rw [if_pos c]
   ·rw [if_neg c];simp only [zj0];rw [if_neg c]
 | n+1,[],v :: ys,b,p,q,_,⟨k1,k2,k3⟩,hn=>by
   unfold mg zy0
   show (if v≤x then _ else _)=_
   by_cases c:v≤x
   ·rw [if_pos c,y53 f x n p (!q) (xs := []) trivial k3 (by simp at hn ⊢;omega)]
    simp only [zj0];rw [if_pos c]
   ·rw [if_neg c];simp only [zj0];rw [if_neg c]
 | n+1,u :: xs,v :: ys,b,p,q,⟨h1,h2,h3⟩,⟨k1,k2,k3⟩,hn=>by
   unfold mg
   split
   ·rename_i c
    unfold zy0
    show (if u≤x then _ else _)=_
    by_cases d:u≤x
    ·rw [if_pos d,y53 f x n (!p) q h3 (ys:=v :: ys) ⟨c,k2,k3⟩ (by simp at hn ⊢;omega)]
     rw [show zj0 (u :: xs) p x=zj0 xs (!p) x from by simp only [zj0];rw [if_pos d]]
    ·rw [if_neg d,zg7 p (b:=x) (l:=u :: xs) ⟨by omega,h2,h3⟩ (Int.le_refl _),zg7 q (b:=x) (l:=v :: ys) ⟨by omega,k2,k3⟩ (Int.le_refl _)]
   ·split
    ·rename_i c
     unfold zy0
     show (if v≤x then _ else _)=_
     by_cases d:v≤x
     ·rw [if_pos d,y53 f x n p (!q) (xs:=u :: xs) ⟨c,h2,h3⟩ k3 (by simp at hn ⊢;omega)]
      rw [show zj0 (v :: ys) q x=zj0 ys (!q) x from by simp only [zj0];rw [if_pos d]]
     ·rw [if_neg d,zg7 p (b:=x) (l:=u :: xs) ⟨by omega,h2,h3⟩ (Int.le_refl _),zg7 q (b:=x) (l:=v :: ys) ⟨by omega,k2,k3⟩ (Int.le_refl _)]
    ·rename_i c d
     obtain rfl:u=v:=by omega
     unfold zy0
     show (if u≤x then _ else _)=_
     by_cases d:u≤x
     ·rw [if_pos d,y53 f x n (!p) (!q) h3 k3 (by simp at hn ⊢;omega)]
      simp only [zj0];rw [if_pos d,if_pos d]
     ·rw [if_neg d];simp only [zj0];rw [if_neg d,if_neg d]
theorem yd5 {U:Int} (f:Bool→Bool→Bool):∀ (C:List Ch) (s b:Int) (t:Bool),upC U b C→(t=true→s≤b∧s≤U) →
 q7 (pc U f C s t)∧(∀ y,(pc U f C s t).head? = some y→if t then y.1=s else b<y.1) ∧
 (∀ x,y8 (pc U f C s t) x=(decide (x≤U) && (if t then decide (s≤x) && zy0 f C true x else zy0 f C false x)))
 | [],s,b,t,_,ht=>by
   cases t with
   | false=>exact ⟨trivial,by simp [pc],by simp [pc,y8,zy0]⟩
   | true =>
     have h:=ht rfl
     refine ⟨⟨h.2,by simp,trivial⟩,by simp [pc],fun x => ?_⟩
     simp only [pc,if_pos,y8,List.any_cons,List.any_nil,Bool.or_false,zy0,Bool.and_true]
     unfold inI
     rw [Bool.and_comm]
 | c :: r,s,b,t,⟨h1,h2,h3⟩,ht=>by
   unfold pc
   by_cases e:f c.2.1 c.2.2=t
   ·rw [if_pos e]
    obtain ⟨k1,k2,k3⟩:=yd5 f r s c.1 t h3 (fun h=>by have:=ht h;omega)
    refine ⟨k1,?_,fun x => ?_⟩
    ·intro y hy
     have:=k2 y hy
     cases t with
     | true=>exact this
     | false=>simp only [Bool.false_eq_true,if_false] at this ⊢;omega
    ·rw [k3 x]
     rw [ze0,ze0]
     rw [e]
     by_cases d:c.1≤x
     ·rw [if_pos d,if_pos d]
      cases t <;> rfl
     ·rw [if_neg d,if_neg d]
      rw [zp9 true h3 (by omega),zp9 false h3 (by omega)]
   ·rw [if_neg e]
    cases t with
    | true =>
      rw [if_pos rfl]
      have ef:f c.2.1 c.2.2=false:=by cases hf:f c.2.1 c.2.2 with | true=>exact absurd hf e | false=>rfl
      have hs:=ht rfl
      obtain ⟨k1,k2,k3⟩:=yd5 f r c.1 c.1 false h3 (fun h=>by cases h)
      simp only [Bool.false_eq_true,if_false] at k2 k3
      refine ⟨⟨by simp only;omega,fun y hy=>by have:=k2 y hy;simp only;omega,k1⟩,by simp,fun x => ?_⟩
      rw [yu7,k3 x]
      rw [ze0,ze0]
      rw [ef]
      simp only [if_true]
      by_cases d:c.1≤x
      ·rw [if_pos d,show inI (s,c.1 - 1) x=false by unfold inI;simp;omega,show decide (s≤x)=true by simp;omega];simp
      ·rw [if_neg d,zp9 false h3 (by omega)]
       unfold inI
       rw [show decide (x≤c.1 - 1)=true by simp;omega,show decide (x≤U)=true by simp;omega];simp
    | false =>
      rw [if_neg (by simp)]
      have ef:f c.2.1 c.2.2=true:=by cases hf:f c.2.1 c.2.2 with | false=>exact absurd hf e | true=>rfl
      obtain ⟨k1,k2,k3⟩:=yd5 f r c.1 c.1 true h3 (fun _=>⟨Int.le_refl _,h2⟩)
      simp only [if_true] at k2 k3
      refine ⟨k1,fun y hy => ?_,fun x => ?_⟩
      ·have:=k2 y hy;simp only [Bool.false_eq_true,if_false];omega
      ·rw [k3 x]
       rw [ze0,ze0]
       rw [ef]
       simp only [Bool.false_eq_true,if_false]
       by_cases d:c.1≤x
       ·rw [if_pos d,show decide (c.1≤x)=true by simpa using d];simp
       ·rw [if_neg d,show decide (c.1≤x)=false by simpa using d];simp
def chL (U:Int) (a b:List Iv):List Ch:=mg ((n7 U a).length+(n7 U b).length) (n7 U a) (n7 U b) false false
theorem wv9 {U:Int} (h0U:0≤U) (f:Bool→Bool→Bool) (hf:f false false=false) {a b:List Iv} (ca:q7 a) (cb:q7 b) (ha:okL U a) (hb:okL U b):pc U f (chL U a b) 0 false=opL U f a b:=by
 have ea:upE U (-1) (n7 U a):=y14 ca (fun y hy=>(ha y hy).2.2) (fun y hy=>by have:=ha y (List.mem_of_mem_head? hy);omega)
 have eb:upE U (-1) (n7 U b):=y14 cb (fun y hy=>(hb y hy).2.2) (fun y hy=>by have:=hb y (List.mem_of_mem_head? hy);omega)
 obtain ⟨k1,k2,k3⟩:=yd5 (U:=U) f (chL U a b) 0 (-1) false (yi2 _ false false ea eb) (fun h=>by cases h)
 refine w45 h0U f hf ha hb k1 fun x => ?_
 rw [k3 x]
 simp only [Bool.false_eq_true,if_false]
 by_cases hx:x≤U
 ·have hv:=y53 f x ((n7 U a).length+(n7 U b).length) false false ea eb (Nat.le_refl _)
  rw [hf] at hv
  rw [show chL U a b=mg ((n7 U a).length+(n7 U b).length) (n7 U a) (n7 U b) false false from rfl,hv,yi0 ca (fun y hy=>(ha y hy).2.2) x hx,yi0 cb (fun y hy=>(hb y hy).2.2) x hx]
  simp [hx]
 ·rw [y27 ha (by omega),y27 hb (by omega),hf];simp [hx]
theorem zl7:∀ (n m:Nat) (xs ys:List Int) (p q:Bool),xs.length+ys.length≤n→xs.length+ys.length≤m→mg n xs ys p q=mg m xs ys p q
 | 0,0,_,_,_,_,_,_=>rfl
 | 0,m+1,[],[],_,_,_,_=>rfl
 | 0,m+1,_ :: _,_,_,_,h,_=>by simp at h
 | 0,m+1,[],_ :: _,_,_,h,_=>by simp at h
 | n+1,0,[],[],_,_,_,_=>rfl
 | n+1,0,_ :: _,_,_,_,_,h=>by simp at h
 | n+1,0,[],_ :: _,_,_,_,h=>by simp at h
 | n+1,m+1,[],[],_,_,_,_=>rfl
 | n+1,m+1,x :: xs,[],p,q,h,k=>by
   show _ :: _=_ :: _
   rw [zl7 n m xs [] (!p) q (by simp at h ⊢;omega) (by simp at k ⊢;omega)]
 | n+1,m+1,[],y :: ys,p,q,h,k=>by
   show _ :: _=_ :: _
   rw [zl7 n m [] ys p (!q) (by simp at h ⊢;omega) (by simp at k ⊢;omega)]
 | n+1,m+1,x :: xs,y :: ys,p,q,h,k=>by
   unfold mg
   rw [zl7 n m xs (y :: ys) (!p) q (by simp at h ⊢;omega) (by simp at k ⊢;omega),zl7 n m (x :: xs) ys p (!q) (by simp at h ⊢;omega) (by simp at k ⊢;omega),zl7 n m xs ys (!p) (!q) (by simp at h ⊢;omega) (by simp at k ⊢;omega)]
def mgL (xs ys:List Int) (p q:Bool):List Ch:=mg (xs.length+ys.length) xs ys p q
theorem wq2 (p q:Bool):mgL [] [] p q = []:=rfl
theorem we0 (x:Int) (xs:List Int) (p q:Bool):mgL (x :: xs) [] p q=(x,!p,q) :: mgL xs [] (!p) q:=rfl
theorem w18 (y:Int) (ys:List Int) (p q:Bool):mgL [] (y :: ys) p q=(y,p,!q) :: mgL [] ys p (!q):=by
 unfold mgL
 rw [show ([]:List Int).length+(y :: ys).length=ys.length+1 by simp]
 show _ :: _=_
 rw [zl7 ys.length (([]:List Int).length+ys.length) [] ys p (!q) (by simp) (by simp)]
theorem wy7 {x y:Int} (h:x<y) (xs ys:List Int) (p q:Bool):mgL (x :: xs) (y :: ys) p q=(x,!p,q) :: mgL xs (y :: ys) (!p) q:=by
 unfold mgL
 rw [show (x :: xs).length+(y :: ys).length=(xs.length+(y :: ys).length)+1 by simp;omega]
 conv=>lhs;unfold mg
 rw [if_pos h]
theorem wy8 {x y:Int} (h:y<x) (xs ys:List Int) (p q:Bool):mgL (x :: xs) (y :: ys) p q=(y,p,!q) :: mgL (x :: xs) ys p (!q):=by
 unfold mgL
 rw [show (x :: xs).length+(y :: ys).length=((x :: xs).length+ys.length)+1 by simp;omega]
 conv=>lhs;unfold mg
 rw [if_neg (by omega),if_pos h]
theorem wy9 (x:Int) (xs ys:List Int) (p q:Bool):mgL (x :: xs) (x :: ys) p q=(x,!p,!q) :: mgL xs ys (!p) (!q):=by
 unfold mgL
 rw [show (x :: xs).length+(x :: ys).length=(xs.length+ys.length+1)+1 by simp;omega]
 conv=>lhs;unfold mg
 rw [if_neg (by omega),if_neg (by omega),zl7 (xs.length+ys.length+1) (xs.length+ys.length) xs ys (!p) (!q) (by omega) (by omega)]
structure StP (U:Int) (f:Bool→Bool→Bool) (C:List Ch) (L pre:List Iv) (s:Int) (t:Bool) (front:List Ch):Prop where
 list:∀ rest,front++rest=C→pre++pc U f rest s t=L
 up:∀ rest,front++rest=C→upC U (if t then s else -1) rest
 nn:t=true→0≤s
section
variable {U:Int} {f:Bool→Bool→Bool} {C front:List Ch} {L pre:List Iv} {s:Int} {t:Bool} {x:Ch}
theorem StP.rest (hx:front ++ [x] <+: C):∃ r,front++x :: r=C:=by
 obtain ⟨r,hr⟩:=hx
 exact ⟨r,by rw [← hr];simp⟩
theorem StP.start (hu:upC U (-1) C) (hl:pc U f C 0 false=L):StP U f C L [] 0 false []:=
 ⟨fun rest h=>by rw [List.nil_append] at h ⊢;rw [h];exact hl,fun rest h=>by rw [List.nil_append] at h;rw [h];exact hu,fun h=>by cases h⟩
theorem xs0 {b b':Int} (h:b'≤b):∀ {l:List Ch},upC U b l→upC U b' l
 | [],_=>trivial
 | _ :: _,⟨h1,h2,h3⟩=>⟨by omega,h2,h3⟩
theorem StP.range (h:StP U f C L pre s t front) (hx:front ++ [x] <+: C):0≤x.1∧x.1≤U∧(t=true→0≤s∧s<x.1):=by
 obtain ⟨r,hr⟩:=StP.rest hx
 obtain ⟨h1,h2,_⟩:=h.up _ hr
 cases t with
 | true=>have:=h.nn rfl;simp only [if_true] at h1;exact ⟨by omega,h2,fun _=>⟨this,h1⟩⟩
 | false=>simp only [Bool.false_eq_true,if_false] at h1;exact ⟨by omega,h2,fun h=>by cases h⟩
theorem StP.same (h:StP U f C L pre s t front) (hx:front ++ [x] <+: C) (hf:f x.2.1 x.2.2=t):StP U f C L pre s t (front ++ [x]):=by
 have _:=hx
 refine ⟨fun rest hr => ?_,fun rest hr => ?_,h.nn⟩
 ·have:=h.list (x :: rest) (by rw [← hr];simp)
  unfold pc at this
  rwa [if_pos hf] at this
 ·obtain ⟨h1,h2,h3⟩:=h.up (x :: rest) (by rw [← hr];simp)
  exact xs0 (by omega) h3
theorem StP.stop (h:StP U f C L pre s true front) (hx:front ++ [x] <+: C) (hf:f x.2.1 x.2.2=false):StP U f C L (pre ++ [(s,x.1 - 1)]) x.1 false (front ++ [x])∧pre ++ [(s,x.1 - 1)] <+: L:=by
 have key:∀ rest,front++x :: rest=C→(pre ++ [(s,x.1 - 1)])++pc U f rest x.1 false=L:=by
  intro rest hr
  have:=h.list (x :: rest) hr
  unfold pc at this
  rw [if_neg (by rw [hf];simp),if_pos rfl] at this
  rw [← this];simp
 refine ⟨⟨fun rest hr=>key rest (by rw [← hr];simp),fun rest hr => ?_,fun h=>by cases h⟩,?_⟩
 ·obtain ⟨h1,h2,h3⟩:=h.up (x :: rest) (by rw [← hr];simp)
  have:=(h.range hx).1
  exact xs0 (by simp;omega) h3
 ·obtain ⟨r,hr⟩:=StP.rest hx
  exact ⟨_,key r hr⟩
theorem StP.go (h:StP U f C L pre s false front) (hx:front ++ [x] <+: C) (hf:f x.2.1 x.2.2=true):StP U f C L pre x.1 true (front ++ [x]):=by
 refine ⟨fun rest hr => ?_,fun rest hr => ?_,fun _=>(h.range hx).1⟩
 ·have:=h.list (x :: rest) (by rw [← hr];simp)
  unfold pc at this
  rwa [if_neg (by rw [hf];simp),if_neg (by simp)] at this
 ·obtain ⟨h1,h2,h3⟩:=h.up (x :: rest) (by rw [← hr];simp)
  exact h3
theorem StP.done (h:StP U f C L pre s false C):pre=L:=by
 have:=h.list [] (by simp)
 simpa [pc] using this
theorem StP.last (h:StP U f C L pre s true C):pre ++ [(s,U)]=L:=by
 have:=h.list [] (by simp)
 simpa [pc] using this
end
theorem we1 {U:Int} {a b:List Iv} (ca:q7 a) (cb:q7 b) (ha:okL U a) (hb:okL U b):upC U (-1) (chL U a b):=
 yi2 _ false false (y14 ca (fun y hy=>(ha y hy).2.2) (fun y hy=>by have:=ha y (List.mem_of_mem_head? hy);omega)) (y14 cb (fun y hy=>(hb y hy).2.2) (fun y hy=>by have:=hb y (List.mem_of_mem_head? hy);omega))
end
end Go.Proofs.YtchndljcahjldaaGreatDoor
