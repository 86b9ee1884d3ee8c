/- The laws of sets for the reference's operations: plain mathematics. -/
import Derived.Test.YtchndljcahjldaaGreatDoorMRIv
namespace Go.Proofs.YtchndljcahjldaaGreatDoor
section
variable {l a b H L A B R:List Iv} {x m c s:Int}
def UM:Int:=18446744073709551615
def fOr (p q:Bool):Bool:=p || q
def v67 (p q:Bool):Bool:=p && q
def yh2 (p q:Bool):Bool:=p && !q
theorem zm9:0≤UM:=by decide
theorem wd5:fOr false false=false:=rfl
theorem xr3:v67 false false=false:=rfl
theorem xr4:yh2 false false=false:=rfl
def orL (a b:List Iv):List Iv:=opL UM fOr a b
def xk1 (a b:List Iv):List Iv:=opL UM v67 a b
def zn0 (a b:List Iv):List Iv:=opL UM yh2 a b
structure t6 (l:List Iv):Prop where
 can:m5 l
 ok:okL UM l
theorem z34:t6 []:=⟨trivial,fun y hy=>by cases hy⟩
theorem yy1 (h:m5 l) (h64:m9 l):t6 l:=⟨h,w36 h fun y hy=>⟨(h64 y hy).1.1,(h64 y hy).2.2⟩⟩
theorem t6.all (h:t6 l):m9 l:=fun x hx=>by
 have:=h.ok x hx
 unfold UM at this
 exact ⟨by omega,by omega⟩
theorem z20 {y:Int} (h:x≤y) (hx:0≤x) (hy:y≤18446744073709551615):t6 [(x,y)]:=yy1 ⟨h,by simp,trivial⟩ fun z hz=>by rw [List.mem_singleton.1 hz];exact ⟨⟨hx,by simp only;omega⟩,by simp only;omega,hy⟩
theorem z03 (ha:t6 a) (hb:t6 b):t6 (orL a b):=⟨y23 zm9 _ wd5 ha.ok hb.ok,wh2 zm9 _ ha.ok hb.ok⟩
theorem zt6 (ha:t6 a) (hb:t6 b):t6 (xk1 a b):=⟨y23 zm9 _ xr3 ha.ok hb.ok,wh2 zm9 _ ha.ok hb.ok⟩
theorem za8 (ha:t6 a) (hb:t6 b):t6 (zn0 a b):=⟨y23 zm9 _ xr4 ha.ok hb.ok,wh2 zm9 _ ha.ok hb.ok⟩
theorem zn1 (ha:t6 a) (hb:t6 b) (x:Int):y9 (orL a b) x=(y9 a x || y9 b x):=yz7 zm9 _ wd5 ha.ok hb.ok x
theorem y06 (ha:t6 a) (hb:t6 b) (x:Int):y9 (xk1 a b) x=(y9 a x && y9 b x):=yz7 zm9 _ xr3 ha.ok hb.ok x
theorem y07 (ha:t6 a) (hb:t6 b) (x:Int):y9 (zn0 a b) x=(y9 a x && !y9 b x):=yz7 zm9 _ xr4 ha.ok hb.ok x
theorem zn2 (ha:t6 a) (hb:t6 b) (h:∀ x,y9 a x=y9 b x):a=b:=z98 _ _ ha.can hb.can h
theorem wd6 (f:Bool→Bool→Bool) (a b:List Iv):(opL UM f a b).length≤(r6 UM (a++b)).length:=xt9 _ _ _
theorem x80 {w:List Iv} (ha:t6 a) (hw:t6 w):zn0 w (zn0 w a)=xk1 a w:=
 zn2 (za8 hw (za8 hw ha)) (zt6 ha hw) fun x=>by grind [y07,za8,y06,y9]
structure z04 (m:Int) (H:List Iv):Prop where
 good:t6 H
 low:0≤m
 top:m≤UM
 hole:∀ y ∈ H,y.2≤m
def x7 (m:Int) (H:List Iv):List Iv:=zn0 [(0,m)] H
def yy2 (m:Int) (H:List Iv) (c:Int):Bool:=decide (c≤m) && !y9 H c
def i8 (L:List Iv):Int:=match L.getLast? with | some y=>y.2 | none=>0
def r5 (L:List Iv):List Iv:=if L = [] then [] else zn0 [(0,i8 L)] L
def o5 (m:Int) (H:List Iv):Bool := !y9 H m
theorem yd7 (hc:0≤c):y9 [(0,m)] c=decide (c≤m):=by
 unfold y9 inI
 simp [hc]
theorem z04.one (h:z04 m H):t6 [(0,m)]:=z20 h.low (Int.le_refl _) h.top
theorem z14 (h:z04 m H):t6 (x7 m H):=za8 h.one h.good
theorem z21 (h:z04 m H) (hc:0≤c):y9 (x7 m H) c=yy2 m H c:=by
 unfold x7 yy2
 rw [y07 h.one h.good,yd7 hc]
theorem zk1:∀ {L:List Iv},m5 L→L ≠ []→(∀ y ∈ L,y.2≤i8 L)∧y9 L (i8 L)=true
 | [],_,h=>absurd rfl h
 | [y],hc,_=>by
   refine ⟨fun z hz=>by rw [List.mem_singleton.1 hz];exact Int.le_refl _,?_⟩
   exact (t7 _ _).2 ⟨y,by simp,hc.1,Int.le_refl _⟩
 | y :: z :: r,hc,_=>by
   have ih:=zk1 (L:=z :: r) hc.2.2 (by simp)
   have e:i8 (y :: z :: r)=i8 (z :: r):=by unfold i8;rw [List.getLast?_cons_cons]
   rw [e]
   refine ⟨fun u hu => ?_,?_⟩
   ·rcases List.mem_cons.1 hu with rfl | hu
    ·have h1:=hc.2.1 z rfl
     have h2:=ih.1 z (by simp)
     have h3:=hc.2.2.1
     omega
    grind
   grind [t7]
theorem z88 (h:t6 L) (hne:L ≠ []):0≤i8 L∧i8 L≤UM:=by
 obtain ⟨y,hy,h1,h2⟩:=(t7 _ _).1 (zk1 h.can hne).2
 have:=h.ok y hy
 omega
theorem xr5 (h:t6 L) (hne:L ≠ []):z04 (i8 L) (r5 L):=by
 have ht:=z88 h hne
 have ho:t6 [(0,i8 L)]:=z20 ht.1 (Int.le_refl _) ht.2
 unfold r5
 rw [if_neg hne]
 refine ⟨za8 ho h,ht.1,ht.2,fun y hy => ?_⟩
 have hg:=za8 ho h
 have h1:=hg.ok y hy
 have h2:y9 (zn0 [(0,i8 L)] L) y.2=true:=(t7 _ _).2 ⟨y,hy,h1.2.1,Int.le_refl _⟩
 grind [y07,yd7]
theorem x81 (h:t6 L) (hne:L ≠ []):o5 (i8 L) (r5 L)=true:=by
 have ht:=z88 h hne
 have ho:t6 [(0,i8 L)]:=z20 ht.1 (Int.le_refl _) ht.2
 unfold o5 r5
 rw [if_neg hne,y07 ho h,(zk1 h.can hne).2]
 simp
theorem x82 (h:t6 L) (hne:L ≠ []):x7 (i8 L) (r5 L)=L:=by
 have ht:=z88 h hne
 have ho:t6 [(0,i8 L)]:=z20 ht.1 (Int.le_refl _) ht.2
 unfold x7 r5
 rw [if_neg hne,x80 h ho]
 refine zn2 (zt6 h ho) h fun x => ?_
 rw [y06 h ho]
 cases hx:y9 L x with
 | false=>rfl
 | true =>
   obtain ⟨y,hy,h1,h2⟩:=(t7 _ _).1 hx
   have h3:=(zk1 h.can hne).1 y hy
   have h4:=h.ok y hy
   rw [yd7 (by omega)]
   simp;omega
theorem yh3 (h:z04 m H) (hc:o5 m H=true):x7 m H ≠ []∧i8 (x7 m H)=m∧r5 (x7 m H)=H:=by
 have hm:y9 (x7 m H) m=true:=by rw [z21 h h.low];unfold yy2;unfold o5 at hc;rw [hc];simp
 have hne:x7 m H ≠ []:=fun e=>by rw [e] at hm;cases hm
 have hk:=z14 h
 have ht:=zk1 hk.can hne
 have htr:=z88 hk hne
 have e1:i8 (x7 m H)=m:=by grind [t7,z21,yy2]
 refine ⟨hne,e1,?_⟩
 unfold r5
 rw [if_neg hne,e1]
 unfold x7
 rw [x80 h.good h.one]
 refine zn2 (zt6 h.good h.one) h.good fun x => ?_
 rw [y06 h.good h.one]
 cases hx:y9 H x with
 | false=>rfl
 | true =>
   obtain ⟨y,hy,h1,h2⟩:=(t7 _ _).1 hx
   have h3:=h.hole y hy
   have h4:=h.good.ok y hy
   grind [yd7]
theorem x83 (h:t6 L) (hx:x<0):y9 L x=false:=by
 rw [Bool.eq_false_iff]
 intro hh
 obtain ⟨y,hy,h1,h2⟩:=(t7 _ _).1 hh
 have:=h.ok y hy
 omega
theorem yh4 (ha:t6 A) (hb:t6 B) (h:∀ x:Int,0≤x→y9 A x=y9 B x):A=B:=zn2 ha hb fun x=>by grind [x83]
theorem yh5 (h:t6 R):∀ s ∈ R.map (·.1),y9 R s=true∧y9 R (s - 1)=false:=by
 intro s hs
 obtain ⟨y,hy,rfl⟩:=List.mem_map.1 hs
 have hok:=h.ok y hy
 refine ⟨(t7 _ _).2 ⟨y,hy,Int.le_refl _,hok.2.1⟩,?_⟩
 rw [Bool.eq_false_iff]
 intro hh
 obtain ⟨z,hz,h1,h2⟩:=(t7 _ _).1 hh
 obtain ⟨i,hi⟩:=List.mem_iff_getElem?.1 hy
 obtain ⟨j,hj⟩:=List.mem_iff_getElem?.1 hz
 rcases Nat.lt_trichotomy i j with hij | hij | hij
 ·have:=z59 R h.can i j y z hij hi hj;omega
 ·grind
 ·have:=z59 R h.can j i z y hij hj hi;omega
theorem y08 (h:t6 R):(R.map (·.1)).Nodup:=by
 rw [List.nodup_iff_pairwise_ne,List.pairwise_map,List.pairwise_iff_getElem]
 intro i j hi hj hij
 have h1:R[i]? = some R[i]:=by simp [hi]
 have h2:R[j]? = some R[j]:=by simp [hj]
 have h3:=z59 R h.can i j _ _ hij h1 h2
 have h4:=h.ok R[i] (List.getElem_mem hi)
 omega
theorem zq8 (h1:y9 A s=true) (h0:y9 A (s - 1)=false):s ∈ A.map (·.1):=by
 obtain ⟨y,hy,a,b⟩:=(t7 _ _).1 h1
 refine List.mem_map.2 ⟨y,hy,?_⟩
 apply Classical.byContradiction
 grind [y9,t7]
theorem w04 (h1:y9 B s=false) (h0:y9 B (s - 1)=true):s ∈ B.map (·.2+1):=by
 obtain ⟨y,hy,a,b⟩:=(t7 _ _).1 h0
 refine List.mem_map.2 ⟨y,hy,?_⟩
 apply Classical.byContradiction
 grind [y9,t7]
theorem zf3 (ha:t6 A) (hb:t6 B):(orL A B).length≤A.length+B.length:=by
 have hg:=z03 ha hb
 have:=(y08 hg).length_le_of_subset (l₂:=A.map (·.1)++B.map (·.1)) (fun s hs=>by
  obtain ⟨h1,h0⟩:=yh5 hg s hs
  rw [zn1 ha hb] at h1 h0
  rw [List.mem_append]
  rw [Bool.or_eq_false_iff] at h0
  rw [Bool.or_eq_true] at h1
  exact h1.imp (fun h=>zq8 h h0.1) (fun h=>zq8 h h0.2))
 simpa using this
theorem ys6 (ha:t6 A) (hb:t6 B):(zn0 A B).length≤A.length+B.length:=by
 have hg:=za8 ha hb
 have:=(y08 hg).length_le_of_subset (l₂:=A.map (·.1)++B.map (·.2+1)) (fun s hs=>by
  obtain ⟨h1,h0⟩:=yh5 hg s hs
  rw [y07 ha hb] at h1 h0
  rw [List.mem_append]
  rw [Bool.and_eq_false_iff] at h0
  rw [Bool.and_eq_true] at h1
  refine h0.imp (fun h=>zq8 h1.1 h) (fun h=>w04 ?_ ?_)
  ·simpa using h1.2
  ·simpa using h)
 simpa using this
theorem zh6 (h:z04 m H):(x7 m H).length≤H.length+1:=by
 have:=ys6 h.one h.good
 grind [x7,List.length_cons,List.length_nil]
theorem y97 (h:t6 L):(r5 L).length≤L.length+1:=by
 by_cases hL:L = []
 ·subst hL;simp [r5]
 ·have ht:=z88 h hL
  have:=ys6 (z20 ht.1 (Int.le_refl _) ht.2:t6 [(0,i8 L)]) h
  grind [r5,List.length_cons,List.length_nil]
end
section
variable {U b x y:Int}
def c7 (U:Int):List Iv→List Int
 | [] => []
 | y :: l=>y.1 :: (if y.2<U then (y.2+1) :: c7 U l else [])
abbrev Ch:=Int × Bool × Bool
def mg:Nat→List Int→List Int→Bool→Bool→List Ch
 | 0,_,_,_,_ => []
 | _+1,[],[],_,_ => []
 | n+1,x :: xs,[],p,q=>(x,!p,q) :: mg n xs [] (!p) q
 | n+1,[],y :: ys,p,q=>(y,p,!q) :: mg n [] ys p (!q)
 | n+1,x :: xs,y :: ys,p,q =>
   if x<y then (x,!p,q) :: mg n xs (y :: ys) (!p) q
   else if y<x then (y,p,!q) :: mg n (x :: xs) ys p (!q)
   else (x,!p,!q) :: mg n xs ys (!p) (!q)
def pc (U:Int) (f:Bool→Bool→Bool):List Ch→Int→Bool→List Iv
 | [],s,t=>if t then [(s,U)] else []
 | x :: r,s,t=>if f x.2.1 x.2.2=t then pc U f r s t else if t then (s,x.1 - 1) :: pc U f r x.1 false else pc U f r x.1 true
def zk2:List Int→Bool→Int→Bool
 | [],p,_=>p
 | e :: r,p,x=>if e≤x then zk2 r (!p) x else p
def zx1 (f:Bool→Bool→Bool):List Ch→Bool→Int→Bool
 | [],t,_=>t
 | c :: r,t,x=>if c.1≤x then zx1 f r (f c.2.1 c.2.2) x else t
theorem y45 (f:Bool→Bool→Bool) (c:Ch) (r:List Ch) (t:Bool) (x:Int):zx1 f (c :: r) t x=if c.1≤x then zx1 f r (f c.2.1 c.2.2) x else t:=rfl
def upE (U:Int):Int→List Int→Prop
 | _,[]=>True
 | b,e :: r=>b<e∧e≤U∧upE U e r
def upC (U:Int):Int→List Ch→Prop
 | _,[]=>True
 | b,c :: r=>b<c.1∧c.1≤U∧upC U c.1 r
theorem zh7 {l:List Int} (p:Bool) (h:upE U b l) (hx:x≤b):zk2 l p x=p:=by
 cases l with
 | nil=>rfl
 | cons e r=>unfold zk2;rw [if_neg (by have:=h.1;omega)]
theorem y98 {f:Bool→Bool→Bool} {l:List Ch} (t:Bool) (h:upC U b l) (hx:x≤b):zx1 f l t x=t:=by
 cases l with
 | nil=>rfl
 | cons e r=>unfold zx1;rw [if_neg (by have:=h.1;omega)]
theorem y09 {U:Int}:∀ {l:List Iv} {b:Int},m5 l→(∀ y ∈ l,y.2≤U)→(∀ y,l.head? = some y→b<y.1)→upE U b (c7 U l)
 | [],_,_,_,_=>trivial
 | y :: l,b,⟨h1,h2,h3⟩,hU,hb=>by
   have hy:=hU y (by simp)
   have hb:=hb y rfl
   refine ⟨hb,by omega,?_⟩
   split
   ·rename_i hlt
    exact ⟨by omega,by omega,y09 h3 (fun z hz=>hU z (by simp [hz])) h2⟩
   ·trivial
theorem yh6 {U:Int}:∀ {l:List Iv},m5 l→(∀ y ∈ l,y.2≤U)→∀ x,x≤U→zk2 (c7 U l) false x=y9 l x
 | [],_,_,_,_=>rfl
 | y :: l,⟨h1,h2,h3⟩,hU,x,hx=>by
   have hy:=hU y (by simp)
   have ih:=yh6 h3 (fun z hz=>hU z (by simp [hz])) x hx
   have hcb:=z97 l _ h3 h2
   rw [yt4]
   unfold c7 zk2
   by_cases c1:y.1≤x
   ·grind [zk2,inI]
   ·rw [if_neg c1,show inI y x=false by unfold inI;simp;omega]
    symm
    rw [Bool.false_or,Bool.eq_false_iff]
    grind [t7]
theorem yh7 (U:Int):∀ l:List Iv,(c7 U l).length≤2*l.length
 | []=>by simp [c7]
 | y :: l=>by
   have:=yh7 U l
   grind [c7]
theorem yh8 {U:Int}:∀ (n:Nat) {xs ys:List Int} {b:Int} (p q:Bool),upE U b xs→upE U b ys→upC U b (mg n xs ys p q)
 | 0,_,_,_,_,_,_,_=>trivial
 | n+1,[],[],_,_,_,_,_=>trivial
 | n+1,x :: xs,[],b,p,q,⟨h1,h2,h3⟩,_=>⟨h1,h2,yh8 n _ _ h3 trivial⟩
 | n+1,[],y :: ys,b,p,q,_,⟨h1,h2,h3⟩=>⟨h1,h2,yh8 n _ _ trivial h3⟩
 | n+1,x :: xs,y :: ys,b,p,q,⟨h1,h2,h3⟩,⟨k1,k2,k3⟩=>by
   unfold mg
   split
   ·rename_i c;exact ⟨h1,h2,yh8 n _ _ h3 ⟨c,k2,k3⟩⟩
   ·split
    ·rename_i c;exact ⟨k1,k2,yh8 n _ _ ⟨c,h2,h3⟩ k3⟩
    ·rename_i c d
     obtain rfl:x=y:=by omega
     exact ⟨h1,h2,yh8 n _ _ h3 k3⟩
theorem y46 {U:Int} (f:Bool→Bool→Bool) (x:Int):∀ (n:Nat) {xs ys:List Int} {b:Int} (p q:Bool),upE U b xs→upE U b ys→xs.length+ys.length≤n →
 zx1 f (mg n xs ys p q) (f p q) x=f (zk2 xs p x) (zk2 ys q x)
 | 0,[],[],_,_,_,_,_,_=>rfl
 | 0,_ :: _,_,_,_,_,_,_,h=>by simp at h
 | 0,[],_ :: _,_,_,_,_,_,h=>by simp at h
 | n+1,[],[],_,_,_,_,_,_=>rfl
 | n+1,u :: xs,[],b,p,q,⟨h1,h2,h3⟩,_,hn=>by
   unfold mg zx1
   show (if u≤x then _ else _)=_
   by_cases c:u≤x
   ·rw [if_pos c,y46 f x n (!p) q h3 (ys := []) trivial (by simp at hn ⊢;omega)]
    grind [zk2]
   grind [zk2]
 | n+1,[],v :: ys,b,p,q,_,⟨k1,k2,k3⟩,hn=>by
   unfold mg zx1
   show (if v≤x then _ else _)=_
   by_cases c:v≤x
   ·rw [if_pos c,y46 f x n p (!q) (xs := []) trivial k3 (by simp at hn ⊢;omega)]
    grind [zk2]
   grind [zk2]
 | n+1,u :: xs,v :: ys,b,p,q,⟨h1,h2,h3⟩,⟨k1,k2,k3⟩,hn=>by
   unfold mg
   split
   ·rename_i c
    unfold zx1
    show (if u≤x then _ else _)=_
    by_cases d:u≤x
    ·rw [if_pos d,y46 f x n (!p) q h3 (ys:=v :: ys) ⟨c,k2,k3⟩ (by simp at hn ⊢;omega)]
     grind [zk2]
    ·rw [if_neg d,zh7 p (b:=x) (l:=u :: xs) ⟨by omega,h2,h3⟩ (Int.le_refl _),zh7 q (b:=x) (l:=v :: ys) ⟨by omega,k2,k3⟩ (Int.le_refl _)]
   ·split
    ·rename_i c
     unfold zx1
     show (if v≤x then _ else _)=_
     by_cases d:v≤x
     ·rw [if_pos d,y46 f x n p (!q) (xs:=u :: xs) ⟨c,h2,h3⟩ k3 (by simp at hn ⊢;omega)]
      grind [zk2]
     ·rw [if_neg d,zh7 p (b:=x) (l:=u :: xs) ⟨by omega,h2,h3⟩ (Int.le_refl _),zh7 q (b:=x) (l:=v :: ys) ⟨by omega,k2,k3⟩ (Int.le_refl _)]
    ·rename_i c d
     obtain rfl:u=v:=by omega
     unfold zx1
     show (if u≤x then _ else _)=_
     by_cases d:u≤x
     ·rw [if_pos d,y46 f x n (!p) (!q) h3 k3 (by simp at hn ⊢;omega)]
      grind [zk2]
     grind [zk2]
theorem yd8 {U:Int} (f:Bool→Bool→Bool):∀ (C:List Ch) (s b:Int) (t:Bool),upC U b C→(t=true→s≤b∧s≤U) →
 m5 (pc U f C s t)∧(∀ y,(pc U f C s t).head? = some y→if t then y.1=s else b<y.1) ∧
 (∀ x,y9 (pc U f C s t) x=(decide (x≤U) && (if t then decide (s≤x) && zx1 f C true x else zx1 f C false x)))
 | [],s,b,t,_,ht=>by
   cases t with
   | false=>exact ⟨trivial,by simp [pc],by simp [pc,y9,zx1]⟩
   | true =>
     have h:=ht rfl
     refine ⟨⟨h.2,by simp,trivial⟩,by simp [pc],fun x => ?_⟩
     simp only [pc,if_pos,y9,List.any_cons,List.any_nil,Bool.or_false,zx1,Bool.and_true]
     unfold inI
     grind
 | c :: r,s,b,t,⟨h1,h2,h3⟩,ht=>by
   unfold pc
   by_cases e:f c.2.1 c.2.2=t
   ·rw [if_pos e]
    obtain ⟨k1,k2,k3⟩:=yd8 f r s c.1 t h3 (fun h=>by have:=ht h;omega)
    grind [Bool.false_eq_true,y45,y98]
   ·rw [if_neg e]
    cases t with
    | true =>
      rw [if_pos rfl]
      have ef:f c.2.1 c.2.2=false:=by cases hf:f c.2.1 c.2.2 with | true=>exact absurd hf e | false=>rfl
      have hs:=ht rfl
      obtain ⟨k1,k2,k3⟩:=yd8 f r c.1 c.1 false h3 (fun h=>by cases h)
      simp only [Bool.false_eq_true,if_false] at k2 k3
      refine ⟨⟨by simp only;omega,fun y hy=>by have:=k2 y hy;simp only;omega,k1⟩,by simp,fun x => ?_⟩
      grind [yt4,y45,inI,y98]
    | false =>
      rw [if_neg (by simp)]
      have ef:f c.2.1 c.2.2=true:=by cases hf:f c.2.1 c.2.2 with | false=>exact absurd hf e | true=>rfl
      obtain ⟨k1,k2,k3⟩:=yd8 f r c.1 c.1 true h3 (fun _=>⟨Int.le_refl _,h2⟩)
      grind [Bool.false_eq_true,y45]
def chL (U:Int) (a b:List Iv):List Ch:=mg ((c7 U a).length+(c7 U b).length) (c7 U a) (c7 U b) false false
theorem ww3 (h0U:0≤U) (f:Bool→Bool→Bool) (hf:f false false=false) {a b:List Iv} (ca:m5 a) (cb:m5 b) (ha:okL U a) (hb:okL U b):pc U f (chL U a b) 0 false=opL U f a b:=by
 have ea:upE U (-1) (c7 U a):=y09 ca (fun y hy=>(ha y hy).2.2) (fun y hy=>by have:=ha y (List.mem_of_mem_head? hy);omega)
 have eb:upE U (-1) (c7 U b):=y09 cb (fun y hy=>(hb y hy).2.2) (fun y hy=>by have:=hb y (List.mem_of_mem_head? hy);omega)
 obtain ⟨k1,k2,k3⟩:=yd8 (U:=U) f (chL U a b) 0 (-1) false (yh8 _ false false ea eb) (fun h=>by cases h)
 refine w35 h0U f hf ha hb k1 fun x => ?_
 rw [k3 x]
 simp only [Bool.false_eq_true,if_false]
 by_cases hx:x≤U
 ·have hv:=y46 f x ((c7 U a).length+(c7 U b).length) false false ea eb (Nat.le_refl _)
  rw [hf] at hv
  rw [show chL U a b=mg ((c7 U a).length+(c7 U b).length) (c7 U a) (c7 U b) false false from rfl,hv,yh6 ca (fun y hy=>(ha y hy).2.2) x hx,yh6 cb (fun y hy=>(hb y hy).2.2) x hx]
  simp [hx]
 grind [xb4]
theorem zt7:∀ (n m:Nat) (xs ys:List Int) (p q:Bool),xs.length+ys.length≤n→xs.length+ys.length≤m→mg n xs ys p q=mg m xs ys p q
 | 0,0,_,_,_,_,_,_=>rfl
 | 0,m+1,[],[],_,_,_,_=>rfl
 | 0,m+1,_ :: _,_,_,_,h,_=>by simp at h
 | 0,m+1,[],_ :: _,_,_,h,_=>by simp at h
 | n+1,0,[],[],_,_,_,_=>rfl
 | n+1,0,_ :: _,_,_,_,_,h=>by simp at h
 | n+1,0,[],_ :: _,_,_,_,h=>by simp at h
 | n+1,m+1,[],[],_,_,_,_=>rfl
 | n+1,m+1,x :: xs,[],p,q,h,k=>by
   show _ :: _=_ :: _
   rw [zt7 n m xs [] (!p) q (by simp at h ⊢;omega) (by simp at k ⊢;omega)]
 | n+1,m+1,[],y :: ys,p,q,h,k=>by
   show _ :: _=_ :: _
   rw [zt7 n m [] ys p (!q) (by simp at h ⊢;omega) (by simp at k ⊢;omega)]
 | n+1,m+1,x :: xs,y :: ys,p,q,h,k=>by
   unfold mg
   rw [zt7 n m xs (y :: ys) (!p) q (by simp at h ⊢;omega) (by simp at k ⊢;omega),zt7 n m (x :: xs) ys p (!q) (by simp at h ⊢;omega) (by simp at k ⊢;omega),zt7 n m xs ys (!p) (!q) (by simp at h ⊢;omega) (by simp at k ⊢;omega)]
def mgL (xs ys:List Int) (p q:Bool):List Ch:=mg (xs.length+ys.length) xs ys p q
theorem wq2 (p q:Bool):mgL [] [] p q = []:=rfl
theorem wd7 (x:Int) (xs:List Int) (p q:Bool):mgL (x :: xs) [] p q=(x,!p,q) :: mgL xs [] (!p) q:=rfl
theorem w05 (y:Int) (ys:List Int) (p q:Bool):mgL [] (y :: ys) p q=(y,p,!q) :: mgL [] ys p (!q):=by
 unfold mgL
 rw [show ([]:List Int).length+(y :: ys).length=ys.length+1 by simp]
 show _ :: _=_
 grind
theorem wy6 (h:x<y) (xs ys:List Int) (p q:Bool):mgL (x :: xs) (y :: ys) p q=(x,!p,q) :: mgL xs (y :: ys) (!p) q:=by
 unfold mgL
 rw [show (x :: xs).length+(y :: ys).length=(xs.length+(y :: ys).length)+1 by simp;omega]
 grind [mg]
theorem wy7 (h:y<x) (xs ys:List Int) (p q:Bool):mgL (x :: xs) (y :: ys) p q=(y,p,!q) :: mgL (x :: xs) ys p (!q):=by
 unfold mgL
 rw [show (x :: xs).length+(y :: ys).length=((x :: xs).length+ys.length)+1 by simp;omega]
 grind [mg]
theorem wy8 (x:Int) (xs ys:List Int) (p q:Bool):mgL (x :: xs) (x :: ys) p q=(x,!p,!q) :: mgL xs ys (!p) (!q):=by
 unfold mgL
 rw [show (x :: xs).length+(x :: ys).length=(xs.length+ys.length+1)+1 by simp;omega]
 grind [mg,zt7]
structure StP (U:Int) (f:Bool→Bool→Bool) (C:List Ch) (L pre:List Iv) (s:Int) (t:Bool) (front:List Ch):Prop where
 list:∀ rest,front++rest=C→pre++pc U f rest s t=L
 up:∀ rest,front++rest=C→upC U (if t then s else -1) rest
 nn:t=true→0≤s
section
variable {U:Int} {f:Bool→Bool→Bool} {C front:List Ch} {L pre:List Iv} {s:Int} {t:Bool} {x:Ch}
theorem StP.rest (hx:front ++ [x] <+: C):∃ r,front++x :: r=C:=by
 obtain ⟨r,hr⟩:=hx
 exact ⟨r,by rw [← hr];simp⟩
theorem StP.start (hu:upC U (-1) C) (hl:pc U f C 0 false=L):StP U f C L [] 0 false []:=
 ⟨fun rest h=>by rw [List.nil_append] at h ⊢;rw [h];exact hl,fun rest h=>by rw [List.nil_append] at h;rw [h];exact hu,fun h=>by cases h⟩
theorem xr7 {b b':Int} (h:b'≤b):∀ {l:List Ch},upC U b l→upC U b' l
 | [],_=>trivial
 | _ :: _,⟨h1,h2,h3⟩=>⟨by omega,h2,h3⟩
theorem StP.range (h:StP U f C L pre s t front) (hx:front ++ [x] <+: C):0≤x.1∧x.1≤U∧(t=true→0≤s∧s<x.1):=by
 obtain ⟨r,hr⟩:=StP.rest hx
 obtain ⟨h1,h2,_⟩:=h.up _ hr
 cases t with
 | true=>have:=h.nn rfl;simp only [if_true] at h1;exact ⟨by omega,h2,fun _=>⟨this,h1⟩⟩
 | false=>simp only [Bool.false_eq_true,if_false] at h1;exact ⟨by omega,h2,fun h=>by cases h⟩
theorem StP.same (h:StP U f C L pre s t front) (hx:front ++ [x] <+: C) (hf:f x.2.1 x.2.2=t):StP U f C L pre s t (front ++ [x]):=by
 have _:=hx
 refine ⟨fun rest hr => ?_,fun rest hr => ?_,h.nn⟩
 ·have:=h.list (x :: rest) (by rw [← hr];simp)
  unfold pc at this
  rwa [if_pos hf] at this
 ·obtain ⟨h1,h2,h3⟩:=h.up (x :: rest) (by rw [← hr];simp)
  exact xr7 (by omega) h3
theorem StP.stop (h:StP U f C L pre s true front) (hx:front ++ [x] <+: C) (hf:f x.2.1 x.2.2=false):StP U f C L (pre ++ [(s,x.1 - 1)]) x.1 false (front ++ [x])∧pre ++ [(s,x.1 - 1)] <+: L:=by
 have key:∀ rest,front++x :: rest=C→(pre ++ [(s,x.1 - 1)])++pc U f rest x.1 false=L:=by
  intro rest hr
  have:=h.list (x :: rest) hr
  unfold pc at this
  rw [if_neg (by rw [hf];simp),if_pos rfl] at this
  rw [← this];simp
 refine ⟨⟨fun rest hr=>key rest (by rw [← hr];simp),fun rest hr => ?_,fun h=>by cases h⟩,?_⟩
 ·obtain ⟨h1,h2,h3⟩:=h.up (x :: rest) (by rw [← hr];simp)
  have:=(h.range hx).1
  exact xr7 (by simp;omega) h3
 ·obtain ⟨r,hr⟩:=StP.rest hx
  exact ⟨_,key r hr⟩
theorem StP.go (h:StP U f C L pre s false front) (hx:front ++ [x] <+: C) (hf:f x.2.1 x.2.2=true):StP U f C L pre x.1 true (front ++ [x]):=by
 refine ⟨fun rest hr => ?_,fun rest hr => ?_,fun _=>(h.range hx).1⟩
 ·have:=h.list (x :: rest) (by rw [← hr];simp)
  unfold pc at this
  rwa [if_neg (by rw [hf];simp),if_neg (by simp)] at this
 ·obtain ⟨h1,h2,h3⟩:=h.up (x :: rest) (by rw [← hr];simp)
  exact h3
theorem StP.done (h:StP U f C L pre s false C):pre=L:=by
 have:=h.list [] (by simp)
 simpa [pc] using this
theorem StP.last (h:StP U f C L pre s true C):pre ++ [(s,U)]=L:=by
 have:=h.list [] (by simp)
 simpa [pc] using this
end
theorem wd8 {U:Int} {a b:List Iv} (ca:m5 a) (cb:m5 b) (ha:okL U a) (hb:okL U b):upC U (-1) (chL U a b):=
 yh8 _ false false (y09 ca (fun y hy=>(ha y hy).2.2) (fun y hy=>by have:=ha y (List.mem_of_mem_head? hy);omega)) (y09 cb (fun y hy=>(hb y hy).2.2) (fun y hy=>by have:=hb y (List.mem_of_mem_head? hy);omega))
end
end Go.Proofs.YtchndljcahjldaaGreatDoor
