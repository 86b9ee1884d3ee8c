/- The laws of sets for the reference's operations: plain mathematics. -/
import Derived.Test.YtgcakgegboicjaaGreatDoorKRIv
namespace Go.Proofs.YtgcakgegboicjaaGreatDoor
section
def UM:Int:=18446744073709551615
def fOr (p q:Bool):Bool:=p || q
def fAnd (p q:Bool):Bool:=p && q
def fSub (p q:Bool):Bool:=p && !q
theorem UM_pos:0≤UM:=by decide
theorem fOr_ff:fOr false false=false:=rfl
theorem fAnd_ff:fAnd false false=false:=rfl
theorem fSub_ff:fSub false false=false:=rfl
def orL (a b:List Iv):List Iv:=opL UM fOr a b
def andL (a b:List Iv):List Iv:=opL UM fAnd a b
def subL (a b:List Iv):List Iv:=opL UM fSub a b
structure GoodL (l:List Iv):Prop where
 can:canon l
 ok:okL UM l
theorem good_nil:GoodL []:=⟨trivial,fun y hy=>by cases hy⟩
theorem good_of {l:List Iv} (h:canon l) (h64:All64 l):GoodL l:=⟨h,canon_okL h fun y hy=>⟨(h64 y hy).1.1,(h64 y hy).2.2⟩⟩
theorem GoodL.all {l:List Iv} (h:GoodL l):All64 l:=fun x hx=>by
 have:=h.ok x hx
 unfold UM at this
 exact ⟨by omega,by omega⟩
theorem good_one {x y:Int} (h:x≤y) (hx:0≤x) (hy:y≤18446744073709551615):GoodL [(x,y)]:=good_of ⟨h,by simp,trivial⟩ fun z hz=>by rw [List.mem_singleton.1 hz];exact ⟨⟨hx,by simp only;omega⟩,by simp only;omega,hy⟩
theorem orL_good {a b:List Iv} (ha:GoodL a) (hb:GoodL b):GoodL (orL a b):=⟨op_canon UM_pos _ fOr_ff ha.ok hb.ok,op_ok UM_pos _ ha.ok hb.ok⟩
theorem andL_good {a b:List Iv} (ha:GoodL a) (hb:GoodL b):GoodL (andL a b):=⟨op_canon UM_pos _ fAnd_ff ha.ok hb.ok,op_ok UM_pos _ ha.ok hb.ok⟩
theorem subL_good {a b:List Iv} (ha:GoodL a) (hb:GoodL b):GoodL (subL a b):=⟨op_canon UM_pos _ fSub_ff ha.ok hb.ok,op_ok UM_pos _ ha.ok hb.ok⟩
theorem or_has {a b:List Iv} (ha:GoodL a) (hb:GoodL b) (x:Int):hasL (orL a b) x=(hasL a x || hasL b x):=op_has UM_pos _ fOr_ff ha.ok hb.ok x
theorem and_has {a b:List Iv} (ha:GoodL a) (hb:GoodL b) (x:Int):hasL (andL a b) x=(hasL a x && hasL b x):=op_has UM_pos _ fAnd_ff ha.ok hb.ok x
theorem sub_has {a b:List Iv} (ha:GoodL a) (hb:GoodL b) (x:Int):hasL (subL a b) x=(hasL a x && !hasL b x):=op_has UM_pos _ fSub_ff ha.ok hb.ok x
theorem good_eq {a b:List Iv} (ha:GoodL a) (hb:GoodL b) (h:∀ x,hasL a x=hasL b x):a=b:=canon_unique _ _ ha.can hb.can h
theorem op_len (f:Bool→Bool→Bool) (a b:List Iv):(opL UM f a b).length≤(startsL UM (a++b)).length:=goP_len _ _ _
theorem not_not' {a w:List Iv} (ha:GoodL a) (hw:GoodL w):subL w (subL w a)=andL a w:=
 good_eq (subL_good hw (subL_good hw ha)) (andL_good ha hw) fun x=>by
  rw [sub_has hw (subL_good hw ha),and_has ha hw,sub_has hw ha]
  cases hasL a x <;> cases hasL w x <;> rfl
end
section
structure GoodE (m:Int) (H:List Iv):Prop where
 good:GoodL H
 low:0≤m
 top:m≤UM
 hole:∀ y ∈ H,y.2≤m
def knownL (m:Int) (H:List Iv):List Iv:=subL [(0,m)] H
def hasE (m:Int) (H:List Iv) (c:Int):Bool:=decide (c≤m) && !hasL H c
def topL (L:List Iv):Int:=match L.getLast? with | some y=>y.2 | none=>0
def holesL (L:List Iv):List Iv:=if L = [] then [] else subL [(0,topL L)] L
def canonB (m:Int) (H:List Iv):Bool := !hasL H m
theorem one_has {m c:Int} (hc:0≤c):hasL [(0,m)] c=decide (c≤m):=by
 unfold hasL inI
 simp [hc]
theorem GoodE.one {m:Int} {H:List Iv} (h:GoodE m H):GoodL [(0,m)]:=good_one h.low (Int.le_refl _) h.top
theorem known_good {m:Int} {H:List Iv} (h:GoodE m H):GoodL (knownL m H):=subL_good h.one h.good
theorem known_has {m:Int} {H:List Iv} (h:GoodE m H) {c:Int} (hc:0≤c):hasL (knownL m H) c=hasE m H c:=by
 unfold knownL hasE
 rw [sub_has h.one h.good,one_has hc]
theorem top_spec:∀ {L:List Iv},canon L→L ≠ []→(∀ y ∈ L,y.2≤topL L)∧hasL L (topL L)=true
 | [],_,h=>absurd rfl h
 | [y],hc,_=>by
   refine ⟨fun z hz=>by rw [List.mem_singleton.1 hz];exact Int.le_refl _,?_⟩
   exact (hasL_iff _ _).2 ⟨y,by simp,hc.1,Int.le_refl _⟩
 | y :: z :: r,hc,_=>by
   have ih:=top_spec (L:=z :: r) hc.2.2 (by simp)
   have e:topL (y :: z :: r)=topL (z :: r):=by unfold topL;rw [List.getLast?_cons_cons]
   rw [e]
   refine ⟨fun u hu => ?_,?_⟩
   ·rcases List.mem_cons.1 hu with rfl | hu
    ·have h1:=hc.2.1 z rfl
     have h2:=ih.1 z (by simp)
     have h3:=hc.2.2.1
     omega
    ·exact ih.1 u hu
   ·obtain ⟨u,hu,h1⟩:=(hasL_iff _ _).1 ih.2
    exact (hasL_iff _ _).2 ⟨u,by simp at hu ⊢;exact .inr hu,h1⟩
theorem top_range {L:List Iv} (h:GoodL L) (hne:L ≠ []):0≤topL L∧topL L≤UM:=by
 obtain ⟨y,hy,h1,h2⟩:=(hasL_iff _ _).1 (top_spec h.can hne).2
 have:=h.ok y hy
 omega
theorem of_good {L:List Iv} (h:GoodL L) (hne:L ≠ []):GoodE (topL L) (holesL L):=by
 have ht:=top_range h hne
 have ho:GoodL [(0,topL L)]:=good_one ht.1 (Int.le_refl _) ht.2
 unfold holesL
 rw [if_neg hne]
 refine ⟨subL_good ho h,ht.1,ht.2,fun y hy => ?_⟩
 have hg:=subL_good ho h
 have h1:=hg.ok y hy
 have h2:hasL (subL [(0,topL L)] L) y.2=true:=(hasL_iff _ _).2 ⟨y,hy,h1.2.1,Int.le_refl _⟩
 rw [sub_has ho h,one_has (by omega)] at h2
 simp at h2
 exact h2.1
theorem of_canon {L:List Iv} (h:GoodL L) (hne:L ≠ []):canonB (topL L) (holesL L)=true:=by
 have ht:=top_range h hne
 have ho:GoodL [(0,topL L)]:=good_one ht.1 (Int.le_refl _) ht.2
 unfold canonB holesL
 rw [if_neg hne,sub_has ho h,(top_spec h.can hne).2]
 simp
theorem of_known {L:List Iv} (h:GoodL L) (hne:L ≠ []):knownL (topL L) (holesL L)=L:=by
 have ht:=top_range h hne
 have ho:GoodL [(0,topL L)]:=good_one ht.1 (Int.le_refl _) ht.2
 unfold knownL holesL
 rw [if_neg hne,not_not' h ho]
 refine good_eq (andL_good h ho) h fun x => ?_
 rw [and_has h ho]
 cases hx:hasL L x with
 | false=>rfl
 | true =>
   obtain ⟨y,hy,h1,h2⟩:=(hasL_iff _ _).1 hx
   have h3:=(top_spec h.can hne).1 y hy
   have h4:=h.ok y hy
   rw [one_has (by omega)]
   simp;omega
theorem canon_of {m:Int} {H:List Iv} (h:GoodE m H) (hc:canonB m H=true):knownL m H ≠ []∧topL (knownL m H)=m∧holesL (knownL m H)=H:=by
 have hm:hasL (knownL m H) m=true:=by rw [known_has h h.low];unfold hasE;unfold canonB at hc;rw [hc];simp
 have hne:knownL m H ≠ []:=fun e=>by rw [e] at hm;cases hm
 have hk:=known_good h
 have ht:=top_spec hk.can hne
 have htr:=top_range hk hne
 have e1:topL (knownL m H)=m:=by
  obtain ⟨y,hy,h1,h2⟩:=(hasL_iff _ _).1 hm
  have h3:=ht.1 y hy
  have h4:=ht.2
  rw [known_has h htr.1] at h4
  unfold hasE at h4
  simp at h4
  omega
 refine ⟨hne,e1,?_⟩
 unfold holesL
 rw [if_neg hne,e1]
 unfold knownL
 rw [not_not' h.good h.one]
 refine good_eq (andL_good h.good h.one) h.good fun x => ?_
 rw [and_has h.good h.one]
 cases hx:hasL H x with
 | false=>rfl
 | true =>
   obtain ⟨y,hy,h1,h2⟩:=(hasL_iff _ _).1 hx
   have h3:=h.hole y hy
   have h4:=h.good.ok y hy
   rw [one_has (by omega)]
   simp;omega
end
section
theorem good_neg {L:List Iv} (h:GoodL L) {x:Int} (hx:x<0):hasL L x=false:=by
 rw [Bool.eq_false_iff]
 intro hh
 obtain ⟨y,hy,h1,h2⟩:=(hasL_iff _ _).1 hh
 have:=h.ok y hy
 omega
theorem good_ext {A B:List Iv} (ha:GoodL A) (hb:GoodL B) (h:∀ x:Int,0≤x→hasL A x=hasL B x):A=B:=good_eq ha hb fun x=>by
 by_cases hx:0≤x
 ·exact h x hx
 ·rw [good_neg ha (by omega),good_neg hb (by omega)]
theorem good_start {R:List Iv} (h:GoodL R):∀ s ∈ R.map (·.1),hasL R s=true∧hasL R (s - 1)=false:=by
 intro s hs
 obtain ⟨y,hy,rfl⟩:=List.mem_map.1 hs
 have hok:=h.ok y hy
 refine ⟨(hasL_iff _ _).2 ⟨y,hy,Int.le_refl _,hok.2.1⟩,?_⟩
 rw [Bool.eq_false_iff]
 intro hh
 obtain ⟨z,hz,h1,h2⟩:=(hasL_iff _ _).1 hh
 obtain ⟨i,hi⟩:=List.mem_iff_getElem?.1 hy
 obtain ⟨j,hj⟩:=List.mem_iff_getElem?.1 hz
 rcases Nat.lt_trichotomy i j with hij | hij | hij
 ·have:=canon_up R h.can i j y z hij hi hj;omega
 ·subst hij
  obtain rfl:=Option.some.inj (hi.symm.trans hj)
  omega
 ·have:=canon_up R h.can j i z y hij hj hi;omega
theorem starts_nodup {R:List Iv} (h:GoodL R):(R.map (·.1)).Nodup:=by
 rw [List.nodup_iff_pairwise_ne,List.pairwise_map,List.pairwise_iff_getElem]
 intro i j hi hj hij
 have h1:R[i]? = some R[i]:=by simp [hi]
 have h2:R[j]? = some R[j]:=by simp [hj]
 have h3:=canon_up R h.can i j _ _ hij h1 h2
 have h4:=h.ok R[i] (List.getElem_mem hi)
 intro e
 have e':R[i].1=R[j].1:=e
 omega
theorem enter_start {A:List Iv} {s:Int} (h1:hasL A s=true) (h0:hasL A (s - 1)=false):s ∈ A.map (·.1):=by
 obtain ⟨y,hy,a,b⟩:=(hasL_iff _ _).1 h1
 refine List.mem_map.2 ⟨y,hy,?_⟩
 apply Classical.byContradiction
 intro hne
 have:hasL A (s - 1)=true:=(hasL_iff _ _).2 ⟨y,hy,by have:y.1≠s:=hne;omega,by omega⟩
 rw [h0] at this
 cases this
theorem leave_end {B:List Iv} {s:Int} (h1:hasL B s=false) (h0:hasL B (s - 1)=true):s ∈ B.map (·.2+1):=by
 obtain ⟨y,hy,a,b⟩:=(hasL_iff _ _).1 h0
 refine List.mem_map.2 ⟨y,hy,?_⟩
 apply Classical.byContradiction
 intro hne
 have:hasL B s=true:=(hasL_iff _ _).2 ⟨y,hy,by omega,by have:y.2+1≠s:=hne;omega⟩
 rw [h1] at this
 cases this
theorem or_count {A B:List Iv} (ha:GoodL A) (hb:GoodL B):(orL A B).length≤A.length+B.length:=by
 have hg:=orL_good ha hb
 have:=(starts_nodup hg).length_le_of_subset (l₂:=A.map (·.1)++B.map (·.1)) (fun s hs=>by
  obtain ⟨h1,h0⟩:=good_start hg s hs
  rw [or_has ha hb] at h1 h0
  rw [List.mem_append]
  rw [Bool.or_eq_false_iff] at h0
  rw [Bool.or_eq_true] at h1
  exact h1.imp (fun h=>enter_start h h0.1) (fun h=>enter_start h h0.2))
 simpa using this
theorem sub_count {A B:List Iv} (ha:GoodL A) (hb:GoodL B):(subL A B).length≤A.length+B.length:=by
 have hg:=subL_good ha hb
 have:=(starts_nodup hg).length_le_of_subset (l₂:=A.map (·.1)++B.map (·.2+1)) (fun s hs=>by
  obtain ⟨h1,h0⟩:=good_start hg s hs
  rw [sub_has ha hb] at h1 h0
  rw [List.mem_append]
  rw [Bool.and_eq_false_iff] at h0
  rw [Bool.and_eq_true] at h1
  refine h0.imp (fun h=>enter_start h1.1 h) (fun h=>leave_end ?_ ?_)
  ·simpa using h1.2
  ·simpa using h)
 simpa using this
theorem known_count {m:Int} {H:List Iv} (h:GoodE m H):(knownL m H).length≤H.length+1:=by
 have:=sub_count h.one h.good
 unfold knownL
 simp only [List.length_cons,List.length_nil] at this
 omega
theorem holes_count {L:List Iv} (h:GoodL L):(holesL L).length≤L.length+1:=by
 by_cases hL:L = []
 ·subst hL;simp [holesL]
 ·have ht:=top_range h hL
  have:=sub_count (good_one ht.1 (Int.le_refl _) ht.2:GoodL [(0,topL L)]) h
  unfold holesL
  rw [if_neg hL]
  simp only [List.length_cons,List.length_nil] at this
  omega
end
section
def edgeL (U:Int):List Iv→List Int
 | [] => []
 | y :: l=>y.1 :: (if y.2<U then (y.2+1) :: edgeL U l else [])
abbrev Ch:=Int × Bool × Bool
def mg:Nat→List Int→List Int→Bool→Bool→List Ch
 | 0,_,_,_,_ => []
 | _+1,[],[],_,_ => []
 | n+1,x :: xs,[],p,q=>(x,!p,q) :: mg n xs [] (!p) q
 | n+1,[],y :: ys,p,q=>(y,p,!q) :: mg n [] ys p (!q)
 | n+1,x :: xs,y :: ys,p,q =>
   if x<y then (x,!p,q) :: mg n xs (y :: ys) (!p) q
   else if y<x then (y,p,!q) :: mg n (x :: xs) ys p (!q)
   else (x,!p,!q) :: mg n xs ys (!p) (!q)
def pc (U:Int) (f:Bool→Bool→Bool):List Ch→Int→Bool→List Iv
 | [],s,t=>if t then [(s,U)] else []
 | x :: r,s,t=>if f x.2.1 x.2.2=t then pc U f r s t else if t then (s,x.1 - 1) :: pc U f r x.1 false else pc U f r x.1 true
def memE:List Int→Bool→Int→Bool
 | [],p,_=>p
 | e :: r,p,x=>if e≤x then memE r (!p) x else p
def valC (f:Bool→Bool→Bool):List Ch→Bool→Int→Bool
 | [],t,_=>t
 | c :: r,t,x=>if c.1≤x then valC f r (f c.2.1 c.2.2) x else t
theorem valC_cons (f:Bool→Bool→Bool) (c:Ch) (r:List Ch) (t:Bool) (x:Int):valC f (c :: r) t x=if c.1≤x then valC f r (f c.2.1 c.2.2) x else t:=rfl
def upE (U:Int):Int→List Int→Prop
 | _,[]=>True
 | b,e :: r=>b<e∧e≤U∧upE U e r
def upC (U:Int):Int→List Ch→Prop
 | _,[]=>True
 | b,c :: r=>b<c.1∧c.1≤U∧upC U c.1 r
theorem memE_before {U:Int} {l:List Int} {b x:Int} (p:Bool) (h:upE U b l) (hx:x≤b):memE l p x=p:=by
 cases l with
 | nil=>rfl
 | cons e r=>unfold memE;rw [if_neg (by have:=h.1;omega)]
theorem valC_before {U:Int} {f:Bool→Bool→Bool} {l:List Ch} {b x:Int} (t:Bool) (h:upC U b l) (hx:x≤b):valC f l t x=t:=by
 cases l with
 | nil=>rfl
 | cons e r=>unfold valC;rw [if_neg (by have:=h.1;omega)]
theorem edge_up {U:Int}:∀ {l:List Iv} {b:Int},canon l→(∀ y ∈ l,y.2≤U)→(∀ y,l.head? = some y→b<y.1)→upE U b (edgeL U l)
 | [],_,_,_,_=>trivial
 | y :: l,b,⟨h1,h2,h3⟩,hU,hb=>by
   have hy:=hU y (by simp)
   have hb:=hb y rfl
   refine ⟨hb,by omega,?_⟩
   split
   ·rename_i hlt
    exact ⟨by omega,by omega,edge_up h3 (fun z hz=>hU z (by simp [hz])) h2⟩
   ·trivial
theorem edge_mem {U:Int}:∀ {l:List Iv},canon l→(∀ y ∈ l,y.2≤U)→∀ x,x≤U→memE (edgeL U l) false x=hasL l x
 | [],_,_,_,_=>rfl
 | y :: l,⟨h1,h2,h3⟩,hU,x,hx=>by
   have hy:=hU y (by simp)
   have ih:=edge_mem h3 (fun z hz=>hU z (by simp [hz])) x hx
   have hcb:=canon_behind l _ h3 h2
   rw [hasL_cons]
   unfold edgeL memE
   by_cases c1:y.1≤x
   ·rw [if_pos c1]
    by_cases c2:y.2<U
    ·rw [if_pos c2]
     unfold memE
     by_cases c3:y.2+1≤x
     ·rw [if_pos c3,show inI y x=false by unfold inI;simp;omega]
      simpa using ih
     ·rw [if_neg c3,show inI y x=true by unfold inI;simp;omega]
      rfl
    ·rw [if_neg c2,show inI y x=true by unfold inI;simp;omega]
     rfl
   ·rw [if_neg c1,show inI y x=false by unfold inI;simp;omega]
    symm
    rw [Bool.false_or,Bool.eq_false_iff]
    intro hh
    obtain ⟨z,hz,h4,h5⟩:=(hasL_iff _ _).1 hh
    have:=hcb z hz
    omega
theorem edge_len (U:Int):∀ l:List Iv,(edgeL U l).length≤2*l.length
 | []=>by simp [edgeL]
 | y :: l=>by
   have:=edge_len U l
   unfold edgeL
   split <;> simp <;> omega
theorem mg_up {U:Int}:∀ (n:Nat) {xs ys:List Int} {b:Int} (p q:Bool),upE U b xs→upE U b ys→upC U b (mg n xs ys p q)
 | 0,_,_,_,_,_,_,_=>trivial
 | n+1,[],[],_,_,_,_,_=>trivial
 | n+1,x :: xs,[],b,p,q,⟨h1,h2,h3⟩,_=>⟨h1,h2,mg_up n _ _ h3 trivial⟩
 | n+1,[],y :: ys,b,p,q,_,⟨h1,h2,h3⟩=>⟨h1,h2,mg_up n _ _ trivial h3⟩
 | n+1,x :: xs,y :: ys,b,p,q,⟨h1,h2,h3⟩,⟨k1,k2,k3⟩=>by
   unfold mg
   split
   ·rename_i c;exact ⟨h1,h2,mg_up n _ _ h3 ⟨c,k2,k3⟩⟩
   ·split
    ·rename_i c;exact ⟨k1,k2,mg_up n _ _ ⟨c,h2,h3⟩ k3⟩
    ·rename_i c d
     obtain rfl:x=y:=by omega
     exact ⟨h1,h2,mg_up n _ _ h3 k3⟩
theorem mg_val {U:Int} (f:Bool→Bool→Bool) (x:Int):∀ (n:Nat) {xs ys:List Int} {b:Int} (p q:Bool),upE U b xs→upE U b ys→xs.length+ys.length≤n →
 valC f (mg n xs ys p q) (f p q) x=f (memE xs p x) (memE ys q x)
 | 0,[],[],_,_,_,_,_,_=>rfl
 | 0,_ :: _,_,_,_,_,_,_,h=>by simp at h
 | 0,[],_ :: _,_,_,_,_,_,h=>by simp at h
 | n+1,[],[],_,_,_,_,_,_=>rfl
 | n+1,u :: xs,[],b,p,q,⟨h1,h2,h3⟩,_,hn=>by
   unfold mg valC
   show (if u≤x then _ else _)=_
   by_cases c:u≤x
   ·rw [if_pos c,mg_val f x n (!p) q h3 (ys := []) trivial (by simp at hn ⊢;omega)]
    simp only [memE];rw [if_pos c]
   ·rw [if_neg c];simp only [memE];rw [if_neg c]
 | n+1,[],v :: ys,b,p,q,_,⟨k1,k2,k3⟩,hn=>by
   unfold mg valC
   show (if v≤x then _ else _)=_
   by_cases c:v≤x
   ·rw [if_pos c,mg_val f x n p (!q) (xs := []) trivial k3 (by simp at hn ⊢;omega)]
    simp only [memE];rw [if_pos c]
   ·rw [if_neg c];simp only [memE];rw [if_neg c]
 | n+1,u :: xs,v :: ys,b,p,q,⟨h1,h2,h3⟩,⟨k1,k2,k3⟩,hn=>by
   unfold mg
   split
   ·rename_i c
    unfold valC
    show (if u≤x then _ else _)=_
    by_cases d:u≤x
    ·rw [if_pos d,mg_val f x n (!p) q h3 (ys:=v :: ys) ⟨c,k2,k3⟩ (by simp at hn ⊢;omega)]
     rw [show memE (u :: xs) p x=memE xs (!p) x from by simp only [memE];rw [if_pos d]]
    ·rw [if_neg d,memE_before p (b:=x) (l:=u :: xs) ⟨by omega,h2,h3⟩ (Int.le_refl _),memE_before q (b:=x) (l:=v :: ys) ⟨by omega,k2,k3⟩ (Int.le_refl _)]
   ·split
    ·rename_i c
     unfold valC
     show (if v≤x then _ else _)=_
     by_cases d:v≤x
     ·rw [if_pos d,mg_val f x n p (!q) (xs:=u :: xs) ⟨c,h2,h3⟩ k3 (by simp at hn ⊢;omega)]
      rw [show memE (v :: ys) q x=memE ys (!q) x from by simp only [memE];rw [if_pos d]]
     ·rw [if_neg d,memE_before p (b:=x) (l:=u :: xs) ⟨by omega,h2,h3⟩ (Int.le_refl _),memE_before q (b:=x) (l:=v :: ys) ⟨by omega,k2,k3⟩ (Int.le_refl _)]
    ·rename_i c d
     obtain rfl:u=v:=by omega
     unfold valC
     show (if u≤x then _ else _)=_
     by_cases d:u≤x
     ·rw [if_pos d,mg_val f x n (!p) (!q) h3 k3 (by simp at hn ⊢;omega)]
      simp only [memE];rw [if_pos d,if_pos d]
     ·rw [if_neg d];simp only [memE];rw [if_neg d,if_neg d]
theorem pc_spec {U:Int} (f:Bool→Bool→Bool):∀ (C:List Ch) (s b:Int) (t:Bool),upC U b C→(t=true→s≤b∧s≤U) →
 canon (pc U f C s t)∧(∀ y,(pc U f C s t).head? = some y→if t then y.1=s else b<y.1) ∧
 (∀ x,hasL (pc U f C s t) x=(decide (x≤U) && (if t then decide (s≤x) && valC f C true x else valC f C false x)))
 | [],s,b,t,_,ht=>by
   cases t with
   | false=>exact ⟨trivial,by simp [pc],by simp [pc,hasL,valC]⟩
   | true =>
     have h:=ht rfl
     refine ⟨⟨h.2,by simp,trivial⟩,by simp [pc],fun x => ?_⟩
     simp only [pc,if_pos,hasL,List.any_cons,List.any_nil,Bool.or_false,valC,Bool.and_true]
     unfold inI
     rw [Bool.and_comm]
 | c :: r,s,b,t,⟨h1,h2,h3⟩,ht=>by
   unfold pc
   by_cases e:f c.2.1 c.2.2=t
   ·rw [if_pos e]
    obtain ⟨k1,k2,k3⟩:=pc_spec f r s c.1 t h3 (fun h=>by have:=ht h;omega)
    refine ⟨k1,?_,fun x => ?_⟩
    ·intro y hy
     have:=k2 y hy
     cases t with
     | true=>exact this
     | false=>simp only [Bool.false_eq_true,if_false] at this ⊢;omega
    ·rw [k3 x]
     rw [valC_cons,valC_cons]
     rw [e]
     by_cases d:c.1≤x
     ·rw [if_pos d,if_pos d]
      cases t <;> rfl
     ·rw [if_neg d,if_neg d]
      rw [valC_before true h3 (by omega),valC_before false h3 (by omega)]
   ·rw [if_neg e]
    cases t with
    | true =>
      rw [if_pos rfl]
      have ef:f c.2.1 c.2.2=false:=by cases hf:f c.2.1 c.2.2 with | true=>exact absurd hf e | false=>rfl
      have hs:=ht rfl
      obtain ⟨k1,k2,k3⟩:=pc_spec f r c.1 c.1 false h3 (fun h=>by cases h)
      simp only [Bool.false_eq_true,if_false] at k2 k3
      refine ⟨⟨by simp only;omega,fun y hy=>by have:=k2 y hy;simp only;omega,k1⟩,by simp,fun x => ?_⟩
      rw [hasL_cons,k3 x]
      rw [valC_cons,valC_cons]
      rw [ef]
      simp only [if_true]
      by_cases d:c.1≤x
      ·rw [if_pos d,show inI (s,c.1 - 1) x=false by unfold inI;simp;omega,show decide (s≤x)=true by simp;omega];simp
      ·rw [if_neg d,valC_before false h3 (by omega)]
       unfold inI
       rw [show decide (x≤c.1 - 1)=true by simp;omega,show decide (x≤U)=true by simp;omega];simp
    | false =>
      rw [if_neg (by simp)]
      have ef:f c.2.1 c.2.2=true:=by cases hf:f c.2.1 c.2.2 with | false=>exact absurd hf e | true=>rfl
      obtain ⟨k1,k2,k3⟩:=pc_spec f r c.1 c.1 true h3 (fun _=>⟨Int.le_refl _,h2⟩)
      simp only [if_true] at k2 k3
      refine ⟨k1,fun y hy => ?_,fun x => ?_⟩
      ·have:=k2 y hy;simp only [Bool.false_eq_true,if_false];omega
      ·rw [k3 x]
       rw [valC_cons,valC_cons]
       rw [ef]
       simp only [Bool.false_eq_true,if_false]
       by_cases d:c.1≤x
       ·rw [if_pos d,show decide (c.1≤x)=true by simpa using d];simp
       ·rw [if_neg d,show decide (c.1≤x)=false by simpa using d];simp
def chL (U:Int) (a b:List Iv):List Ch:=mg ((edgeL U a).length+(edgeL U b).length) (edgeL U a) (edgeL U b) false false
theorem pc_op {U:Int} (h0U:0≤U) (f:Bool→Bool→Bool) (hf:f false false=false) {a b:List Iv} (ca:canon a) (cb:canon b) (ha:okL U a) (hb:okL U b):pc U f (chL U a b) 0 false=opL U f a b:=by
 have ea:upE U (-1) (edgeL U a):=edge_up ca (fun y hy=>(ha y hy).2.2) (fun y hy=>by have:=ha y (List.mem_of_mem_head? hy);omega)
 have eb:upE U (-1) (edgeL U b):=edge_up cb (fun y hy=>(hb y hy).2.2) (fun y hy=>by have:=hb y (List.mem_of_mem_head? hy);omega)
 obtain ⟨k1,k2,k3⟩:=pc_spec (U:=U) f (chL U a b) 0 (-1) false (mg_up _ false false ea eb) (fun h=>by cases h)
 refine op_unique h0U f hf ha hb k1 fun x => ?_
 rw [k3 x]
 simp only [Bool.false_eq_true,if_false]
 by_cases hx:x≤U
 ·have hv:=mg_val f x ((edgeL U a).length+(edgeL U b).length) false false ea eb (Nat.le_refl _)
  rw [hf] at hv
  rw [show chL U a b=mg ((edgeL U a).length+(edgeL U b).length) (edgeL U a) (edgeL U b) false false from rfl,hv,edge_mem ca (fun y hy=>(ha y hy).2.2) x hx,edge_mem cb (fun y hy=>(hb y hy).2.2) x hx]
  simp [hx]
 ·rw [has_high ha (by omega),has_high hb (by omega),hf];simp [hx]
theorem mg_fuel:∀ (n m:Nat) (xs ys:List Int) (p q:Bool),xs.length+ys.length≤n→xs.length+ys.length≤m→mg n xs ys p q=mg m xs ys p q
 | 0,0,_,_,_,_,_,_=>rfl
 | 0,m+1,[],[],_,_,_,_=>rfl
 | 0,m+1,_ :: _,_,_,_,h,_=>by simp at h
 | 0,m+1,[],_ :: _,_,_,h,_=>by simp at h
 | n+1,0,[],[],_,_,_,_=>rfl
 | n+1,0,_ :: _,_,_,_,_,h=>by simp at h
 | n+1,0,[],_ :: _,_,_,_,h=>by simp at h
 | n+1,m+1,[],[],_,_,_,_=>rfl
 | n+1,m+1,x :: xs,[],p,q,h,k=>by
   show _ :: _=_ :: _
   rw [mg_fuel n m xs [] (!p) q (by simp at h ⊢;omega) (by simp at k ⊢;omega)]
 | n+1,m+1,[],y :: ys,p,q,h,k=>by
   show _ :: _=_ :: _
   rw [mg_fuel n m [] ys p (!q) (by simp at h ⊢;omega) (by simp at k ⊢;omega)]
 | n+1,m+1,x :: xs,y :: ys,p,q,h,k=>by
   unfold mg
   rw [mg_fuel n m xs (y :: ys) (!p) q (by simp at h ⊢;omega) (by simp at k ⊢;omega),mg_fuel n m (x :: xs) ys p (!q) (by simp at h ⊢;omega) (by simp at k ⊢;omega),mg_fuel n m xs ys (!p) (!q) (by simp at h ⊢;omega) (by simp at k ⊢;omega)]
def mgL (xs ys:List Int) (p q:Bool):List Ch:=mg (xs.length+ys.length) xs ys p q
theorem mgL_nil (p q:Bool):mgL [] [] p q = []:=rfl
theorem mgL_left (x:Int) (xs:List Int) (p q:Bool):mgL (x :: xs) [] p q=(x,!p,q) :: mgL xs [] (!p) q:=rfl
theorem mgL_right (y:Int) (ys:List Int) (p q:Bool):mgL [] (y :: ys) p q=(y,p,!q) :: mgL [] ys p (!q):=by
 unfold mgL
 rw [show ([]:List Int).length+(y :: ys).length=ys.length+1 by simp]
 show _ :: _=_
 rw [mg_fuel ys.length (([]:List Int).length+ys.length) [] ys p (!q) (by simp) (by simp)]
theorem mgL_lt {x y:Int} (h:x<y) (xs ys:List Int) (p q:Bool):mgL (x :: xs) (y :: ys) p q=(x,!p,q) :: mgL xs (y :: ys) (!p) q:=by
 unfold mgL
 rw [show (x :: xs).length+(y :: ys).length=(xs.length+(y :: ys).length)+1 by simp;omega]
 conv=>lhs;unfold mg
 rw [if_pos h]
theorem mgL_gt {x y:Int} (h:y<x) (xs ys:List Int) (p q:Bool):mgL (x :: xs) (y :: ys) p q=(y,p,!q) :: mgL (x :: xs) ys p (!q):=by
 unfold mgL
 rw [show (x :: xs).length+(y :: ys).length=((x :: xs).length+ys.length)+1 by simp;omega]
 conv=>lhs;unfold mg
 rw [if_neg (by omega),if_pos h]
theorem mgL_eq (x:Int) (xs ys:List Int) (p q:Bool):mgL (x :: xs) (x :: ys) p q=(x,!p,!q) :: mgL xs ys (!p) (!q):=by
 unfold mgL
 rw [show (x :: xs).length+(x :: ys).length=(xs.length+ys.length+1)+1 by simp;omega]
 conv=>lhs;unfold mg
 rw [if_neg (by omega),if_neg (by omega),mg_fuel (xs.length+ys.length+1) (xs.length+ys.length) xs ys (!p) (!q) (by omega) (by omega)]
structure StP (U:Int) (f:Bool→Bool→Bool) (C:List Ch) (L pre:List Iv) (s:Int) (t:Bool) (front:List Ch):Prop where
 list:∀ rest,front++rest=C→pre++pc U f rest s t=L
 up:∀ rest,front++rest=C→upC U (if t then s else -1) rest
 nn:t=true→0≤s
section
variable {U:Int} {f:Bool→Bool→Bool} {C front:List Ch} {L pre:List Iv} {s:Int} {t:Bool} {x:Ch}
theorem StP.rest (hx:front ++ [x] <+: C):∃ r,front++x :: r=C:=by
 obtain ⟨r,hr⟩:=hx
 exact ⟨r,by rw [← hr];simp⟩
theorem StP.start (hu:upC U (-1) C) (hl:pc U f C 0 false=L):StP U f C L [] 0 false []:=
 ⟨fun rest h=>by rw [List.nil_append] at h ⊢;rw [h];exact hl,fun rest h=>by rw [List.nil_append] at h;rw [h];exact hu,fun h=>by cases h⟩
theorem upC_low {b b':Int} (h:b'≤b):∀ {l:List Ch},upC U b l→upC U b' l
 | [],_=>trivial
 | _ :: _,⟨h1,h2,h3⟩=>⟨by omega,h2,h3⟩
theorem StP.range (h:StP U f C L pre s t front) (hx:front ++ [x] <+: C):0≤x.1∧x.1≤U∧(t=true→0≤s∧s<x.1):=by
 obtain ⟨r,hr⟩:=StP.rest hx
 obtain ⟨h1,h2,_⟩:=h.up _ hr
 cases t with
 | true=>have:=h.nn rfl;simp only [if_true] at h1;exact ⟨by omega,h2,fun _=>⟨this,h1⟩⟩
 | false=>simp only [Bool.false_eq_true,if_false] at h1;exact ⟨by omega,h2,fun h=>by cases h⟩
theorem StP.same (h:StP U f C L pre s t front) (hx:front ++ [x] <+: C) (hf:f x.2.1 x.2.2=t):StP U f C L pre s t (front ++ [x]):=by
 have _:=hx
 refine ⟨fun rest hr => ?_,fun rest hr => ?_,h.nn⟩
 ·have:=h.list (x :: rest) (by rw [← hr];simp)
  unfold pc at this
  rwa [if_pos hf] at this
 ·obtain ⟨h1,h2,h3⟩:=h.up (x :: rest) (by rw [← hr];simp)
  exact upC_low (by omega) h3
theorem StP.stop (h:StP U f C L pre s true front) (hx:front ++ [x] <+: C) (hf:f x.2.1 x.2.2=false):StP U f C L (pre ++ [(s,x.1 - 1)]) x.1 false (front ++ [x])∧pre ++ [(s,x.1 - 1)] <+: L:=by
 have key:∀ rest,front++x :: rest=C→(pre ++ [(s,x.1 - 1)])++pc U f rest x.1 false=L:=by
  intro rest hr
  have:=h.list (x :: rest) hr
  unfold pc at this
  rw [if_neg (by rw [hf];simp),if_pos rfl] at this
  rw [← this];simp
 refine ⟨⟨fun rest hr=>key rest (by rw [← hr];simp),fun rest hr => ?_,fun h=>by cases h⟩,?_⟩
 ·obtain ⟨h1,h2,h3⟩:=h.up (x :: rest) (by rw [← hr];simp)
  have:=(h.range hx).1
  exact upC_low (by simp;omega) h3
 ·obtain ⟨r,hr⟩:=StP.rest hx
  exact ⟨_,key r hr⟩
theorem StP.go (h:StP U f C L pre s false front) (hx:front ++ [x] <+: C) (hf:f x.2.1 x.2.2=true):StP U f C L pre x.1 true (front ++ [x]):=by
 refine ⟨fun rest hr => ?_,fun rest hr => ?_,fun _=>(h.range hx).1⟩
 ·have:=h.list (x :: rest) (by rw [← hr];simp)
  unfold pc at this
  rwa [if_neg (by rw [hf];simp),if_neg (by simp)] at this
 ·obtain ⟨h1,h2,h3⟩:=h.up (x :: rest) (by rw [← hr];simp)
  exact h3
theorem StP.done (h:StP U f C L pre s false C):pre=L:=by
 have:=h.list [] (by simp)
 simpa [pc] using this
theorem StP.last (h:StP U f C L pre s true C):pre ++ [(s,U)]=L:=by
 have:=h.list [] (by simp)
 simpa [pc] using this
end
theorem chL_up {U:Int} {a b:List Iv} (ca:canon a) (cb:canon b) (ha:okL U a) (hb:okL U b):upC U (-1) (chL U a b):=
 mg_up _ false false (edge_up ca (fun y hy=>(ha y hy).2.2) (fun y hy=>by have:=ha y (List.mem_of_mem_head? hy);omega)) (edge_up cb (fun y hy=>(hb y hy).2.2) (fun y hy=>by have:=hb y (List.mem_of_mem_head? hy);omega))
end
end Go.Proofs.YtgcakgegboicjaaGreatDoor
