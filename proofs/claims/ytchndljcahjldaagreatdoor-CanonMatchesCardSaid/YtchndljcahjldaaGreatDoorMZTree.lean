/- A tree whose nodes take intervals of pieces, and what is known below its nodes. Plain mathematics; no conditions of its own. -/
import Derived.Test.YtchndljcahjldaaGreatDoorMGMath
import Derived.Test.YtchndljcahjldaaGreatDoorMLPairs
namespace Go.Proofs.YtchndljcahjldaaGreatDoor
section
open Go.RowKit
variable {i n q:Nat} {F:t8}
def ze0:Nat→Nat→Nat→Nat→Bool
 | 0,_,_,_=>false
 | f+1,l,r,x=>decide (l<r) && ((decide (l % 2=1) && decide (x=l)) || (decide (r % 2=1) && decide (x+1=r)) || ze0 f ((l+1) / 2) (r / 2) x)
theorem zm1 (f l r x:Nat):ze0 (f+1) l r x=true↔l<r∧((l % 2=1∧x=l)∨(r % 2=1∧x+1=r)∨ze0 f ((l+1) / 2) (r / 2) x=true):=by
 rw [ze0]
 grind
theorem xw3:∀ {f l r x:Nat},ze0 f l r x=true→x<r
 | 0,_,_,_,h=>by simp [ze0] at h
 | f+1,l,r,x,h=>by
   rw [zm1] at h
   rcases h with ⟨h0,h | h | h⟩
   ·omega
   ·omega
   ·have:=xw3 h;omega
theorem yv2 {f l r x:Nat} (h:r≤l):ze0 f l r x=false:=by
 cases f with
 | zero=>rfl
 | succ f=>rw [ze0,decide_eq_false (by omega)];rfl
theorem ye4 (p j:Nat):p / 2 ^ (j+1)=p / 2 / 2 ^ j:=by rw [Nat.div_div_eq_div_mul,Nat.pow_succ,Nat.mul_comm]
theorem wm0:∀ {f l r p:Nat},1≤l→r≤f→p<2*l→r≤2*p+1→((∃ j,ze0 f l r (p / 2 ^ j)=true)↔l≤p∧p<r)
 | 0,l,r,p,_,hf,_,_=>by grind [ze0]
 | f+1,l,r,p,h1,hf,h2,h3=>by
   by_cases hlr:l<r
   ·have ih:=wm0 (f:=f) (l:=(l+1) / 2) (r:=r / 2) (p:=p / 2) (by omega) (by omega) (by omega) (by omega)
    constructor
    ·rintro ⟨j,h⟩
     rw [zm1] at h
     obtain ⟨_,h⟩:=h
     cases j with
     | zero =>
       rw [Nat.pow_zero,Nat.div_one] at h
       rcases h with h | h | h
       ·omega
       ·omega
       ·have:=xw3 h;omega
     | succ j =>
       rw [ye4] at h
       have hle:p / 2 / 2 ^ j≤p / 2:=Nat.div_le_self _ _
       grind
    ·rintro ⟨h4,h5⟩
     by_cases ha:l % 2=1∧p=l
     ·exact ⟨0,by rw [zm1,Nat.pow_zero,Nat.div_one];exact ⟨hlr,.inl ha⟩⟩
     ·by_cases hb:r % 2=1∧p+1=r
      ·exact ⟨0,by rw [zm1,Nat.pow_zero,Nat.div_one];exact ⟨hlr,.inr (.inl hb)⟩⟩
      ·obtain ⟨j,h⟩:=ih.2 ⟨by omega,by omega⟩
       exact ⟨j+1,by rw [zm1,ye4];exact ⟨hlr,.inr (.inr h)⟩⟩
   grind [yv2]
theorem xw4 {n:Nat}:∀ (d i:Nat),1≤i→i<2*n→2*n≤i+d→∃ p k,n≤p∧p<2*n∧p / 2 ^ k=i
 | 0,i,_,h2,h3=>by omega
 | d+1,i,h1,h2,h3=>by
   by_cases hn:n≤i
   ·exact ⟨i,0,hn,h2,by simp⟩
   ·obtain ⟨p,k,h4,h5,h6⟩:=xw4 (n:=n) d (2*i) (by omega) (by omega) (by omega)
    refine ⟨p,k+1,h4,h5,?_⟩
    rw [Nat.pow_succ,← Nat.div_div_eq_div_mul,h6]
    omega
def wm1 (Vs:List (v6)):v6:=Vs.foldl (opV orL) []
theorem xf7:∀ (Vs:List (v6)) (A:v6) (a b:Nat),(s8 A∧∀ y ∈ A,o5 y.2.1 y.2.2=true)→n7 a b A→(∀ V ∈ Vs,s8 V) →
 (s8 (Vs.foldl (opV orL) A)∧∀ y ∈ Vs.foldl (opV orL) A,o5 y.2.1 y.2.2=true)∧n7 (a+zc7 Vs) (b+zc8 Vs) (Vs.foldl (opV orL) A)∧∀ r c:Int,0≤c→z27 (Vs.foldl (opV orL) A) r c=(z27 A r c || Vs.any fun V=>z27 V r c)
 | [],A,a,b,hA,sA,_=>⟨hA,sA,fun r c _=>by simp⟩
 | V :: Vs,A,a,b,hA,sA,h=>by
   have gV:=h V (by simp)
   obtain ⟨h1,h2,h3⟩:=xf7 Vs (opV orL A V) (a+V.length) (b+bV V+3) (zk7 (fun _ _ h h'=>z03 h h') hA.1 gV) (yg6 hA.1 gV sA (yj0 V)) fun U hU=>h U (List.mem_cons_of_mem _ hU)
   grind [ys8,ys9,zd4,yd3,wb8,zn1,m8,Bool.or_assoc]
theorem y33 {Vs:List (v6)} (h:∀ V ∈ Vs,s8 V):(s8 (wm1 Vs)∧∀ y ∈ wm1 Vs,o5 y.2.1 y.2.2=true)∧n7 (zc7 Vs) (zc8 Vs) (wm1 Vs)∧∀ r c:Int,0≤c→z27 (wm1 Vs) r c=Vs.any fun V=>z27 V r c:=by
 obtain ⟨h1,h2,h3⟩:=xf7 Vs [] 0 0 z10 ⟨Nat.le_refl _,fun y hy=>by cases hy⟩ h
 rw [Nat.zero_add,Nat.zero_add] at h2
 refine ⟨h1,h2,fun r c hc => ?_⟩
 have:=h3 r c hc
 rw [y16,Bool.false_or] at this
 exact this
abbrev Job:=v6 × Nat × Nat
def yc7 (n:Nat) (i:Nat) (j:Job):Bool:=ze0 (2*n) (j.2.1+n) (j.2.2+n) i
def upJ (n:Nat) (i:Nat) (j:Job):Bool:=(List.range (2*n)).any fun k=>yc7 n (i / 2 ^ k) j
def zm2 (q:Nat) (j:Job):Bool:=decide (j.2.1≤q) && decide (q<j.2.2)
def zy7 (n:Nat) (J:List Job):Prop:=∀ j ∈ J,s8 j.1∧j.2.1≤j.2.2∧j.2.2≤n
theorem wv7 {k:Nat} (h:i≤k):i / 2 ^ k=0:=Nat.div_eq_of_lt (Nat.lt_of_le_of_lt h Nat.lt_two_pow_self)
theorem xf8 {j:Job} (hn:1≤n):yc7 n 0 j=false:=by
 unfold yc7
 have key:∀ (f l r:Nat),1≤l→ze0 f l r 0=false:=by
  intro f
  induction f with
  | zero=>intros;rfl
  | succ f ih =>
    grind [ze0,zm1]
 grind
theorem y34 {j:Job} (hi:i<2*n):upJ n i j=true↔∃ k,yc7 n (i / 2 ^ k) j=true:=by
 unfold upJ
 rw [List.any_eq_true]
 constructor
 ·grind
 ·rintro ⟨k,h⟩
  refine ⟨k,List.mem_range.2 (Decidable.byContradiction fun hk => ?_),h⟩
  rw [wv7 (by omega),xf8 (by omega)] at h
  cases h
theorem xf9 {j:Job} (hi:i<2*n):upJ n i j=(yc7 n i j || upJ n (i / 2) j):=by
 rw [Bool.eq_iff_iff,Bool.or_eq_true,y34 hi,y34 (by omega)]
 constructor
 ·rintro ⟨k,h⟩
  cases k with
  | zero=>left;simpa using h
  | succ k=>right;exact ⟨k,by rw [← ye4];exact h⟩
 ·rintro (h | ⟨k,h⟩)
  ·exact ⟨0,by simpa using h⟩
  ·exact ⟨k+1,by rw [ye4];exact h⟩
theorem xg0 {j:Job} (hj:j.2.1≤j.2.2∧j.2.2≤n) (hq:q<n):upJ n (q+n) j=zm2 q j:=by
 rw [Bool.eq_iff_iff,y34 (by omega)]
 unfold yc7 zm2
 rw [wm0 (by omega) (by omega) (by omega) (by omega),Bool.and_eq_true,decide_eq_true_eq,decide_eq_true_eq]
 omega
theorem xw5 {j:Job}:upJ n 0 j=false:=by grind [upJ,List.any_eq_false,Nat.zero_div,xf8]
theorem v34 (h1:1≤i) (hi:i<2*n):∃ q,q<n∧∀ j:Job,j.2.1≤j.2.2∧j.2.2≤n→upJ n i j=true→zm2 q j=true:=by
 obtain ⟨p,k,h2,h3,h4⟩:=xw4 (n:=n) (2*n) i h1 hi (by omega)
 refine ⟨p - n,by omega,fun j hj h => ?_⟩
 rw [← xg0 hj (by omega),show p - n+n=p by omega,y34 (by omega)]
 obtain ⟨m,h⟩:=(y34 hi).1 h
 exact ⟨k+m,by rw [Nat.pow_add,← Nat.div_div_eq_div_mul,h4];exact h⟩
theorem yn0 {α:Type} {p q:α→Bool} {l:List α} (h:∀ x ∈ l,p x=true→q x=true):(l.filter p).Sublist (l.filter q):=by
 have e:l.filter p=(l.filter q).filter p:=by
  rw [List.filter_filter]
  refine List.filter_congr fun x hx => ?_
  simp_all
 rw [e]
 exact List.filter_sublist
def knN (n:Nat) (J:List Job) (i:Nat):v6:=wm1 ((J.filter (upJ n i)).map (·.1))
def inN (n:Nat) (J:List Job) (i:Nat):List (v6):=(J.filter (yc7 n i)).map (·.1)
theorem wm2 {J:List Job}:knN n J 0 = []:=by
 unfold knN
 rw [List.filter_eq_nil_iff.2 fun j _=>by rw [xw5];simp]
 rfl
theorem zm3 {J:List Job} (h:zy7 n J) {p:Job→Bool}:∀ V ∈ (J.filter p).map (·.1),s8 V:=fun V hV=>by
 obtain ⟨j,hj,rfl⟩:=List.mem_map.1 hV
 exact (h j (List.mem_filter.1 hj).1).1
def zh1:List Iv := [(0,UM)]
def y81 (n:Nat) (J:List Job) (i:Nat):t8:=(inN n J i).map (fun V=>(zh1,V)) ++ [(zh1,knN n J (i / 2))]
theorem zu8:t6 zh1:=z20 (by decide) (by decide) (by decide)
theorem xg1:y9 zh1 0=true:=by decide
theorem y82 {J:List Job} (h:zy7 n J):x9 (y81 n J i):=fun x hx=>by
 rcases List.mem_append.1 hx with hx | hx
 ·obtain ⟨V,hV,rfl⟩:=List.mem_map.1 hx
  exact ⟨zu8,zm3 h V hV⟩
 ·obtain rfl:=List.mem_singleton.1 hx
  exact ⟨zu8,(y33 (zm3 h)).1.1⟩
theorem yp7 {α:Type} {p q r s:α→Bool} {l:List α} (h:∀ x ∈ l,p x=(q x || r x)):(l.filter p).any s=((l.filter q).any s || (l.filter r).any s):=by grind
theorem wv8 {J:List Job} (h:zy7 n J) (hi:i<2*n):atK (y81 n J i) 0=knN n J i:=by
 obtain ⟨a1,a2⟩:=zl0 (t:=0) (y81 n J i) [] z10 (y82 h)
 obtain ⟨⟨b1,b2⟩,_,b3⟩:=y33 (zm3 h (p:=upJ n i))
 refine zz5 a1 a2 b1 b2 fun r c hc => ?_
 have e:=zr7 (y82 (i:=i) h) 0 r hc
 refine Eq.trans e (Eq.trans ?_ (b3 r c hc).symm)
 unfold y81 z32 inN
 rw [List.any_append,List.any_map,List.any_map,List.any_map,yp7 (fun x _=>xf9 hi)]
 have e2:(List.filter (yc7 n i) J).any (((fun x:List Iv × v6=>y9 x.1 0 && z27 x.2 r c) ∘ fun V=>(zh1,V)) ∘ fun x=>x.1)=(List.filter (yc7 n i) J).any ((fun V=>z27 V r c) ∘ fun x=>x.1):=by grind [List.any,y9,zh1,z27,xg1]
 rw [e2]
 congr 1
 have e3:=(y33 (zm3 h (p:=upJ n (i / 2)))).2.2 r c hc
 rw [List.any_cons,List.any_nil,Bool.or_false]
 show (y9 zh1 0 && z27 (knN n J (i / 2)) r c)=_
 rw [xg1,Bool.true_and]
 unfold knN
 grind
theorem wm3 {J:List Job} (h:zy7 n J) (h1:1≤i) (hi:i<2*n) (hs:∀ q,q<n→((J.filter (zm2 q)).map (·.1)).length≤12∧zc7 ((J.filter (zm2 q)).map (·.1))≤300∧zc8 ((J.filter (zm2 q)).map (·.1))≤405):wz7 (y81 n J i):=by
 have hup:∀ m,m<2*n→zc7 ((J.filter (upJ n m)).map (·.1))≤300∧zc8 ((J.filter (upJ n m)).map (·.1))≤405∧((J.filter (upJ n m)).map (·.1)).length≤12:=fun m hm=>by
  by_cases h0:m=0
  ·rw [h0,List.filter_eq_nil_iff.2 fun j _=>by rw [xw5];simp];decide
  ·obtain ⟨q,hq,hh⟩:=v34 (n:=n) (i:=m) (by omega) hm
   have hsub:=List.Sublist.map (fun j:Job=>j.1) (yn0 (p:=upJ n m) (q:=zm2 q) (l:=J) fun j hj=>hh j (h j hj).2)
   have h2:=yy9 hsub
   grind
 have hin:(inN n J i).Sublist ((J.filter (upJ n i)).map (·.1)):=List.Sublist.map (fun j:Job=>j.1) (yn0 (p:=yc7 n i) (q:=upJ n i) (l:=J) fun j _ hj=>by rw [xf9 hi,hj];rfl)
 have k1:=hup i hi
 have k2:=hup (i / 2) (by omega)
 have k3:=yy9 hin
 have k4:=hin.length_le
 obtain ⟨_,k5,_⟩:=y33 (zm3 h (p:=upJ n (i / 2)))
 have k6:=wf4 k5.2
 have k7:=k5.1
 have e:(y81 n J i).map (·.2)=inN n J i ++ [knN n J (i / 2)]:=by
  unfold y81
  rw [List.map_append,List.map_map,show ((fun x:List Iv × v6=>x.2) ∘ fun V=>(zh1,V))=id from rfl,List.map_id]
  rfl
 have e2:(y81 n J i).length=(inN n J i).length+1:=by unfold y81;simp
 refine ⟨by omega,?_,?_⟩
 ·grind [yt0,knN]
 grind [yt1,knN]
def zo7 (P:List Iv) (z:Int):Nat:=(P.takeWhile fun p=>decide (p.1<z)).length
theorem x32 (P:List Iv) (z:Int):zo7 P z≤P.length:=(List.takeWhile_sublist _).length_le
theorem y35:∀ {P:List Iv} {z:Int} {q:Nat} {p:Iv},P.Pairwise (fun a b=>a.1<b.1)→P[q]? = some p→(zo7 P z≤q↔z≤p.1)
 | [],_,_,_,_,h=>by simp at h
 | a :: P,z,q,p,ha,h=>by
   obtain ⟨h1,h2⟩:=List.pairwise_cons.1 ha
   unfold zo7
   rw [List.takeWhile_cons]
   by_cases hz:a.1<z
   ·rw [if_pos (decide_eq_true hz),List.length_cons]
    cases q with
    | zero =>
      grind
    | succ q =>
      have ih:=y35 (z:=z) h2 (show P[q]? = some p by simpa using h)
      grind [zo7]
   grind
theorem y83:∀ {P:List Iv} {y z:Int},y≤z→zo7 P y≤zo7 P z
 | [],_,_,_=>Nat.le_refl _
 | a :: P,y,z,h=>by
   have ih:=y83 (P:=P) h
   grind [zo7,List.takeWhile_cons,List.length_cons]
def y36 (P:List Iv) (x:List Iv × v6):List Job:=x.1.map fun s=>(x.2,zo7 P s.1,zo7 P (s.2+1))
def z28 (P:List Iv) (F:t8):List Job:=F.flatMap (y36 P)
theorem xw6 {P:List Iv} (hF:x9 F):zy7 P.length (z28 P F):=fun j hj=>by
 obtain ⟨x,hx,hj⟩:=List.mem_flatMap.1 hj
 obtain ⟨s,hs,rfl⟩:=List.mem_map.1 hj
 have:=z13 x.1 (hF x hx).1.can s hs
 exact ⟨(hF x hx).2,y83 (by omega),x32 _ _⟩
theorem xw7 {t:Int}:∀ {l:List Iv},m5 l→(l.filter fun s=>inI s t).length=if y9 l t=true then 1 else 0
 | [],_=>rfl
 | s :: l,h=>by
   have hl:m5 l:=by
    cases l with
    | nil=>trivial
    | cons y l=>exact h.2.2
   have ih:=xw7 (t:=t) hl
   have e:y9 (s :: l) t=(inI s t || y9 l t):=rfl
   rw [List.filter_cons,e]
   cases hs:inI s t with
   | false=>rw [if_neg (by simp),ih];rfl
   | true =>
     have h0:y9 l t=false:=by
      cases hh:y9 l t with
      | false=>rfl
      | true =>
        obtain ⟨y,hy,h1,h2⟩:=(t7 l t).1 hh
        obtain ⟨k,hk⟩:=List.mem_iff_getElem?.1 hy
        have:=z59 (s :: l) h 0 (k+1) s y (by omega) rfl (by simpa using hk)
        unfold inI at hs
        grind
     grind
theorem yv4 {α β:Type} {f:α→β} {b:β}:∀ {l:List α},(∀ x ∈ l,f x=b)→l.map f=List.replicate l.length b
 | [],_=>rfl
 | x :: l,h=>by rw [List.map_cons,List.length_cons,List.replicate_succ,yv4 fun y hy=>h y (List.mem_cons_of_mem _ hy),h x (by simp)]
theorem yn1 {P:List Iv} (hP:P.Pairwise fun a b=>a.1<b.1) {q:Nat} {p:Iv} (hq:P[q]? = some p):∀ {F:t8},x9 F→((z28 P F).filter (zm2 q)).map (·.1)=(F.filter fun x=>y9 x.1 p.1).map (·.2)
 | [],_=>rfl
 | x :: F,h=>by
   have ih:=yn1 hP hq (m7 h).2
   have e:z28 P (x :: F)=y36 P x++z28 P F:=by unfold z28;rw [List.flatMap_cons]
   rw [e,List.filter_append,List.map_append,ih,List.filter_cons]
   have e1:((y36 P x).filter (zm2 q)).map (·.1)=List.replicate (x.1.filter fun s=>inI s p.1).length x.2:=by
    unfold y36
    rw [List.filter_map,List.map_map]
    have e2:(zm2 q ∘ fun s:Iv=>((x.2,zo7 P s.1,zo7 P (s.2+1)):Job))=fun s=>inI s p.1:=by
     refine funext fun s => ?_
     show (decide (zo7 P s.1≤q) && decide (q<zo7 P (s.2+1)))=(decide (s.1≤p.1) && decide (p.1≤s.2))
     have h1:=y35 (z:=s.1) hP hq
     have h2:=y35 (z:=s.2+1) hP hq
     grind
    grind [yv4]
   rw [e1,xw7 (m7 h).1.1.can]
   grind
def xg2 (F:t8):Prop:=∀ t:Int,((F.filter fun x=>y9 x.1 t).map (·.2)).length≤12∧zc7 ((F.filter fun x=>y9 x.1 t).map (·.2))≤300∧zc8 ((F.filter fun x=>y9 x.1 t).map (·.2))≤405
theorem y84 (hF:x9 F):(r7 F).Pairwise fun a b=>a.1<b.1:=
 (y90 hF).imp_of_mem fun {a b} ha _ h=>by have:=(zp9 hF ha).1.2.1;omega
theorem xp2 (hF:x9 F) {p:Iv} (hq:(r7 F)[q]? = some p):knN (r7 F).length (z28 (r7 F) F) (q+(r7 F).length)=atK F p.1:=by
 have hlt:=(List.getElem?_eq_some_iff.1 hq).1
 have e:(z28 (r7 F) F).filter (upJ (r7 F).length (q+(r7 F).length))=(z28 (r7 F) F).filter (zm2 q):=List.filter_congr fun j hj=>xg0 (xw6 hF j hj).2 hlt
 unfold knN
 rw [e,yn1 (y84 hF) hq hF]
 have hg:∀ V ∈ (F.filter fun x=>y9 x.1 p.1).map (·.2),s8 V:=fun V hV=>by
  obtain ⟨x,hx,rfl⟩:=List.mem_map.1 hV
  exact (hF x (List.mem_filter.1 hx).1).2
 obtain ⟨⟨a1,a2⟩,_,a3⟩:=y33 hg
 obtain ⟨b1,b2⟩:=zl0 (t:=p.1) F [] z10 hF
 refine zz5 a1 a2 b1 b2 fun r c hc => ?_
 rw [a3 r c hc]
 have e2:=zr7 hF p.1 r hc
 refine Eq.trans ?_ e2.symm
 rw [List.any_map,List.any_filter]
 rfl
theorem z58.deep (h:z58 F):xg2 F:=fun t=>by
 have hl:((F.filter fun x=>y9 x.1 t).map (·.2)).length≤12:=by rw [List.length_map];exact Nat.le_trans (List.length_filter_le _ _) h.1
 have:=wf5 (n:=20) (m:=30) hl fun V hV=>by
  obtain ⟨x,hx,rfl⟩:=List.mem_map.1 hV
  exact (h.2 x (List.mem_filter.1 hx).1).2
 omega
end
section
open Go.RowKit Go.Maps
variable {l:List Iv} {s:Iv}
def y37:Value→Option (DataW Value × List MemPlace)
 | .bool b=>some (.held (.bool b),[])
 | _=>none
abbrev yn2 (w:World) (b n:Nat) (D:DataW Value):Prop:=w.ownsMap Tryz.prog 36 y37 b n D
def xp3 (l:List Iv) (x:Int):Prop:=∃ s ∈ l,(0<s.1∧x=s.1 - 1)∨x=s.2
structure zs9 (l:List Iv) (D:DataW Value):Prop where
 isMap:IsMap D
 has:∀ x:Int,Maps.has D (.int .u64 x)=true↔xp3 l x
theorem zs9.start:zs9 [] (.map []):=⟨isMap_empty,fun x=>by simp [Maps.has,xp3]⟩
theorem yv5 {x:Int}:xp3 (l ++ [s]) x↔xp3 l x∨(0<s.1∧x=s.1 - 1)∨x=s.2:=by
 unfold xp3
 simp_all
theorem x33 {D:DataW Value} (h:IsMap D) {a:Int} (hk:WideAt.IsKeyLit (.int .u64 a)) (v:DataW Value) (x:Int):Maps.has (D.put (.int .u64 a) v) (.int .u64 x)=true↔Maps.has D (.int .u64 x)=true∨x=a:=by
 by_cases e:x=a
 ·subst e;rw [has_put_same h hk];simp
 ·rw [has_put_other (zq4 e)];simp [e]
theorem zs9.two {D:DataW Value} (h:zs9 l D) (h0:0<s.1) (k1:WideAt.IsKeyLit (.int .u64 (s.1 - 1))) (k2:WideAt.IsKeyLit (.int .u64 s.2)) (u v:DataW Value):zs9 (l ++ [s]) ((D.put (.int .u64 (s.1 - 1)) u).put (.int .u64 s.2) v):=by
 refine ⟨(h.isMap.put _ _).put _ _,fun x => ?_⟩
 rw [x33 (h.isMap.put _ _) k2,x33 h.isMap k1,h.has x,yv5]
 constructor
 ·rintro ((h1 | h1) | h1)
  ·exact .inl h1
  ·exact .inr (.inl ⟨h0,h1⟩)
  ·exact .inr (.inr h1)
 ·rintro (h1 | ⟨_,h1⟩ | h1)
  ·exact .inl (.inl h1)
  ·exact .inl (.inr h1)
  ·exact .inr h1
theorem zs9.one {D:DataW Value} (h:zs9 l D) (h0:s.1=0) (k2:WideAt.IsKeyLit (.int .u64 s.2)) (v:DataW Value):zs9 (l ++ [s]) (D.put (.int .u64 s.2) v):=by
 refine ⟨h.isMap.put _ _,fun x => ?_⟩
 rw [x33 h.isMap k2,h.has x,yv5]
 constructor
 ·rintro (h1 | h1)
  ·exact .inl h1
  ·exact .inr (.inr h1)
 ·rintro (h1 | ⟨h1,_⟩ | h1)
  ·exact .inl h1
  ·omega
  ·exact .inr h1
def v36 (l:List Iv) (w:World) (e:Ending) (w':World):Prop:=∃ b D,e = .returned (.map (some b))∧yn2 w' b 3000 D∧(∀ x:Int,Maps.has D (.int .u64 x)=true↔xp3 l x∧x≠UM)∧Below w.heap.size w w'
theorem zi8 {h:Nat} {w w1 w2:World} (hb:Below h w w1) (hg:w1.grownBy w2 (some h)) (hh:h≤w1.heap.size):Below h w w2:=
 hb.trans ((y5.of_grown (q:=fun j=>j=h) hg (fun j e=>by cases e;rfl)).below hh (fun j hj e=>by omega))
set_option maxRecDepth 100000 in
set_option maxHeartbeats 4000000 in
theorem wm4 (F:t8) (v:Value) (w:World) (hv:z85 w v F) (hF:x9 F) (hs:midI F):Calls Tryz.prog 180 #[v] w (v36 (flatK F) w):=by
 obtain ⟨p,cap,rfl⟩:=hv.shape
 obtain ⟨h,hh⟩:∃ h,w.heap.size=h:=⟨_,rfl⟩
 have hlen:=hs.1
 have h64:∀ x ∈ F,m9 x.1:=fun x hx=>(hF x hx).1.all
 have hfl:∀ k,(flatK (F.take k)).length≤1000:=fun k=>by
  have e:flatK F=flatK (F.take k)++flatK (F.drop k):=by unfold flatK;rw [← List.flatMap_append,List.take_append_drop]
  have h1:=hs.2
  rw [e,List.length_append] at h1
  omega
 have h20:∀ (i:Nat) x,F[i]? = some x→x.1.length≤1000:=fun i x hx=>Nat.le_trans (zi1 (List.mem_of_getElem? hx)) hs.2
 have HV:=qh hv
 have HF:=qh (And.intro h64 (And.intro hfl h20))
 have HM0:=qh (hh ▸ World.ownsMap_made w Tryz.prog 36 y37:yn2 (w.alloc (.map #[] 0)) h 0 (.map []))
 have HB0:=qh (hh ▸ z8 w (.map #[] 0):Below h w (w.alloc (.map #[] 0)))
 have hmm:(Instr.makeMap 228 none).run Tryz.prog w = .ok (.map (some w.heap.size)) (w.alloc (.map #[] 0)):=by simp [Instr.makeMap,go_sem,Result.andThen]
 rw [hh] at hmm
 have HH:=qh hh
 clear hv hF hs h64 hfl h20 hh
 go_enter Tryz.func180,Tryz.ntmps180
 go_wp2_with fail
 go_loopw [13] (fun i wr=>∃ (k n:Nat) (D:DataW Value),i = .int .i64 k∧k≤F.length∧yn2 wr h n D∧n≤2*(flatK (F.take k)).length∧zs9 (flatK (F.take k)) D∧Below h w wr) (fun i _=>F.length - (intOf i).toNat)
 case atStart=>exact ⟨0,0,_,rfl,Nat.zero_le _,HM0.out,Nat.zero_le _,zs9.start,HB0.out⟩
 case round =>
  clear HM0 HB0
  obtain ⟨k,n,D,rfl,hk,hown,hn,hD,hb⟩:=hrel
  have HB:=qh hb;clear hb
  have HD:=qh hD;clear hD
  have hhr:h<wr.heap.size:=hown.lt
  by_cases hlt:k<F.length
  ·obtain ⟨⟨L,V⟩,hx⟩:∃ x,F[k]? = some x:=⟨F[k],by simp [hlt]⟩
   obtain ⟨b,o,cap',p1,c1,q1,d1,e,c0,c1',hf⟩:=HV.out.elem hx
   cases e
   have HI:=qh hf.at1
   have HL:=qh (And.intro (HF.out.1 _ (List.mem_of_getElem? hx)) (yj1 hx))
   have hl20:=HF.out.2.2 k _ hx
   have hfk:=HF.out.2.1 (k+1)
   rw [HL.out.2,List.length_append] at hfk
   dsimp only at hl20 hfk HL
   have t0:=z6 c0 (HH.out ▸ HB.out)
   have t1:=z6 c1' (HH.out ▸ HB.out)
   obtain ⟨wE,hwE⟩:∃ wE,wr.alloc (.cells #[.slice p1 L.length c1,.slice q1 V.length d1] 46)=wE:=⟨_,rfl⟩
   have hbE:Below wr.heap.size wr wE:=hwE ▸ z8 wr _
   have s0:wE.cell? ⟨wr.heap.size,0,none⟩=some (.slice p1 L.length c1):=by rw [← hwE];simp
   have HOE:=qh (za7 hown (y5.of_below (fun _=>False) hbE) id)
   have HBE:=qh (HB.out.trans (hbE.mono (Nat.le_of_lt hhr)))
   have i1:(0:Int)≤(k:Int):=by omega
   have i2:(k:Int)<(F.length:Int):=by omega
   clear hf hbE hx c0 c1' hown
   go_wp2_with fail
   clear hwE s0 t0 t1
   go_loopw [20] (fun i wr=>∃ (j n:Nat) (D:DataW Value),i = .int .i64 j∧j≤L.length∧yn2 wr h n D∧n≤2*((flatK (F.take k)).length+j)∧zs9 (flatK (F.take k)++L.take j) D∧Below h w wr) (fun i _=>L.length - (intOf i).toNat)
   case atStart=>exact ⟨0,n,D,rfl,Nat.zero_le _,HOE.out,by omega,by rw [List.take_zero,List.append_nil];exact HD.out,HBE.out⟩
   case round =>
    clear HOE HBE HD HB hn hhr
    obtain ⟨j,n,D,rfl,hj,hown,hn,hD,hb⟩:=hrel
    have HB:=qh hb;clear hb
    have HD:=qh hD;clear hD
    have hhr:h<wr.heap.size:=hown.lt
    by_cases hlt2:j<L.length
    ·obtain ⟨⟨y1,y2⟩,hy⟩:∃ y,L[j]? = some y:=⟨L[j],by simp [hlt2]⟩
     obtain ⟨b0,o0,cap0,e0,z0,z1⟩:=HI.out.elem hy
     cases e0
     have hy64:=HL.out.1 (y1,y2) (List.mem_of_getElem? hy)
     have a1:0≤y1:=hy64.1.1
     have a2:y1≤18446744073709551615:=hy64.1.2
     have a3:0≤y2:=hy64.2.1
     have a4:y2≤18446744073709551615:=hy64.2.2
     clear hy64
     have hU:UM=18446744073709551615:=rfl
     have t0:=z6 z0 (HH.out ▸ HB.out)
     have t1:=z6 z1 (HH.out ▸ HB.out)
     have HSN:=qh (show flatK (F.take k)++L.take (j+1)=(flatK (F.take k)++L.take j) ++ [(y1,y2)] by rw [List.take_add_one,hy];simp)
     obtain ⟨wE,hwE⟩:∃ wE,wr.alloc (.cells #[.int .u64 y1,.int .u64 y2] 65)=wE:=⟨_,rfl⟩
     have hbE:Below wr.heap.size wr wE:=hwE ▸ z8 wr _
     have s0:wE.cell? ⟨wr.heap.size,0,none⟩=some (.int .u64 y1):=by rw [← hwE];simp
     have s1:wE.cell? ⟨wr.heap.size,1,none⟩=some (.int .u64 y2):=by rw [← hwE];simp
     have hown1:=za7 hown (y5.of_below (fun _=>False) hbE) id
     have HBE:=qh (HB.out.trans (hbE.mono (Nat.le_of_lt hhr)))
     have hhE:h<wE.heap.size:=hown1.lt
     have hkey2:=zq3 y2 (by omega) (by omega)
     have hk2:=yd1 y2 (by omega) (by omega)
     have i1:(0:Int)≤(j:Int):=by omega
     have i2:(j:Int)<(L.length:Int):=by omega
     have hmx:n+2<maxLen:=by unfold maxLen;omega
     clear hbE hy hown z0 z1
     by_cases h0:y1=0
     ·subst h0
      have HK:=qh hk2;clear hk2
      go_wp2_with fail
      refine (xd4 _).mono ?_
      rintro e w' ⟨rfl,rfl⟩
      go_wp2_with (at_mapUpdate;go_loud (refine wpList_mapUpdate_own _ rfl _ _ _ 228 rfl 36 4 z54 Tryz.underlying228 y37 h n D rfl hown1 (by omega) (.int .u64 y2) (.bool true) (.int .u64 y2) rfl rfl hkey2 (.held (.bool true)) [] rfl ?_;intro w4 hown4 hgrow4))
      go_roundw
      case rel=>exact ⟨j+1,n+1,_,by go_num,by omega,hown4,by omega,by rw [HSN.out];exact HD.out.one rfl HK.out _,zi8 HBE.out hgrow4 (Nat.le_of_lt hhE)⟩
      case measure=>simp [intOf] <;> omega
     ·have hkey1:=zq3 (y1 - 1) (by omega) (by omega)
      have HK:=qh (And.intro (yd1 (y1 - 1) (by omega) (by omega)) hk2);clear hk2
      have hpos:0<y1:=by omega
      obtain ⟨z,hz⟩:∃ z,y1 - 1=z:=⟨_,rfl⟩
      have KP:=qh (hz ▸ xn7 y1 wE hpos (by omega))
      rw [hz] at hkey1 HK
      have HZ:=qh (And.intro hz hpos);clear hz hpos h0
      go_wp2_with fail
      refine KP.out.mono ?_
      rintro e w' ⟨rfl,rfl⟩
      go_wp2_with (at_mapUpdate;first
       | (refine wpList_mapUpdate_own _ rfl _ _ _ 228 rfl 36 4 z54 Tryz.underlying228 y37 h n D rfl hown1 (by omega) (.int .u64 z) (.bool true) (.int .u64 z) rfl rfl hkey1 (.held (.bool true)) [] rfl ?_;intro w4 hown4 hgrow4;have s4:=(y5.of_grown (q:=fun j=>j=h) hgrow4 (fun r e=>by cases e;rfl)).cell s1 (by show ¬ wr.heap.size=h;omega);have hh4:h<w4.heap.size:=hown4.lt)
       | (refine wpList_mapUpdate_own _ rfl _ _ _ 228 rfl 36 4 z54 Tryz.underlying228 y37 h (n+1) _ rfl hown4 (by omega) (.int .u64 y2) (.bool true) (.int .u64 y2) rfl rfl hkey2 (.held (.bool true)) [] rfl ?_;intro w5 hown5 hgrow5))
      go_roundw
      case rel=>exact ⟨j+1,n+2,_,by go_num,by omega,hown5,by omega,by rw [HSN.out];have:=HD.out.two (s:=(y1,y2)) HZ.out.2 (by rw [HZ.out.1];exact HK.out.1) HK.out.2 (.held (.bool true)) (.held (.bool true));dsimp only at this;rw [HZ.out.1] at this;exact this,zi8 (zi8 HBE.out hgrow4 (Nat.le_of_lt hhE)) hgrow5 (Nat.le_of_lt hh4)⟩
      case measure=>simp [intOf] <;> omega
    ·obtain rfl:j=L.length:=by omega
     rw [List.take_length,← HL.out.2] at HD
     have hl:=congrArg List.length HL.out.2
     rw [List.length_append] at hl
     go_wp2_with fail
     go_roundw
     case rel=>exact ⟨k+1,n,D,by go_num,by omega,hown,by omega,HD.out,HB.out⟩
     case measure=>simp [intOf] <;> omega
  ·obtain rfl:k=F.length:=by omega
   rw [List.take_length] at HD hn
   have hkm:=zq3 18446744073709551615 (by decide) (by decide)
   have hn2:n≤3000:=by have:=HF.out.2.1 F.length;rw [List.take_length] at this;omega
   go_wp2_with (at_delete;refine wpList_delete_own _ rfl _ _ 228 36 rfl 4 z54 Tryz.underlying228 y37 h n D rfl hown _ _ rfl hkm ?_;intro w1 hown1 hturn1)
   go_ret
   refine ⟨h,_,rfl,hown1.mono hn2,fun x => ?_,?_⟩
   ·by_cases e:x=18446744073709551615
    ·subst e
     rw [has_del_same]
     simp [show UM=18446744073709551615 from rfl]
    ·rw [has_del_other (zq4 e),HD.out.has x]
     simp [show UM=18446744073709551615 from rfl,e]
   ·rw [HH.out]
    exact zi8 HB.out hturn1.grown (Nat.le_of_lt hhr)
end
section
open Go.RowKit Go.Maps
open Go.Sort hiding Below
attribute [local go_sem] Oper.semAt_some
set_option maxRecDepth 100000 in
set_option maxHeartbeats 4000000 in
theorem xp4 (n:Nat) (kb b nn lo:Nat) (D:DataW Value) (W0:World) (keep:Nat→Prop) (hkb:W0.cell? ⟨kb,0,none⟩=some (.map (some b))) (hown:yn2 W0 b nn D) (hb:keep b) (hlo:lo≤W0.heap.size) :
 xq9 n Tryz.prog 222 #[.pointer (some ⟨kb,0,none⟩)] xi5 (fun front _=>front.length<nn) (fun L=>L.Nodup∧∀ x:Int,x ∈ L↔has D (.int .u64 x)=true) keep lo W0:=by
 intro l J Jx hA hY hJ0
 have HA:=qh hA;clear hA
 have HY:=qh hY;clear hY
 have HJ:=qh hJ0;clear hJ0
 have HK:=qh (And.intro hb hlo);clear hb hlo
 refine callsIn_of_wp Tryz.func222 rfl trivial ?_ rfl
 simp only [Tryz.ntmps222,List.size_toArray,List.length_cons,List.length_nil,Nat.reduceAdd,Nat.reduceSub,Array.replicate_succ,Array.replicate_zero,List.push_toArray,List.append_toArray,List.nil_append,List.cons_append]
 gi_wp2_with (first
  | (gi_at_range;refine wpListIn_range_own _ rfl _ 228 rfl 36 4 z54 Tryz.underlying228 _ b nn _ rfl hown ?_;intro w0 hrg0 hg0 hs0)
  | gi_in)
 go_frame
 have HS0:=qh (And.intro hg0 hs0);clear hg0 hs0
 have HX:=qh (show Ext keep (fun k=>keep k∨k=W0.heap.size) W0 w0 from Ext.one ((y5.of_grown (q:=fun _=>False) HS0.out.1 (fun r e=>by cases e)).below (Nat.le_refl _) (fun _ _ h=>h)) (HA.out.low _ _ _ HJ.out) _ (Nat.le_refl _) (by rw [HS0.out.2];exact Nat.lt_succ_self _))
 obtain ⟨r,hr⟩:∃ r,W0.heap.size=r:=⟨_,rfl⟩
 rw [hr] at hrg0 HX ⊢
 have HR:=qh hr;clear hr
 gi_loopw [3] (fun _ wr=>∃ (left:Lit→Bool) (cnt:Nat) (ss:List Int) (T:Nat→Prop),wr.ranges Tryz.prog 36 y37 b r nn D left cnt∧y01 D left ss∧J ss T wr∧T b∧T r) (fun _ wr=>wr.rangeLeft b r)
 case atStart =>
  exact ⟨_,_,[],_,hrg0,y01.start D,HA.out.go _ _ _ _ _ HJ.out HX.out,.inl HK.out.1,.inr rfl⟩
 case round =>
  obtain ⟨left,cnt,ss,T,hrg,hC,hJs,hTb,hTr⟩:=hrel
  have HC:=qh hC;clear hC
  have HT:=qh (And.intro hTb hTr);clear hTb hTr
  have HJS:=qh hJs;clear hJs
  gi_wp2_with (first
   | (gi_at_next;refine wpListIn_next_ranges _ rfl _ rfl 36 z54 y37 (Value.int .u64) id (fun key kl hk=>by obtain ⟨x,hx,_⟩:=Maps.keyOf_int_inv Tryz.underlying36 hk;exact ⟨x,hx⟩) (fun v _ _=>⟨v,rfl⟩) b r nn _ _ _ rfl hrg ?_ ?_)
   | gi_in)
  ·intro hc0 hl0
   gi_wp2
   go_end0
   exact ⟨⟨_,rfl⟩,.inl ⟨ss,T,HC.out.all hl0,HJS.out⟩⟩
  ·intro x c kl yd yp w2 cnt2 hkey hlk hv hat hrg2 hlt hg2 hs2 hen
   obtain ⟨x',ex,rfl,hwf⟩:=Maps.keyOf_int_inv Tryz.underlying36 hkey
   cases ex
   have HST:=qh (HC.out.step hlk (z54.key hkey) hat)
   have hJ2:J ss T w2:=HA.out.mine _ _ r _ _ HJS.out HT.out.2 (by have:=HK.out.2;have:=HR.out;omega) (y5.of_grown hg2 (fun k e=>by cases e;rfl))
   have hlen:ss.length<nn:=by
    have h1:=HST.out.len
    have h2:=hrg.owns.size_le
    rw [List.length_append,List.length_singleton] at h1
    omega
   obtain ⟨fn,tmps,assign,body,hy,hRd⟩:=HY.out ss x T w2 hJ2 hlen
   unfold xi5 at hy
   have HRG:=qh hrg2
   have HLT:=qh (And.intro hlt hrg.left_eq)
   clear hs2 hJ2 hlen hrg hrg2 hlt hg2 hv hat hlk hkey hwf
   gi_wp2
   refine ⟨fun h=>(by cases h),(RoundIn.anyDepth hRd).mono ?_⟩
   rintro e W3 ⟨hap,(⟨rfl,hJ3⟩ | ⟨rfl,hx3⟩)⟩
   ·have hrg3:=y02 HRG.out hap (fun h=>h HT.out.1) (fun h=>h HT.out.2)
    have HJ3:=qh hJ3;clear hJ3 hap
    gi_wp2
    go_roundw
    case rel=>exact ⟨_,cnt2,ss ++ [x],T,hrg3,HST.out,HJ3.out,HT.out.1,HT.out.2⟩
    case measure=>rw [hrg3.left_eq,HLT.out.2];exact HLT.out.1
   ·have HX3:=qh hx3;clear hx3 hap
    gi_wp2
    refine bodyPost_ret (results_none rfl _ _ _) rfl ?_
    exact ⟨⟨_,rfl⟩,.inr HX3.out⟩
theorem wm5:yg3 y37 222:=⟨enters_of Tryz.func222 (by kernel_rfl) rfl,xp4⟩
set_option maxRecDepth 100000 in
theorem yp8 (mb:Option Nat) (w:World):Calls Tryz.prog 179 #[.map mb] w (fun e w'=>e = .returned (zq1 222 w.heap.size)∧w'=w.alloc (.cells #[.map mb] 228)):=by
 go_enter Tryz.func179,Tryz.ntmps179
 go_wp2_with fail
 go_ret
 exact ⟨rfl,rfl⟩
theorem yn3 {l:List Iv} (h:m5 l) {u z:Iv} (hu:u ∈ l) (hz:z ∈ l):u=z∨u.2+1<z.1∨z.2+1<u.1:=by
 obtain ⟨i,hi⟩:=List.mem_iff_getElem?.1 hu
 obtain ⟨j,hj⟩:=List.mem_iff_getElem?.1 hz
 rcases Nat.lt_trichotomy i j with h1 | h1 | h1
 ·exact .inr (.inl (z59 l h i j u z h1 hi hj))
 ·grind
 ·exact .inr (.inr (z59 l h j i z u h1 hj hi))
theorem xg3 {F:t8} (hF:x9 F) {ks:List Int} (ha:ks.Pairwise (· < ·)) (hm:∀ x:Int,x ∈ ks↔xp3 (flatK F) x∧x≠UM):r8 F=0 :: ks.map (· + 1):=by
 have hU:UM=18446744073709551615:=rfl
 have flat_in:∀ y ∈ flatK F,0≤y.1∧y.1≤y.2∧y.2≤UM:=fun y hy=>by
  obtain ⟨x,hx,hyx⟩:=ze3 hy
  have h1:=(hF x hx).1.all y hyx
  have h2:=z13 x.1 (hF x hx).1.can y hyx
  exact ⟨h1.1.1,h2,h1.2.2⟩
 have hnn:∀ x ∈ ks,0≤x∧x<UM:=fun x hx=>by
  obtain ⟨⟨y,hy,h⟩,hne⟩:=(hm x).1 hx
  grind
 have hasc:(0 :: ks.map (· + 1)).Pairwise (· < ·):=by grind [List.pairwise_cons]
 refine x51 (a8 F) hasc fun x => ?_
 rw [zb8 hF x,List.mem_cons]
 constructor
 ·rintro (h | ⟨h1,h2,h3⟩)
  ·exact .inl h
  ·refine .inr (List.mem_map.2 ⟨x - 1,(hm _).2 ⟨?_,by omega⟩,by omega⟩)
   obtain ⟨y,hy,hc⟩:=xq4 h3
   obtain ⟨z,hz,h4⟩:=yf9 hc
   refine ⟨z,List.mem_flatMap.2 ⟨y,hy,hz⟩,?_⟩
   omega
 ·rintro (h | h)
  ·exact .inl h
  ·obtain ⟨e,he,rfl⟩:=List.mem_map.1 h
   obtain ⟨⟨z,hz,hh⟩,hne⟩:=(hm e).1 he
   have h0:=hnn e he
   refine .inr ⟨by omega,by omega,fun heq => ?_⟩
   obtain ⟨y,hy,hzy⟩:=ze3 hz
   have hb:=zm6 heq y hy
   rw [show e+1 - 1=e by omega] at hb
   have hin:=flat_in z hz
   rcases hh with ⟨h1,h2⟩ | h2
   ·have h3:y9 y.1 (e+1)=true:=(t7 _ _).2 ⟨z,hzy,by omega,by omega⟩
    rw [h3] at hb
    obtain ⟨u,hu,h4,h5⟩:=(t7 _ _).1 hb
    rcases yn3 (hF y hy).1.can hu hzy with e | e | e
    all_goals grind
   ·have h3:y9 y.1 e=true:=(t7 _ _).2 ⟨z,hzy,by omega,by omega⟩
    rw [h3] at hb
    obtain ⟨u,hu,h4,h5⟩:=(t7 _ _).1 hb.symm
    rcases yn3 (hF y hy).1.can hu hzy with e | e | e
    all_goals grind
set_option maxRecDepth 100000 in
set_option maxHeartbeats 4000000 in
theorem w71 (F:t8) (v:Value) (w:World) (hv:z85 w v F) (hF:x9 F) (hs:midI F):Calls Tryz.prog 131 #[v] w (zx9 (r8 F) w):=by
 obtain ⟨i0,hi',hz0,hz1,hz2⟩:=info_parts yl2
 obtain ⟨p,cap,rfl⟩:=hv.shape
 have ho0:d7 (w.alloc (.cells #[.int .u64 0] 36)) w.heap.size (.slice (some ⟨w.heap.size,0,none⟩) 1 1) [0]:=World.ownsRow_lit w #[.int .u64 0] 1 (Nat.le_refl _) (by decide) rfl
 have hb0:=z8 w (.cells #[.int .u64 0] 36)
 obtain ⟨W0,hW0⟩:∃ W0,w.alloc (.cells #[.int .u64 0] 36)=W0:=⟨_,rfl⟩
 rw [hW0] at ho0 hb0
 have K:=qh (wm4 F _ W0 (hv.call hb0) hF hs)
 have KM:=qh yp8
 have HF:=qh hF
 have HFL:=qh hs.2
 have HO:=qh ho0
 have HB:=qh hb0
 have HZ:=qh (show w.heap.size<W0.heap.size by rw [← hW0];simp)
 clear hv hF hs ho0 hb0
 go_enter Tryz.func131,Tryz.ntmps131
 go_wp2_with fail
 refine K.out.mono ?_
 rintro e w1 ⟨b,D,rfl,hown,hD,h1⟩
 have hbn:=z8 w1 (.cells #[.map (some b)] 228)
 obtain ⟨w2,hw2⟩:∃ w2,w1.alloc (.cells #[.map (some b)] 228)=w2:=⟨_,rfl⟩
 have hc:w2.cell? ⟨w1.heap.size,0,none⟩=some (.map (some b)):=by rw [← hw2];simp
 rw [hw2] at hbn
 have KS:=qh (zq2 wm5 w1.heap.size b 3000 D w2 hc (za7 hown (y5.of_below (fun _=>False) hbn) id) (by omega))
 have HW:=qh (And.intro hw2 (z7 h1 hbn))
 have HD:=qh hD
 clear hown hD h1 hbn hc hw2
 unfold zq1 at KS KM
 go_wp2_with fail
 refine (KM.out _ _).mono ?_
 rintro e w3 ⟨rfl,hw3⟩
 rw [HW.out.1] at hw3
 obtain rfl:=hw3
 go_wp2_with fail
 refine KS.out.mono ?_
 rintro e w4 ⟨u,ks,rfl,h1,h2,h3,h4,h5⟩
 have HST:=qh (xg3 HF.out h2 fun x=>(h3 x).trans (HD.out x))
 have HN:=qh (And.intro h1 h5)
 obtain ⟨pn,cn,rfl,hml,_⟩:=id h1
 have hlen:ks.length≤3000:=by
  have e:=congrArg List.length HST.out
  have h5:=zb9 F
  rw [List.length_cons,List.length_map] at e
  have:=HFL.out
  omega
 have hrg:∀ x ∈ ks,0≤x∧x<18446744073709551615:=fun x hx=>by
  have h5:=c9 HF.out (x+1) (by rw [HST.out];exact List.mem_cons_of_mem _ (List.mem_map.2 ⟨x,hx,rfl⟩))
  have hU:UM=18446744073709551615:=rfl
  refine ⟨?_,by omega⟩
  have h6:=a8 F
  rw [HST.out] at h6
  have:=(List.pairwise_cons.1 h6).1 (x+1) (List.mem_map.2 ⟨x,hx,rfl⟩)
  omega
 have HRG:=qh hrg
 have HB4:=qh (And.intro (z7 (z7 HB.out HW.out.2) h4) (z7 HW.out.2 h4))
 have HO4:=qh (HO.out.below HB4.out.2)
 have HNC:=qh hml
 clear hrg h1 h2 h3 h4 hml
 go_wp2_with fail
 go_loopw [3,12] (fun u i wr=>∃ k:Nat,i = .int .i64 k∧k≤ks.length∧d7 wr w.heap.size u (0 :: (ks.take k).map (· + 1))∧Below w.heap.size w wr∧y5 (fun j=>j=w.heap.size∨w4.heap.size≤j) w4 wr∧∀ g,u.ownBlock=some g→g=w.heap.size∨w4.heap.size≤g) (fun _ i _=>ks.length - (intOf i).toNat)
 case atStart=>exact ⟨0,rfl,Nat.zero_le _,HO4.out,HB4.out.1,y5.refl _ _,fun g hg => .inl (Option.some.inj hg).symm⟩
 case round =>
  obtain ⟨k,rfl,hk,hown,hb,hap,hgu⟩:=hrel
  have HBK:=qh hb;clear hb
  have HAP:=qh (And.intro hap hgu);clear hap hgu
  obtain ⟨pu,cu,rfl,_⟩:=y8 hown
  have HOK:=qh hown;clear hown
  by_cases hlt:k<ks.length
  ·obtain ⟨x,hx⟩:∃ x,ks[k]? = some x:=⟨ks[k],by simp [hlt]⟩
   obtain ⟨p',cap',e',_,hcell⟩:=HN.out.1
   cases e'
   obtain ⟨b',o',e2,hcel2⟩:=hcell (by rintro rfl;simp at hlt)
   subst e2
   have c0:=HAP.out.1.cell (hcel2 k x hx) (by have h1:=HN.out.2 b' rfl;have h2:=HW.out.2.size;have h3:=HB.out.size;have h4:=World.block_lt_of_cell? w4 _ (hcel2 k x hx);show ¬ (b'=w.heap.size∨w4.heap.size≤b');have h5:b'<w4.heap.size:=h4;have:=HZ.out;omega)
   have hxr:=HRG.out x (List.mem_of_getElem? hx)
   have hwr:IntKind.u64.wrap (x+1)=x+1:=by simp [IntKind.wrap,IntKind.bits,IntKind.signed];omega
   have HSN:=qh (show 0 :: (ks.take (k+1)).map (· + 1)=(0 :: (ks.take k).map (· + 1)) ++ [x+1] by rw [List.take_add_one,hx];simp)
   have hll:(0 :: (ks.take k).map (· + 1)).length=k+1:=by simp;omega
   have HLL:=qh hll
   have hsz:=HBK.out.size
   have i1:(0:Int)≤(k:Int):=by omega
   have i2:(k:Int)<(ks.length:Int):=by omega
   clear hx hcell hcel2 hxr
   generalize (0 :: (ks.take k).map (· + 1))=L at *
   clear hll
   go_wp2_with (at_builtin;go_loud (refine wpList_append_own_at _ rfl _ _ 147 rfl w.heap.size 36 i0 (.int .u64 0) 1 8 Tryz.underlying147 hi' hz0 hz1 hz2 rfl (by decide) _ _ _ rfl (HOK.out.below (z8 _ _)) ⟨_,0,none⟩ 1 1 [.int .u64 (x+1)] rfl rfl (zr9 _ _ _ _ rfl) (by simp [Value.oneCell']) (by have:=HLL.out;unfold maxLen;omega) (by have:=HLL.out;omega) (by simp;omega) ?_;intro v' w5 hown' hgrow _ hat;obtain ⟨g',cap',rfl⟩:=ownsRow_succ hown';have HO5:=qh hown';clear hown';have HW5:=qh (x8 (y7 HBK.out _) (HOK.out.below (z8 _ _)) hgrow (by simp;omega));have HW6:=qh (And.intro hgrow hat);clear hgrow hat))
   go_roundw
   case rel=>exact ⟨k+1,by go_num,by omega,by rw [HSN.out];simpa [d7,e8] using HO5.out,HW5.out,(HAP.out.1.trans (y5.alloc _ wr _)).trans (y5.of_grown HW6.out.1 fun r e=>HAP.out.2 r e),fun g hg=>by
    rcases HW6.out.2 with e | e
    ·exact HAP.out.2 g (e ▸ hg)
    ·rw [e] at hg
     have h1:=Option.some.inj hg
     have h2:=HAP.out.1.size
     simp at h1
     exact .inr (by omega)⟩
   case measure=>simp [intOf] <;> omega
  ·obtain rfl:k=ks.length:=by omega
   rw [List.take_length,← HST.out] at HOK ⊢
   go_wp2_with fail
   go_ret
   exact ⟨_,rfl,HOK.out,HBK.out⟩
end
end Go.Proofs.YtchndljcahjldaaGreatDoor
