/- Lists of intervals as sets of numbers: plain mathematics. -/
import Derived.Test.YtchndljcahjldaaGreatDoorKLaw
namespace Go.Proofs.YtchndljcahjldaaGreatDoor
section
abbrev Iv:=Int × Int
abbrev x6:=List (Int × Int × List Iv)
abbrev u9:=List (List Iv × x6)
def inI (y:Iv) (x:Int):Bool:=decide (y.1≤x) && decide (x≤y.2)
def y8 (l:List Iv) (x:Int):Bool:=l.any fun y=>inI y x
theorem yd9 (y:Iv) (x:Int):inI y x=true↔y.1≤x∧x≤y.2:=by unfold inI;simp
theorem v6 (l:List Iv) (x:Int):y8 l x=true↔∃ y ∈ l,y.1≤x∧x≤y.2:=by
 unfold y8;rw [List.any_eq_true];simp only [yd9]
theorem yu7 (y:Iv) (l:List Iv) (x:Int):y8 (y :: l) x=(inI y x || y8 l x):=rfl
theorem d7 (l m:List Iv) (x:Int):y8 (l++m) x=(y8 l x || y8 m x):=List.any_append ..
theorem wh1 {l m:List Iv} (h:∀ x,y8 l x=true↔y8 m x=true):∀ x,y8 l x=y8 m x:=fun x=>Bool.eq_iff_iff.2 (h x)
def z41 (l:List Iv) (k:Nat):Int:=
 match l[k]? with
 | none=>0
 | some x=>if x.1≤x.2 then (if k=0 then 0 else match l[k - 1]? with | none=>0 | some y=>if y.2+1<x.1 then 0 else 3) else 2
def zr7 (l:List Iv):Option (Int × Nat):=(List.range l.length).findSome? fun k=>if z41 l k=0 then none else some (z41 l k,k)
theorem yl1 {l:List Iv} (h:∀ k,k<l.length→z41 l k=0):zr7 l=none:=by
 unfold zr7
 rw [List.findSome?_eq_none_iff]
 intro k hk
 rw [if_pos (h k (by simpa using hk))]
theorem y23 {l:List Iv} {k:Nat} (hk:k<l.length) (h:∀ j,j<k→z41 l j=0) (hb:z41 l k≠0):zr7 l=some (z41 l k,k):=by
 unfold zr7
 obtain ⟨m,hm⟩:∃ m,l.length=k+(m+1):=⟨l.length - k - 1,by omega⟩
 rw [hm,List.range_add,List.findSome?_append]
 have h1:(List.range k).findSome? (fun k=>if z41 l k=0 then none else some (z41 l k,k))=none:=by
  rw [List.findSome?_eq_none_iff]
  intro j hj
  rw [if_pos (h j (by simpa using hj))]
 rw [h1,List.range_succ_eq_map,List.map_cons,List.findSome?_cons,if_neg (by simpa using hb)]
 rfl
theorem x03 {l:List Iv} (h:zr7 l=none):∀ k,k<l.length→z41 l k=0:=by
 intro k hk
 unfold zr7 at h
 rw [List.findSome?_eq_none_iff] at h
 have:=h k (by simpa using hk)
 by_cases e:z41 l k=0
 ·exact e
 ·rw [if_neg e] at this;cases this
theorem z52 {l:List Iv} {k:Nat} {x:Iv} (h:l[k]? = some x) (hx:¬ x.1≤x.2):z41 l k=2:=by unfold z41;rw [h];simp only;rw [if_neg hx]
theorem zu2 {l:List Iv} {x:Iv} (h:l[0]? = some x) (hx:x.1≤x.2):z41 l 0=0:=by unfold z41;rw [h];simp only;rw [if_pos hx];rfl
theorem zj9 {l:List Iv} {k:Nat} {x y:Iv} (h:l[k+1]? = some x) (hy:l[k]? = some y) (hx:x.1≤x.2) (hg:¬ y.2+1<x.1):z41 l (k+1)=3:=by
 unfold z41;rw [h];simp only;rw [if_pos hx,if_neg (by omega),Nat.add_sub_cancel,hy];simp only;rw [if_neg hg]
theorem zr8 {l:List Iv} {k:Nat} {x y:Iv} (h:l[k+1]? = some x) (hy:l[k]? = some y) (hx:x.1≤x.2) (hg:y.2+1<x.1):z41 l (k+1)=0:=by
 unfold z41;rw [h];simp only;rw [if_pos hx,if_neg (by omega),Nat.add_sub_cancel,hy];simp only;rw [if_pos hg]
def q7:List Iv→Prop
 | []=>True
 | x :: l=>x.1≤x.2∧(∀ y,l.head? = some y→x.2+1<y.1)∧q7 l
theorem y24:∀ (l:List Iv),(∀ k,k<l.length→z41 l k=0)→q7 l
 | [],_=>trivial
 | x :: l,h=>by
   have h0:=h 0 (by simp)
   have hx:x.1≤x.2:=by
    apply Classical.byContradiction;intro hn
    rw [z52 (x:=x) (by simp) hn] at h0;cases h0
   refine ⟨hx,?_,y24 l ?_⟩
   ·intro y hy
    have h1:l[0]? = some y:=by rw [← List.head?_eq_getElem?];exact hy
    have hl:0<l.length:=by cases l with | nil=>cases hy | cons _ _=>simp
    have h2:=h 1 (by simp;omega)
    apply Classical.byContradiction;intro hn
    by_cases hy':y.1≤y.2
    ·rw [zj9 (x:=y) (y:=x) (by simpa using h1) (by simp) hy' hn] at h2;cases h2
    ·rw [z52 (x:=y) (by simpa using h1) hy'] at h2;cases h2
   ·intro k hk
    have h2:=h (k+1) (by simp;omega)
    obtain ⟨z,hz⟩:∃ z,l[k]? = some z:=⟨l[k],by simp [hk]⟩
    have hz':(x :: l)[k+1]? = some z:=by simpa using hz
    have hz1:z.1≤z.2:=by
     apply Classical.byContradiction;intro hn
     rw [z52 hz' hn] at h2;cases h2
    cases k with
    | zero=>exact zu2 hz hz1
    | succ j =>
      obtain ⟨y,hy⟩:∃ y,l[j]? = some y:=⟨l[j],by simp [show j<l.length by omega]⟩
      have hy':(x :: l)[j+1]? = some y:=by simpa using hy
      apply zr8 hz hy hz1
      apply Classical.byContradiction;intro hn
      rw [zj9 hz' hy' hz1 hn] at h2;cases h2
theorem y25:∀ (l:List Iv),q7 l→∀ k,k<l.length→z41 l k=0
 | [],_,k,hk=>absurd hk (Nat.not_lt_zero k)
 | x :: l,⟨hx,hh,hl⟩,k,hk=>by
   cases k with
   | zero=>exact zu2 (x:=x) (by simp) hx
   | succ j =>
     have hj:j<l.length:=by simpa using hk
     obtain ⟨z,hz⟩:∃ z,l[j]? = some z:=⟨l[j],by simp [hj]⟩
     have ih:=y25 l hl j hj
     have hz1:z.1≤z.2:=by
      apply Classical.byContradiction;intro hn
      rw [z52 hz hn] at ih;cases ih
     cases j with
     | zero=>exact zr8 (x:=z) (y:=x) (by simpa using hz) (by simp) hz1 (hh z (by rw [List.head?_eq_getElem?];exact hz))
     | succ i =>
       obtain ⟨y,hy⟩:∃ y,l[i]? = some y:=⟨l[i],by simp [show i<l.length by omega]⟩
       refine zr8 (x:=z) (y:=y) (by simpa using hz) (by simpa using hy) hz1 ?_
       apply Classical.byContradiction;intro hn
       rw [zj9 hz hy hz1 hn] at ih;cases ih
theorem y68 (l:List Iv):zr7 l=none↔q7 l:=⟨fun h=>y24 l (x03 h),fun h=>yl1 (y25 l h)⟩
theorem z92:∀ (l:List Iv) (b:Int),q7 l→(∀ y,l.head? = some y→b<y.1)→∀ y ∈ l,b<y.1
 | [],_,_,_,y,h=>absurd h (by simp)
 | x :: l,b,⟨hx,hh,hl⟩,hb,y,hy=>by
   have hbx:=hb x rfl
   rcases List.mem_cons.1 hy with rfl | hy
   ·exact hbx
   ·have:=z92 l (x.2+1) hl hh y hy
    omega
theorem z06:∀ (l:List Iv),q7 l→∀ y ∈ l,y.1≤y.2
 | [],_,y,h=>absurd h (by simp)
 | x :: l,⟨hx,_,hl⟩,y,hy=>by
   rcases List.mem_cons.1 hy with rfl | hy
   ·exact hx
   ·exact z06 l hl y hy
theorem z93:∀ (l m:List Iv),q7 l→q7 m→(∀ x,y8 l x=y8 m x)→l=m
 | [],[],_,_,_=>rfl
 | [],y :: m,_,⟨hy,_⟩,h=>by
   have:=(h y.1).symm
   rw [(v6 _ _).2 ⟨y,by simp,Int.le_refl _,hy⟩] at this
   cases this
 | x :: l,[],⟨hx,_⟩,_,h=>by
   have:=h x.1
   rw [(v6 _ _).2 ⟨x,by simp,Int.le_refl _,hx⟩] at this
   cases this
 | x :: l,y :: m,⟨hx,hxh,hl⟩,⟨hy,hyh,hm⟩,h=>by
   have bl:=z92 l _ hl hxh
   have bm:=z92 m _ hm hyh
   have H:∀ z,(∃ u ∈ x :: l,u.1≤z∧z≤u.2)↔(∃ u ∈ y :: m,u.1≤z∧z≤u.2):=fun z=>by rw [← v6,← v6,h z]
   have e1:x.1=y.1:=by
    obtain ⟨u,hu,h1,h2⟩:=(H x.1).1 ⟨x,by simp,Int.le_refl _,hx⟩
    obtain ⟨v,hv,h3,h4⟩:=(H y.1).2 ⟨y,by simp,Int.le_refl _,hy⟩
    have k1:y.1≤x.1:=by
     rcases List.mem_cons.1 hu with rfl | hu
     ·exact h1
     ·have:=bm u hu;omega
    have k2:x.1≤y.1:=by
     rcases List.mem_cons.1 hv with rfl | hv
     ·exact h3
     ·have:=bl v hv;omega
    omega
   have e2:x.2=y.2:=by
    apply Classical.byContradiction;intro hne
    by_cases hlt:x.2<y.2
    ·obtain ⟨u,hu,h1,h2⟩:=(H (x.2+1)).2 ⟨y,by simp,by omega,by omega⟩
     rcases List.mem_cons.1 hu with rfl | hu
     ·omega
     ·have:=bl u hu;omega
    ·obtain ⟨u,hu,h1,h2⟩:=(H (y.2+1)).1 ⟨x,by simp,by omega,by omega⟩
     rcases List.mem_cons.1 hu with rfl | hu
     ·omega
     ·have:=bm u hu;omega
   have exy:x=y:=Prod.ext e1 e2
   subst exy
   refine congrArg _ (z93 l m hl hm (wh1 fun z => ?_))
   rw [v6,v6]
   constructor
   ·rintro ⟨u,hu,h1,h2⟩
    obtain ⟨v,hv,h3,h4⟩:=(H z).1 ⟨u,List.mem_cons_of_mem _ hu,h1,h2⟩
    rcases List.mem_cons.1 hv with rfl | hv
    ·have:=bl u hu;omega
    ·exact ⟨v,hv,h3,h4⟩
   ·rintro ⟨u,hu,h1,h2⟩
    obtain ⟨v,hv,h3,h4⟩:=(H z).2 ⟨u,List.mem_cons_of_mem _ hu,h1,h2⟩
    rcases List.mem_cons.1 hv with rfl | hv
    ·have:=bm u hu;omega
    ·exact ⟨v,hv,h3,h4⟩
theorem z72:∀ (l:List Iv) (s:Iv),q7 (l ++ [s])↔q7 l∧s.1≤s.2∧(∀ y,l.getLast? = some y→y.2+1<s.1)
 | [],s=>by simp [q7]
 | [x],s=>by
   simp only [List.cons_append,List.nil_append,q7,List.head?_cons,List.head?_nil,List.getLast?_singleton,Option.some.injEq,forall_eq']
   constructor
   ·rintro ⟨h1,h2,h3,-⟩;exact ⟨⟨h1,by simp,trivial⟩,h3,h2⟩
   ·rintro ⟨⟨h1,-⟩,h3,h2⟩;exact ⟨h1,h2,h3,by simp,trivial⟩
 | x :: z :: l,s=>by
   have ih:=z72 (z :: l) s
   have e:(x :: z :: l).getLast? = (z :: l).getLast? := by simp [List.getLast?_cons]
   rw [e]
   show q7 (x :: ((z :: l) ++ [s]))↔_
   unfold q7
   rw [ih]
   simp only [List.cons_append,List.head?_cons,Option.some.injEq,forall_eq']
   constructor
   ·rintro ⟨h1,h2,h3,h4,h5⟩;exact ⟨⟨h1,h2,h3⟩,h4,h5⟩
   ·rintro ⟨⟨h1,h2,h3⟩,h4,h5⟩;exact ⟨h1,h2,h3,h4,h5⟩
theorem z68 {l:List Iv} (h:l ≠ []):∃ m y,l=m ++ [y]:=⟨l.dropLast,l.getLast h,(List.dropLast_concat_getLast h).symm⟩
def zh4 (L:List Iv) (s:Iv):List Iv:=
 match L.getLast? with
 | none => [s]
 | some y=>if y.2+1<s.1 then L ++ [s] else L.dropLast ++ [(y.1,if y.2<s.2 then s.2 else y.2)]
theorem y69 (s:Iv):zh4 [] s = [s]:=rfl
theorem zu3 (m:List Iv) (y s:Iv) (h:y.2+1<s.1):zh4 (m ++ [y]) s=m ++ [y] ++ [s]:=by
 unfold zh4;rw [List.getLast?_concat];simp only;rw [if_pos h]
theorem zm1 (m:List Iv) (y s:Iv) (h:¬ y.2+1<s.1):zh4 (m ++ [y]) s=m ++ [(y.1,if y.2<s.2 then s.2 else y.2)]:=by
 unfold zh4;rw [List.getLast?_concat];simp only;rw [if_neg h,List.dropLast_concat]
def z24 (l:List Iv):List Iv:=l.foldl zh4 []
theorem zh5 (l:List Iv) (s:Iv):z24 (l ++ [s])=zh4 (z24 l) s:=by unfold z24;rw [List.foldl_append];rfl
structure wr8 (l L:List Iv):Prop where
 can:q7 L
 has:∀ x,y8 L x=y8 l x
 lo:∀ y ∈ L,∃ z ∈ l,y.1=z.1
theorem wh2:wr8 [] []:=⟨trivial,fun _=>rfl,fun _ h=>absurd h (by simp)⟩
theorem w39 {l L:List Iv} {s:Iv} (h:wr8 l L) (hs:s.1≤s.2) (hle:∀ z ∈ l,z.1≤s.1):wr8 (l ++ [s]) (zh4 L s):=by
 by_cases hL:L = []
 ·subst hL
  rw [y69]
  refine ⟨⟨hs,by simp,trivial⟩,fun x => ?_,fun y hy=>⟨s,by simp,by rw [List.mem_singleton.1 hy]⟩⟩
  rw [d7,← h.has x];rfl
 ·obtain ⟨m,y,rfl⟩:=z68 hL
  obtain ⟨hm,hy,hlast⟩:=(z72 m y).1 h.can
  have hys:y.1≤s.1:=by
   obtain ⟨z,hz,e⟩:=h.lo y (by simp)
   have:=hle z hz;omega
  by_cases hf:y.2+1<s.1
  ·rw [zu3 m y s hf]
   refine ⟨(z72 _ s).2 ⟨h.can,hs,fun u hu => ?_⟩,fun x => ?_,fun u hu => ?_⟩
   ·rw [List.getLast?_concat] at hu;cases hu;exact hf
   ·rw [d7 (m ++ [y]) [s],d7 l [s],h.has x]
   ·rcases List.mem_append.1 hu with hu | hu
    ·obtain ⟨z,hz,e⟩:=h.lo u hu;exact ⟨z,by simp [hz],e⟩
    ·exact ⟨s,by simp,by rw [List.mem_singleton.1 hu]⟩
  ·rw [zm1 m y s hf]
   refine ⟨(z72 _ _).2 ⟨hm,?_,fun u hu => ?_⟩,fun x => ?_,fun u hu => ?_⟩
   ·show y.1≤if y.2<s.2 then s.2 else y.2
    split <;> omega
   ·exact hlast u hu
   ·rw [d7,d7,← h.has x,d7,Bool.or_assoc]
    congr 1
    unfold y8 inI
    simp only [List.any_cons,List.any_nil,Bool.or_false]
    rw [Bool.eq_iff_iff]
    simp
    split <;> omega
   ·rcases List.mem_append.1 hu with hu | hu
    ·obtain ⟨z,hz,e⟩:=h.lo u (by simp [hu]);exact ⟨z,by simp [hz],e⟩
    ·obtain ⟨z,hz,e⟩:=h.lo y (by simp)
     exact ⟨z,by simp [hz],by rw [List.mem_singleton.1 hu];exact e⟩
def zm2 (l:List Iv):Prop:=l.Pairwise fun a b=>a.1≤b.1
theorem y70:∀ (n:Nat) (l:List Iv),l.length=n→zm2 l→(∀ y ∈ l,y.1≤y.2)→wr8 l (z24 l):=by
 intro n
 induction n with
 | zero=>intro l hl _ _;rw [List.eq_nil_of_length_eq_zero hl];exact wh2
 | succ n ih =>
   intro l hl hs ho
   obtain ⟨m,s,rfl⟩:=z68 (l:=l) (by intro h;subst h;cases hl)
   have hp:=List.pairwise_append.1 hs
   rw [zh5]
   exact w39 (ih m (by simpa using hl) hp.1 fun y hy=>ho y (by simp [hy])) (ho s (by simp)) fun z hz=>hp.2.2 z hz s (by simp)
def yl2 (l:List Iv):List Iv:=z24 (l.mergeSort fun a b=>decide (a.1≤b.1))
theorem y71 (l:List Iv) (ho:∀ y ∈ l,y.1≤y.2):q7 (yl2 l)∧∀ x,y8 (yl2 l) x=y8 l x:=by
 have hp:(l.mergeSort fun a b=>decide (a.1≤b.1)).Perm l:=List.mergeSort_perm _ _
 have hs:zm2 (l.mergeSort fun a b=>decide (a.1≤b.1)):=by
  have:=List.pairwise_mergeSort (le:=fun a b:Iv=>decide (a.1≤b.1)) (by intro a b c h1 h2;simp at *;omega) (by intro a b;simp;omega) l
  exact this.imp (by intro a b h;simpa using h)
 have hi:=y70 _ _ rfl hs (fun y hy=>ho y (hp.mem_iff.1 hy))
 refine ⟨hi.can,fun x => ?_⟩
 rw [show yl2 l=z24 (l.mergeSort fun a b=>decide (a.1≤b.1)) from rfl,hi.has x]
 unfold y8
 exact Bool.eq_iff_iff.2 (by simp only [List.any_eq_true,hp.mem_iff])
theorem xm1 {l d:List Iv} (hp:d.Perm l) (hs:zm2 d) (ho:∀ y ∈ l,y.1≤y.2):z24 d=yl2 l:=by
 have hi:=y70 _ _ rfl hs (fun y hy=>ho y (hp.mem_iff.1 hy))
 have hn:=y71 l ho
 refine z93 _ _ hi.can hn.1 fun x => ?_
 rw [hi.has x,hn.2 x]
 unfold y8
 exact Bool.eq_iff_iff.2 (by simp only [List.any_eq_true,hp.mem_iff])
theorem xb4 {l m:List Iv} (ho:∀ y ∈ l,y.1≤y.2) (hm:q7 m) (h:∀ x,y8 m x=y8 l x):m=yl2 l:=
 z93 _ _ hm (y71 l ho).1 fun x=>by rw [h x,(y71 l ho).2 x]
def j9 (l:List Iv) (x:Int):Nat:=l.findIdx fun y=>decide (x≤y.2)
def zc8 (l:List Iv) (x:Int):Int:=match l[j9 l x]? with | some y=>if inI y x then (j9 l x:Int) else -1 | none => -1
theorem z47:∀ (l:List Iv),q7 l→∀ (i j:Nat) (y z:Iv),i<j→l[i]? = some y→l[j]? = some z→y.2+1<z.1
 | [],_,i,j,y,z,_,h,_=>by simp at h
 | x :: l,⟨hx,hh,hl⟩,i,j,y,z,hij,hi,hj=>by
   obtain ⟨j,rfl⟩:∃ k,j=k+1:=⟨j - 1,by omega⟩
   have hj':l[j]? = some z:=by simpa using hj
   cases i with
   | zero =>
     have:x=y:=by simpa using hi
     subst this
     exact z92 l _ hl hh z (List.mem_of_getElem? hj')
   | succ i=>exact z47 l hl i j y z (by omega) (by simpa using hi) hj'
theorem w40 {l:List Iv} (h:q7 l) (x:Int):(decide (0≤zc8 l x))=y8 l x:=by
 cases hf:l[j9 l x]? with
 | none =>
   have hv:zc8 l x = -1:=by unfold zc8;rw [hf]
   have hlen:l.length≤j9 l x:=List.getElem?_eq_none_iff.1 hf
   have:y8 l x=false:=by
    rw [Bool.eq_false_iff]
    intro hh
    obtain ⟨y,hy,h1,h2⟩:=(v6 _ _).1 hh
    have hlt:j9 l x<l.length:=List.findIdx_lt_length_of_exists ⟨y,hy,by simpa using h2⟩
    omega
   rw [this,hv];rfl
 | some y =>
   have hlt:j9 l x<l.length:=(List.getElem?_eq_some_iff.1 hf).1
   rcases Bool.eq_false_or_eq_true (inI y x) with hi | hi
   ·have hv:zc8 l x=(j9 l x:Int):=by unfold zc8;rw [hf];simp only;rw [if_pos hi]
    rw [hv,(v6 l x).2 ⟨y,List.mem_of_getElem? hf,(yd9 y x).1 hi⟩]
    simp
   ·have hv:zc8 l x = -1:=by unfold zc8;rw [hf];simp only;rw [if_neg (by rw [hi];simp)]
    have:y8 l x=false:=by
     rw [Bool.eq_false_iff]
     intro hh
     obtain ⟨z,hz,h1,h2⟩:=(v6 _ _).1 hh
     obtain ⟨j,hj⟩:=List.mem_iff_getElem?.1 hz
     have hge:j9 l x≤j:=by
      apply Classical.byContradiction;intro hn
      have:=List.not_of_lt_findIdx (p:=fun y:Iv=>decide (x≤y.2)) (xs:=l) (i:=j) (show j<j9 l x by omega)
      have ej:l[j]'(by omega)=z:=(List.getElem?_eq_some_iff.1 hj).2
      rw [ej] at this
      simp at this
      omega
     have hy2:x≤y.2:=by
      have:=List.findIdx_getElem (p:=fun y:Iv=>decide (x≤y.2)) (xs:=l) (w:=hlt)
      have ey:l[j9 l x]'hlt=y:=(List.getElem?_eq_some_iff.1 hf).2
      unfold j9 at ey
      rw [ey] at this
      simpa using this
     rcases Nat.lt_or_eq_of_le hge with hlt2 | heq
     ·have:=z47 l h _ _ y z hlt2 hf hj
      have:=z06 l h z hz
      omega
     ·rw [← heq,hf] at hj
      cases hj
      rw [(yd9 y x).2 ⟨h1,h2⟩] at hi
      cases hi
    rw [this,hv]
    rfl
theorem w41 (l:List Iv) (x:Int) : -1≤zc8 l x:=by
 unfold zc8
 split
 ·split <;> omega
 ·omega
end
section
def zy9 (S:List Int):Prop:=S.Pairwise (· < ·)
def zb8 (S:List Int) (x:Int):List Int:=
 let k:=S.countP fun y=>decide (y≤x)
 if k=0 then x :: S else if S[k - 1]? = some x then S else S.take k++x :: S.drop k
theorem y72:∀ (S:List Int) (x:Int),zy9 S→(∀ y ∈ S.take (S.countP fun y=>decide (y≤x)),y≤x)∧(∀ y ∈ S.drop (S.countP fun y=>decide (y≤x)),x<y)
 | [],x,_=>by simp
 | a :: S,x,h=>by
   obtain ⟨h1,h2⟩:=List.pairwise_cons.1 h
   have ih:=y72 S x h2
   by_cases hax:a≤x
   ·rw [List.countP_cons_of_pos (by simpa using hax)]
    simp only [List.take_succ_cons,List.drop_succ_cons,List.mem_cons]
    exact ⟨fun y hy=>by rcases hy with rfl | hy;exact hax;exact ih.1 y hy,ih.2⟩
   ·have h0:S.countP (fun y=>decide (y≤x))=0:=by
     rw [List.countP_eq_zero]
     intro y hy
     have:=h1 y hy
     simp;omega
    rw [List.countP_cons_of_neg (by simpa using hax),h0]
    refine ⟨by simp,fun y hy => ?_⟩
    rcases List.mem_cons.1 (by simpa using hy) with rfl | hy
    ·omega
    ·have:=h1 y hy;omega
theorem wr9 {S:List Int} (h:zy9 S) (x y:Int):y ∈ zb8 S x↔y ∈ S∨y=x:=by
 have _:=h
 unfold zb8
 simp only
 split
 ·simp [or_comm]
 ·split
  ·rename_i hx
   have:=List.mem_of_getElem? hx
   constructor
   ·exact fun h => .inl h
   ·rintro (h | rfl)
    ·exact h
    ·exact this
  ·rw [List.mem_append,List.mem_cons]
   conv=>rhs;rw [← List.take_append_drop (S.countP fun y=>decide (y≤x)) S,List.mem_append]
   constructor
   ·rintro (h | h | h)
    ·exact .inl (.inl h)
    ·exact .inr h
    ·exact .inl (.inr h)
   ·rintro ((h | h) | h)
    ·exact .inl h
    ·exact .inr (.inr h)
    ·exact .inr (.inl h)
theorem ws0 {S:List Int} (h:zy9 S) (x:Int):zy9 (zb8 S x):=by
 have hs:=y72 S x h
 unfold zb8
 simp only
 split
 ·rename_i h0
  refine List.pairwise_cons.2 ⟨fun y hy => ?_,h⟩
  rw [h0] at hs
  exact hs.2 y (by simpa using hy)
 ·rename_i h0
  split
  ·exact h
  ·rename_i hx
   have hd:zy9 (S.drop (S.countP fun y=>decide (y≤x))):=h.sublist (List.drop_sublist _ _)
   have ht:zy9 (S.take (S.countP fun y=>decide (y≤x))):=h.sublist (List.take_sublist _ _)
   refine List.pairwise_append.2 ⟨ht,List.pairwise_cons.2 ⟨hs.2,hd⟩,fun a ha b hb => ?_⟩
   have hle:=hs.1 a ha
   rcases List.mem_cons.1 hb with rfl | hb
   ·apply Classical.byContradiction;intro hn
    obtain rfl:a=b:=by omega
    apply hx
    obtain ⟨j,hj⟩:=List.mem_iff_getElem?.1 ha
    have hjk:j<S.countP (fun y=>decide (y≤a)):=by
     have:=(List.getElem?_eq_some_iff.1 hj).1
     simp at this;omega
    have hjS:S[j]? = some a:=by rw [List.getElem?_take] at hj;rw [if_pos hjk] at hj;exact hj
    rcases Nat.lt_or_ge j (S.countP (fun y=>decide (y≤a)) - 1) with hlt | hge
    ·have hk1:S.countP (fun y=>decide (y≤a)) - 1<S.length:=by have:=List.countP_le_length (p:=fun y:Int=>decide (y≤a)) (l:=S);omega
     have hz:S[S.countP (fun y=>decide (y≤a)) - 1]? = some (S[S.countP (fun y=>decide (y≤a)) - 1]):=by simp [hk1]
     have hz2:=hs.1 _ (show S[S.countP (fun y=>decide (y≤a)) - 1] ∈ S.take (S.countP fun y=>decide (y≤a)) from List.mem_of_getElem? (i:=S.countP (fun y=>decide (y≤a)) - 1) (by rw [List.getElem?_take,if_pos (by omega)];exact hz))
     have hlt2:S[j]'(by omega)<S[S.countP (fun y=>decide (y≤a)) - 1]:=(List.pairwise_iff_getElem.1 h) j _ (by omega) hk1 hlt
     have e:S[j]'(by omega)=a:=(List.getElem?_eq_some_iff.1 hjS).2
     omega
    ·rw [show S.countP (fun y=>decide (y≤a)) - 1=j by omega];exact hjS
   ·have:=hs.2 b hb;omega
def zg1 (U:Int) (l:List Iv):List Int:=0 :: l.flatMap fun y=>if y.2<U then [y.1,y.2+1] else [y.1]
theorem w42 (U:Int) (l:List Iv) (y:Iv):zg1 U (l ++ [y])=zg1 U l++if y.2<U then [y.1,y.2+1] else [y.1]:=by
 unfold zg1;simp [List.flatMap_append]
def s8 (U:Int) (l:List Iv):List Int:=(zg1 U l).foldl zb8 []
theorem zk0:∀ (R S:List Int),zy9 S→zy9 (R.foldl zb8 S)∧∀ y,y ∈ R.foldl zb8 S↔y ∈ S∨y ∈ R
 | [],S,h=>⟨h,by simp⟩
 | x :: R,S,h=>by
   have ih:=zk0 R (zb8 S x) (ws0 h x)
   refine ⟨ih.1,fun y => ?_⟩
   rw [List.foldl_cons,ih.2 y,wr9 h x y,List.mem_cons,or_assoc]
theorem zf4 (U:Int) (l:List Iv):zy9 (s8 U l):=(zk0 _ _ List.Pairwise.nil).1
theorem zf5 (U:Int) (l:List Iv) (y:Int):y ∈ s8 U l↔y=0∨∃ z ∈ l,y=z.1∨(z.2<U∧y=z.2+1):=by
 unfold s8
 rw [(zk0 _ _ List.Pairwise.nil).2 y]
 unfold zg1
 simp only [List.not_mem_nil,false_or,List.mem_cons,List.mem_flatMap]
 constructor
 ·rintro (h | ⟨z,hz,h⟩)
  ·exact .inl h
  ·right
   refine ⟨z,hz,?_⟩
   by_cases hu:z.2<U
   ·rw [if_pos hu] at h
    simp at h
    rcases h with h | h
    ·exact .inl h
    ·exact .inr ⟨hu,h⟩
   ·rw [if_neg hu] at h
    exact .inl (by simpa using h)
 ·rintro (h | ⟨z,hz,h⟩)
  ·exact .inl h
  ·right
   refine ⟨z,hz,?_⟩
   rcases h with rfl | ⟨hu,rfl⟩
   ·split <;> simp
   ·rw [if_pos hu];simp
def q6 (U:Int) (S:List Int) (k:Nat):Int:=match S[k]? with | some x=>x | none=>U+1
def z59 (U:Int) (S:List Int) (k:Nat):Iv:=(S.getD k 0,q6 U S (k+1) - 1)
def yl3 (L:List Iv) (s:Iv):List Iv:=
 match L.getLast? with
 | none => [s]
 | some y=>if y.2+1=s.1 then L.dropLast ++ [(y.1,s.2)] else L ++ [s]
theorem xb5 (s:Iv):yl3 [] s = [s]:=rfl
theorem zu4 (m:List Iv) (y s:Iv) (h:y.2+1=s.1):yl3 (m ++ [y]) s=m ++ [(y.1,s.2)]:=by
 unfold yl3;rw [List.getLast?_concat];simp only;rw [if_pos h,List.dropLast_concat]
theorem y26 (m:List Iv) (y s:Iv) (h:¬ y.2+1=s.1):yl3 (m ++ [y]) s=m ++ [y] ++ [s]:=by
 unfold yl3;rw [List.getLast?_concat];simp only;rw [if_neg h]
theorem yu8 {U:Int} {S:List Int} (h:zy9 S) (hU:∀ y ∈ S,y≤U) (k:Nat) (hk:k<S.length):S.getD k 0<q6 U S (k+1):=by
 have e:S.getD k 0=S[k]:=by simp [hk]
 rw [e]
 unfold q6
 by_cases h2:k+1<S.length
 ·rw [show S[k+1]? = some S[k+1] by simp [h2]]
  simp only
  exact (List.pairwise_iff_getElem.1 h) k (k+1) hk h2 (by omega)
 ·rw [show S[k+1]? = none from List.getElem?_eq_none_iff.2 (by omega)]
  simp only
  have:=hU S[k] (List.getElem_mem hk)
  omega
theorem xb6 {U:Int} {S:List Int} {k:Nat} (hk:k<S.length):q6 U S k=S.getD k 0:=by
 unfold q6;rw [show S[k]? = some S[k] by simp [hk]];simp [hk]
theorem xb7 {U:Int} {S:List Int} (h:zy9 S) (k:Nat) (hk:k<S.length) (y z:Int) (hy:y ∈ S) (h1:S.getD k 0<y) (h2:z<q6 U S (k+1)):z<y:=by
 have e:S.getD k 0=S[k]:=by simp [hk]
 rw [e] at h1
 obtain ⟨j,hj⟩:=List.mem_iff_getElem?.1 hy
 obtain ⟨hjl,ej⟩:=List.getElem?_eq_some_iff.1 hj
 have hkj:k<j:=by
  apply Classical.byContradiction;intro hn
  rcases Nat.lt_or_eq_of_le (Nat.le_of_not_lt hn) with hlt | heq
  ·have:=(List.pairwise_iff_getElem.1 h) j k hjl hk hlt;omega
  ·subst heq;omega
 have hk1:k+1<S.length:=by omega
 unfold q6 at h2
 rw [show S[k+1]? = some S[k+1] by simp [hk1]] at h2
 simp only at h2
 rcases Nat.lt_or_eq_of_le hkj with hlt | heq
 ·have:S[k+1]<S[j]:=(List.pairwise_iff_getElem.1 h) (k+1) j hk1 hjl hlt
  omega
 ·subst heq
  have:z<S[k+1]:=h2
  have e3:S[k+1]=y:=ej
  omega
end
section
def goP (U:Int) (P:Int→Bool) (S:List Int):Nat→List Iv
 | 0 => []
 | k+1=>if P (S.getD k 0) then yl3 (goP U P S k) (z59 U S k) else goP U P S k
structure v75 (U:Int) (P:Int→Bool) (S:List Int) (k:Nat) (out:List Iv):Prop where
 can:q7 out
 has:∀ x,y8 out x=(decide (x<q6 U S k) && P x)
 low:∀ y ∈ out,y.2<q6 U S k
theorem ws1 {U:Int} {P:Int→Bool} {S:List Int} (ha:zy9 S) (hz:(0:Int) ∈ S) (h0:∀ y ∈ S,0≤y) (hU:∀ y ∈ S,y≤U) (hneg:∀ x,x<0→P x=false)
 (hc:∀ k,k<S.length→∀ z,S.getD k 0≤z→z<q6 U S (k+1)→z≤U→P z=P (S.getD k 0)):∀ k,k≤S.length→v75 U P S k (goP U P S k):=by
 intro k
 induction k with
 | zero =>
   intro _
   refine ⟨trivial,fun x => ?_,fun y h=>absurd h (by simp [goP])⟩
   show false=_
   symm
   rw [Bool.and_eq_false_iff]
   by_cases hx:x<q6 U S 0
   ·right
    have hb0:q6 U S 0=0:=by
     have hm:=hz
     have hne:0<S.length:=List.length_pos_of_mem hm
     rw [xb6 hne]
     have e:(S).getD 0 0=(S)[0]:=by simp [hne]
     rw [e]
     have h1:=h0 _ (List.getElem_mem hne)
     obtain ⟨j,hj⟩:=List.mem_iff_getElem?.1 hm
     obtain ⟨hjl,ej⟩:=List.getElem?_eq_some_iff.1 hj
     rcases Nat.eq_zero_or_pos j with rfl | hj0
     ·omega
     ·have:=(List.pairwise_iff_getElem.1 ha) 0 j hne hjl hj0;omega
    exact hneg x (by omega)
   ·left;simpa using hx
 | succ k ih =>
   intro hk
   have hk':k<S.length:=by omega
   have ih:=ih (by omega)
   have hlt:=yu8 ha hU k hk'
   have hbk:=xb6 (U:=U) hk'
   have hstep:∀ x,x<q6 U S (k+1)→q6 U S k≤x→P x=P ((S).getD k 0):=by
    intro x hx1 hx2
    by_cases hxU:x≤U
    ·exact hc k hk' x (by omega) hx1 hxU
    ·exfalso
     have:q6 U S (k+1)≤U+1:=by
      unfold q6
      split
      ·rename_i y hy
       have:=hU y (List.mem_of_getElem? hy);omega
      ·omega
     omega
   unfold goP
   generalize hS:(S).getD k 0=s at *
   cases hh:P s with
   | false =>
     rw [if_neg (by simp)]
     refine ⟨ih.can,fun x => ?_,fun y hy=>by have:=ih.low y hy;omega⟩
     rw [ih.has x]
     by_cases hx:x<q6 U S k
     ·rw [show decide (x<q6 U S k)=true by simpa using hx,show decide (x<q6 U S (k+1))=true by simp;omega]
     ·rw [show decide (x<q6 U S k)=false by simpa using hx]
      by_cases hx2:x<q6 U S (k+1)
      ·rw [hstep x hx2 (by omega),hh];simp
      ·rw [show decide (x<q6 U S (k+1))=false by simpa using hx2]
   | true =>
     rw [if_pos rfl]
     have hp:z59 U S k=(s,q6 U S (k+1) - 1):=by unfold z59;rw [hS]
     rw [hp]
     have hnew:∀ x,inI (s,q6 U S (k+1) - 1) x=(decide (s≤x) && decide (x<q6 U S (k+1))):=by
      intro x;unfold inI;rw [Bool.eq_iff_iff];simp;omega
     have hall:∀ x,(y8 (goP U P S k) x || inI (s,q6 U S (k+1) - 1) x)=(decide (x<q6 U S (k+1)) && P x):=by
      intro x
      rw [ih.has x,hnew x]
      by_cases hx:x<q6 U S k
      ·rw [show decide (x<q6 U S k)=true by simpa using hx,show decide (x<q6 U S (k+1))=true by simp;omega,show decide (s≤x)=false by simp;omega];simp
      ·rw [show decide (x<q6 U S k)=false by simpa using hx]
       by_cases hx2:x<q6 U S (k+1)
       ·rw [hstep x hx2 (by omega),hh,show decide (x<q6 U S (k+1))=true by simpa using hx2,show decide (s≤x)=true by simp;omega];simp
       ·rw [show decide (x<q6 U S (k+1))=false by simpa using hx2];simp
     by_cases hL:goP U P S k = []
     ·rw [hL,xb5]
      refine ⟨⟨by simp;omega,by simp,trivial⟩,fun x => ?_,fun y hy => ?_⟩
      ·rw [← hall x,hL];simp [y8]
      ·rw [List.mem_singleton.1 hy];simp;omega
     ·obtain ⟨m,y,hm⟩:=z68 hL
      rw [hm] at ih hall ⊢
      obtain ⟨c1,c2,c3⟩:=(z72 m y).1 ih.can
      have hyl:=ih.low y (by simp)
      by_cases hn:y.2+1=s
      ·rw [zu4 m y _ (by simpa using hn)]
       refine ⟨(z72 _ _).2 ⟨c1,by simp;omega,c3⟩,fun x => ?_,fun u hu => ?_⟩
       ·rw [← hall x,d7,d7,Bool.or_assoc]
        congr 1
        unfold y8 inI
        simp only [List.any_cons,List.any_nil,Bool.or_false]
        rw [Bool.eq_iff_iff]
        simp
        omega
       ·rcases List.mem_append.1 hu with hu | hu
        ·have:=ih.low u (by simp [hu]);omega
        ·rw [List.mem_singleton.1 hu];simp;omega
      ·rw [y26 m y _ (by simpa using hn)]
       refine ⟨(z72 _ _).2 ⟨ih.can,by simp;omega,fun u hu => ?_⟩,fun x => ?_,fun u hu => ?_⟩
       ·rw [List.getLast?_concat] at hu;cases hu;simp;omega
       ·rw [← hall x,d7];simp [y8]
       ·rcases List.mem_append.1 hu with hu | hu
        ·have:=ih.low u hu;omega
        ·rw [List.mem_singleton.1 hu];simp;omega
theorem w43 (U:Int) (S:List Int):q6 U S S.length=U+1:=by unfold q6;rw [List.getElem?_eq_none_iff.2 (Nat.le_refl _)]
def okL (U:Int) (l:List Iv):Prop:=∀ y ∈ l,0≤y.1∧y.1≤y.2∧y.2≤U
theorem yu9 {U:Int} {l m:List Iv} (hs:∀ y ∈ l,y ∈ m) (k:Nat) (hk:k<(s8 U m).length) (hb:∀ y ∈ l,y.2≤U) (z:Int) (h1:(s8 U m).getD k 0≤z) (h2:z<q6 U (s8 U m) (k+1)) (hz:z≤U) :
 y8 l z=y8 l ((s8 U m).getD k 0):=by
 have ha:=zf4 U m
 rw [Bool.eq_iff_iff,v6,v6]
 constructor
 ·rintro ⟨y,hy,h3,h4⟩
  refine ⟨y,hy,?_,by omega⟩
  apply Classical.byContradiction;intro hn
  have:=xb7 ha k hk y.1 z ((zf5 U m _).2 (.inr ⟨y,hs y hy,.inl rfl⟩)) (by omega) h2
  omega
 ·rintro ⟨y,hy,h3,h4⟩
  refine ⟨y,hy,by omega,?_⟩
  apply Classical.byContradiction;intro hn
  have hyu:y.2<U:=by have:=hb y hy;omega
  have:=xb7 ha k hk (y.2+1) z ((zf5 U m _).2 (.inr ⟨y,hs y hy,.inr ⟨hyu,rfl⟩⟩)) (by omega) h2
  omega
theorem xt9 {U:Int} {l:List Iv} (h:okL U l) {x:Int} (hx:x<0):y8 l x=false:=by
 rw [Bool.eq_false_iff]
 intro hh
 obtain ⟨y,hy,h1,h2⟩:=(v6 _ _).1 hh
 have:=h y hy
 omega
theorem y27 {U:Int} {l:List Iv} (h:okL U l) {x:Int} (hx:U<x):y8 l x=false:=by
 rw [Bool.eq_false_iff]
 intro hh
 obtain ⟨y,hy,h1,h2⟩:=(v6 _ _).1 hh
 have:=h y hy
 omega
theorem zd6 {U:Int} (h0U:0≤U) {l:List Iv} (h:okL U l):∀ y ∈ s8 U l,0≤y∧y≤U:=by
 intro y hy
 rcases (zf5 U l y).1 hy with rfl | ⟨z,hz,rfl | ⟨h1,rfl⟩⟩
 ·exact ⟨by omega,h0U⟩
 ·have:=h z hz;omega
 ·have:=h z hz;omega
def opP (f:Bool→Bool→Bool) (a b:List Iv) (x:Int):Bool:=f (y8 a x) (y8 b x)
def opL (U:Int) (f:Bool→Bool→Bool) (a b:List Iv):List Iv:=goP U (opP f a b) (s8 U (a++b)) (s8 U (a++b)).length
theorem ye0 {U:Int} {a b:List Iv} (ha:okL U a) (hb:okL U b):okL U (a++b):=fun y hy=>(List.mem_append.1 hy).elim (ha y) (hb y)
theorem wh3 {U:Int} (h0U:0≤U) (f:Bool→Bool→Bool) (hf:f false false=false) {a b:List Iv} (ha:okL U a) (hb:okL U b) :
 ∀ k,k≤(s8 U (a++b)).length→v75 U (opP f a b) (s8 U (a++b)) k (goP U (opP f a b) (s8 U (a++b)) k):=
 ws1 (zf4 U _) ((zf5 U _ 0).2 (.inl rfl)) (fun y hy=>(zd6 h0U (ye0 ha hb) y hy).1) (fun y hy=>(zd6 h0U (ye0 ha hb) y hy).2)
  (fun x hx=>by unfold opP;rw [xt9 ha hx,xt9 hb hx];exact hf)
  (fun k hk z h1 h2 h3=>by
    unfold opP
    rw [yu9 (l:=a) (m:=a++b) (fun y hy=>List.mem_append_left _ hy) k hk (fun y hy=>(ha y hy).2.2) z h1 h2 h3,
     yu9 (l:=b) (m:=a++b) (fun y hy=>List.mem_append_right _ hy) k hk (fun y hy=>(hb y hy).2.2) z h1 h2 h3])
theorem y28 {U:Int} (h0U:0≤U) (f:Bool→Bool→Bool) (hf:f false false=false) {a b:List Iv} (ha:okL U a) (hb:okL U b):q7 (opL U f a b):=(wh3 h0U f hf ha hb _ (Nat.le_refl _)).can
theorem x04 {U:Int} (h0U:0≤U) (f:Bool→Bool→Bool) (hf:f false false=false) {a b:List Iv} (ha:okL U a) (hb:okL U b) (x:Int):y8 (opL U f a b) x=f (y8 a x) (y8 b x):=by
 have h:=(wh3 h0U f hf ha hb _ (Nat.le_refl _)).has x
 rw [w43] at h
 rw [show opL U f a b=goP U (opP f a b) (s8 U (a++b)) (s8 U (a++b)).length from rfl,h]
 by_cases hx:x<U+1
 ·rw [show decide (x<U+1)=true by simpa using hx];rfl
 ·rw [show decide (x<U+1)=false by simpa using hx,y27 ha (by omega),y27 hb (by omega),hf];rfl
theorem w45 {U:Int} (h0U:0≤U) (f:Bool→Bool→Bool) (hf:f false false=false) {a b m:List Iv} (ha:okL U a) (hb:okL U b) (hm:q7 m) (h:∀ x,y8 m x=f (y8 a x) (y8 b x)):m=opL U f a b:=
 z93 _ _ hm (y28 h0U f hf ha hb) fun x=>by rw [h x,x04 h0U f hf ha hb]
theorem yv0 {U:Int} {S:List Int} (ha:zy9 S) (h0:∀ y ∈ S,0≤y∧y≤U) (k:Nat) (hk:k<S.length):0≤(z59 U S k).1∧(z59 U S k).1≤(z59 U S k).2∧(z59 U S k).2≤U:=by
 have hlt:=yu8 ha (fun y hy=>(h0 y hy).2) k hk
 have e:S.getD k 0=S[k]:=by simp [hk]
 have h1:=h0 S[k] (List.getElem_mem hk)
 unfold z59
 refine ⟨by simp only;omega,by simp only;omega,?_⟩
 simp only
 unfold q6
 split
 ·rename_i y hy
  have:=h0 y (List.mem_of_getElem? hy)
  omega
 ·omega
theorem ws2 {U:Int} {L:List Iv} {s:Iv} (h:okL U L) (hs:0≤s.1∧s.1≤s.2∧s.2≤U):okL U (yl3 L s):=by
 by_cases hL:L = []
 ·subst hL;rw [xb5];intro y hy;rw [List.mem_singleton.1 hy];exact hs
 ·obtain ⟨m,y,rfl⟩:=z68 hL
  have hy:=h y (by simp)
  by_cases hf:y.2+1=s.1
  ·rw [zu4 _ _ _ hf]
   intro z hz
   rcases List.mem_append.1 hz with hz | hz
   ·exact h z (by simp [hz])
   ·rw [List.mem_singleton.1 hz];exact ⟨hy.1,by simp only;omega,hs.2.2⟩
  ·rw [y26 _ _ _ hf]
   intro z hz
   rcases List.mem_append.1 hz with hz | hz
   ·exact h z hz
   ·rw [List.mem_singleton.1 hz];exact hs
theorem wh4 {U:Int} (P:Int→Bool) {S:List Int} (ha:zy9 S) (h0:∀ y ∈ S,0≤y∧y≤U):∀ k,k≤S.length→okL U (goP U P S k):=by
 intro k
 induction k with
 | zero=>intro _ y hy;simp [goP] at hy
 | succ k ih =>
   intro hk
   unfold goP
   split
   ·exact ws2 (ih (by omega)) (yv0 ha h0 k (by omega))
   ·exact ih (by omega)
theorem wh5 (L:List Iv) (s:Iv):(yl3 L s).length≤L.length+1:=by
 by_cases h:L = []
 ·subst h;simp [yl3]
 ·obtain ⟨m,y,rfl⟩:=z68 h
  by_cases hf:y.2+1=s.1
  ·rw [zu4 _ _ _ hf];simp
  ·rw [y26 _ _ _ hf];simp
theorem xu0 {U:Int} (P:Int→Bool) (S:List Int):∀ k,(goP U P S k).length≤k:=by
 intro k
 induction k with
 | zero=>simp [goP]
 | succ k ih =>
   unfold goP
   split
   ·have:=wh5 (goP U P S k) (z59 U S k);omega
   ·omega
theorem wh6 {U:Int} (h0U:0≤U) (f:Bool→Bool→Bool) {a b:List Iv} (ha:okL U a) (hb:okL U b):okL U (opL U f a b):=
 wh4 _ (zf4 U _) (zd6 h0U (ye0 ha hb)) _ (Nat.le_refl _)
theorem w46 {U:Int} {l:List Iv} (h:q7 l) (hb:∀ y ∈ l,0≤y.1∧y.2≤U):okL U l:=fun y hy=>⟨(hb y hy).1,z06 l h y hy,(hb y hy).2⟩
end
end Go.Proofs.YtchndljcahjldaaGreatDoor
