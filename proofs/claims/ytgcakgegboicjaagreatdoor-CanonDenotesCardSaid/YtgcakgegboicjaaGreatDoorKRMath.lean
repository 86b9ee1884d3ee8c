/- Lists of intervals as sets of numbers: plain mathematics. -/
import Derived.Test.YtgcakgegboicjaaGreatDoorKLaw
namespace Go.Proofs.YtgcakgegboicjaaGreatDoor
section
abbrev Iv:=Int × Int
abbrev VcT:=List (Int × Int × List Iv)
abbrev KnT:=List (List Iv × VcT)
def inI (y:Iv) (x:Int):Bool:=decide (y.1≤x) && decide (x≤y.2)
def hasL (l:List Iv) (x:Int):Bool:=l.any fun y=>inI y x
theorem inI_iff (y:Iv) (x:Int):inI y x=true↔y.1≤x∧x≤y.2:=by unfold inI;simp
theorem hasL_iff (l:List Iv) (x:Int):hasL l x=true↔∃ y ∈ l,y.1≤x∧x≤y.2:=by
 unfold hasL;rw [List.any_eq_true];simp only [inI_iff]
theorem hasL_cons (y:Iv) (l:List Iv) (x:Int):hasL (y :: l) x=(inI y x || hasL l x):=rfl
theorem hasL_append (l m:List Iv) (x:Int):hasL (l++m) x=(hasL l x || hasL m x):=List.any_append ..
theorem hasL_ext {l m:List Iv} (h:∀ x,hasL l x=true↔hasL m x=true):∀ x,hasL l x=hasL m x:=fun x=>Bool.eq_iff_iff.2 (h x)
def badAt (l:List Iv) (k:Nat):Int:=
 match l[k]? with
 | none=>0
 | some x=>if x.1≤x.2 then (if k=0 then 0 else match l[k - 1]? with | none=>0 | some y=>if y.2+1<x.1 then 0 else 3) else 2
def chkL (l:List Iv):Option (Int × Nat):=(List.range l.length).findSome? fun k=>if badAt l k=0 then none else some (badAt l k,k)
theorem chk_none {l:List Iv} (h:∀ k,k<l.length→badAt l k=0):chkL l=none:=by
 unfold chkL
 rw [List.findSome?_eq_none_iff]
 intro k hk
 rw [if_pos (h k (by simpa using hk))]
theorem chk_some {l:List Iv} {k:Nat} (hk:k<l.length) (h:∀ j,j<k→badAt l j=0) (hb:badAt l k≠0):chkL l=some (badAt l k,k):=by
 unfold chkL
 obtain ⟨m,hm⟩:∃ m,l.length=k+(m+1):=⟨l.length - k - 1,by omega⟩
 rw [hm,List.range_add,List.findSome?_append]
 have h1:(List.range k).findSome? (fun k=>if badAt l k=0 then none else some (badAt l k,k))=none:=by
  rw [List.findSome?_eq_none_iff]
  intro j hj
  rw [if_pos (h j (by simpa using hj))]
 rw [h1,List.range_succ_eq_map,List.map_cons,List.findSome?_cons,if_neg (by simpa using hb)]
 rfl
theorem chk_none_all {l:List Iv} (h:chkL l=none):∀ k,k<l.length→badAt l k=0:=by
 intro k hk
 unfold chkL at h
 rw [List.findSome?_eq_none_iff] at h
 have:=h k (by simpa using hk)
 by_cases e:badAt l k=0
 ·exact e
 ·rw [if_neg e] at this;cases this
theorem bad_inverted {l:List Iv} {k:Nat} {x:Iv} (h:l[k]? = some x) (hx:¬ x.1≤x.2):badAt l k=2:=by unfold badAt;rw [h];simp only;rw [if_neg hx]
theorem bad_first {l:List Iv} {x:Iv} (h:l[0]? = some x) (hx:x.1≤x.2):badAt l 0=0:=by unfold badAt;rw [h];simp only;rw [if_pos hx];rfl
theorem bad_order {l:List Iv} {k:Nat} {x y:Iv} (h:l[k+1]? = some x) (hy:l[k]? = some y) (hx:x.1≤x.2) (hg:¬ y.2+1<x.1):badAt l (k+1)=3:=by
 unfold badAt;rw [h];simp only;rw [if_pos hx,if_neg (by omega),Nat.add_sub_cancel,hy];simp only;rw [if_neg hg]
theorem bad_fine {l:List Iv} {k:Nat} {x y:Iv} (h:l[k+1]? = some x) (hy:l[k]? = some y) (hx:x.1≤x.2) (hg:y.2+1<x.1):badAt l (k+1)=0:=by
 unfold badAt;rw [h];simp only;rw [if_pos hx,if_neg (by omega),Nat.add_sub_cancel,hy];simp only;rw [if_pos hg]
def canon:List Iv→Prop
 | []=>True
 | x :: l=>x.1≤x.2∧(∀ y,l.head? = some y→x.2+1<y.1)∧canon l
theorem canon_of_bad:∀ (l:List Iv),(∀ k,k<l.length→badAt l k=0)→canon l
 | [],_=>trivial
 | x :: l,h=>by
   have h0:=h 0 (by simp)
   have hx:x.1≤x.2:=by
    apply Classical.byContradiction;intro hn
    rw [bad_inverted (x:=x) (by simp) hn] at h0;cases h0
   refine ⟨hx,?_,canon_of_bad l ?_⟩
   ·intro y hy
    have h1:l[0]? = some y:=by rw [← List.head?_eq_getElem?];exact hy
    have hl:0<l.length:=by cases l with | nil=>cases hy | cons _ _=>simp
    have h2:=h 1 (by simp;omega)
    apply Classical.byContradiction;intro hn
    by_cases hy':y.1≤y.2
    ·rw [bad_order (x:=y) (y:=x) (by simpa using h1) (by simp) hy' hn] at h2;cases h2
    ·rw [bad_inverted (x:=y) (by simpa using h1) hy'] at h2;cases h2
   ·intro k hk
    have h2:=h (k+1) (by simp;omega)
    obtain ⟨z,hz⟩:∃ z,l[k]? = some z:=⟨l[k],by simp [hk]⟩
    have hz':(x :: l)[k+1]? = some z:=by simpa using hz
    have hz1:z.1≤z.2:=by
     apply Classical.byContradiction;intro hn
     rw [bad_inverted hz' hn] at h2;cases h2
    cases k with
    | zero=>exact bad_first hz hz1
    | succ j =>
      obtain ⟨y,hy⟩:∃ y,l[j]? = some y:=⟨l[j],by simp [show j<l.length by omega]⟩
      have hy':(x :: l)[j+1]? = some y:=by simpa using hy
      apply bad_fine hz hy hz1
      apply Classical.byContradiction;intro hn
      rw [bad_order hz' hy' hz1 hn] at h2;cases h2
theorem bad_of_canon:∀ (l:List Iv),canon l→∀ k,k<l.length→badAt l k=0
 | [],_,k,hk=>absurd hk (Nat.not_lt_zero k)
 | x :: l,⟨hx,hh,hl⟩,k,hk=>by
   cases k with
   | zero=>exact bad_first (x:=x) (by simp) hx
   | succ j =>
     have hj:j<l.length:=by simpa using hk
     obtain ⟨z,hz⟩:∃ z,l[j]? = some z:=⟨l[j],by simp [hj]⟩
     have ih:=bad_of_canon l hl j hj
     have hz1:z.1≤z.2:=by
      apply Classical.byContradiction;intro hn
      rw [bad_inverted hz hn] at ih;cases ih
     cases j with
     | zero=>exact bad_fine (x:=z) (y:=x) (by simpa using hz) (by simp) hz1 (hh z (by rw [List.head?_eq_getElem?];exact hz))
     | succ i =>
       obtain ⟨y,hy⟩:∃ y,l[i]? = some y:=⟨l[i],by simp [show i<l.length by omega]⟩
       refine bad_fine (x:=z) (y:=y) (by simpa using hz) (by simpa using hy) hz1 ?_
       apply Classical.byContradiction;intro hn
       rw [bad_order hz hy hz1 hn] at ih;cases ih
theorem canon_iff (l:List Iv):chkL l=none↔canon l:=⟨fun h=>canon_of_bad l (chk_none_all h),fun h=>chk_none (bad_of_canon l h)⟩
theorem canon_behind:∀ (l:List Iv) (b:Int),canon l→(∀ y,l.head? = some y→b<y.1)→∀ y ∈ l,b<y.1
 | [],_,_,_,y,h=>absurd h (by simp)
 | x :: l,b,⟨hx,hh,hl⟩,hb,y,hy=>by
   have hbx:=hb x rfl
   rcases List.mem_cons.1 hy with rfl | hy
   ·exact hbx
   ·have:=canon_behind l (x.2+1) hl hh y hy
    omega
theorem canon_ok:∀ (l:List Iv),canon l→∀ y ∈ l,y.1≤y.2
 | [],_,y,h=>absurd h (by simp)
 | x :: l,⟨hx,_,hl⟩,y,hy=>by
   rcases List.mem_cons.1 hy with rfl | hy
   ·exact hx
   ·exact canon_ok l hl y hy
theorem canon_unique:∀ (l m:List Iv),canon l→canon m→(∀ x,hasL l x=hasL m x)→l=m
 | [],[],_,_,_=>rfl
 | [],y :: m,_,⟨hy,_⟩,h=>by
   have:=(h y.1).symm
   rw [(hasL_iff _ _).2 ⟨y,by simp,Int.le_refl _,hy⟩] at this
   cases this
 | x :: l,[],⟨hx,_⟩,_,h=>by
   have:=h x.1
   rw [(hasL_iff _ _).2 ⟨x,by simp,Int.le_refl _,hx⟩] at this
   cases this
 | x :: l,y :: m,⟨hx,hxh,hl⟩,⟨hy,hyh,hm⟩,h=>by
   have bl:=canon_behind l _ hl hxh
   have bm:=canon_behind m _ hm hyh
   have H:∀ z,(∃ u ∈ x :: l,u.1≤z∧z≤u.2)↔(∃ u ∈ y :: m,u.1≤z∧z≤u.2):=fun z=>by rw [← hasL_iff,← hasL_iff,h z]
   have e1:x.1=y.1:=by
    obtain ⟨u,hu,h1,h2⟩:=(H x.1).1 ⟨x,by simp,Int.le_refl _,hx⟩
    obtain ⟨v,hv,h3,h4⟩:=(H y.1).2 ⟨y,by simp,Int.le_refl _,hy⟩
    have k1:y.1≤x.1:=by
     rcases List.mem_cons.1 hu with rfl | hu
     ·exact h1
     ·have:=bm u hu;omega
    have k2:x.1≤y.1:=by
     rcases List.mem_cons.1 hv with rfl | hv
     ·exact h3
     ·have:=bl v hv;omega
    omega
   have e2:x.2=y.2:=by
    apply Classical.byContradiction;intro hne
    by_cases hlt:x.2<y.2
    ·obtain ⟨u,hu,h1,h2⟩:=(H (x.2+1)).2 ⟨y,by simp,by omega,by omega⟩
     rcases List.mem_cons.1 hu with rfl | hu
     ·omega
     ·have:=bl u hu;omega
    ·obtain ⟨u,hu,h1,h2⟩:=(H (y.2+1)).1 ⟨x,by simp,by omega,by omega⟩
     rcases List.mem_cons.1 hu with rfl | hu
     ·omega
     ·have:=bm u hu;omega
   have exy:x=y:=Prod.ext e1 e2
   subst exy
   refine congrArg _ (canon_unique l m hl hm (hasL_ext fun z => ?_))
   rw [hasL_iff,hasL_iff]
   constructor
   ·rintro ⟨u,hu,h1,h2⟩
    obtain ⟨v,hv,h3,h4⟩:=(H z).1 ⟨u,List.mem_cons_of_mem _ hu,h1,h2⟩
    rcases List.mem_cons.1 hv with rfl | hv
    ·have:=bl u hu;omega
    ·exact ⟨v,hv,h3,h4⟩
   ·rintro ⟨u,hu,h1,h2⟩
    obtain ⟨v,hv,h3,h4⟩:=(H z).2 ⟨u,List.mem_cons_of_mem _ hu,h1,h2⟩
    rcases List.mem_cons.1 hv with rfl | hv
    ·have:=bm u hu;omega
    ·exact ⟨v,hv,h3,h4⟩
theorem canon_snoc:∀ (l:List Iv) (s:Iv),canon (l ++ [s])↔canon l∧s.1≤s.2∧(∀ y,l.getLast? = some y→y.2+1<s.1)
 | [],s=>by simp [canon]
 | [x],s=>by
   simp only [List.cons_append,List.nil_append,canon,List.head?_cons,List.head?_nil,List.getLast?_singleton,Option.some.injEq,forall_eq']
   constructor
   ·rintro ⟨h1,h2,h3,-⟩;exact ⟨⟨h1,by simp,trivial⟩,h3,h2⟩
   ·rintro ⟨⟨h1,-⟩,h3,h2⟩;exact ⟨h1,h2,h3,by simp,trivial⟩
 | x :: z :: l,s=>by
   have ih:=canon_snoc (z :: l) s
   have e:(x :: z :: l).getLast? = (z :: l).getLast? := by simp [List.getLast?_cons]
   rw [e]
   show canon (x :: ((z :: l) ++ [s]))↔_
   unfold canon
   rw [ih]
   simp only [List.cons_append,List.head?_cons,Option.some.injEq,forall_eq']
   constructor
   ·rintro ⟨h1,h2,h3,h4,h5⟩;exact ⟨⟨h1,h2,h3⟩,h4,h5⟩
   ·rintro ⟨⟨h1,h2,h3⟩,h4,h5⟩;exact ⟨h1,h2,h3,h4,h5⟩
theorem snoc_of {l:List Iv} (h:l ≠ []):∃ m y,l=m ++ [y]:=⟨l.dropLast,l.getLast h,(List.dropLast_concat_getLast h).symm⟩
def mstep (L:List Iv) (s:Iv):List Iv:=
 match L.getLast? with
 | none => [s]
 | some y=>if y.2+1<s.1 then L ++ [s] else L.dropLast ++ [(y.1,if y.2<s.2 then s.2 else y.2)]
theorem mstep_nil (s:Iv):mstep [] s = [s]:=rfl
theorem mstep_far (m:List Iv) (y s:Iv) (h:y.2+1<s.1):mstep (m ++ [y]) s=m ++ [y] ++ [s]:=by
 unfold mstep;rw [List.getLast?_concat];simp only;rw [if_pos h]
theorem mstep_near (m:List Iv) (y s:Iv) (h:¬ y.2+1<s.1):mstep (m ++ [y]) s=m ++ [(y.1,if y.2<s.2 then s.2 else y.2)]:=by
 unfold mstep;rw [List.getLast?_concat];simp only;rw [if_neg h,List.dropLast_concat]
def mergeL (l:List Iv):List Iv:=l.foldl mstep []
theorem mergeL_snoc (l:List Iv) (s:Iv):mergeL (l ++ [s])=mstep (mergeL l) s:=by unfold mergeL;rw [List.foldl_append];rfl
structure MInv (l L:List Iv):Prop where
 can:canon L
 has:∀ x,hasL L x=hasL l x
 lo:∀ y ∈ L,∃ z ∈ l,y.1=z.1
theorem mInv_nil:MInv [] []:=⟨trivial,fun _=>rfl,fun _ h=>absurd h (by simp)⟩
theorem mInv_step {l L:List Iv} {s:Iv} (h:MInv l L) (hs:s.1≤s.2) (hle:∀ z ∈ l,z.1≤s.1):MInv (l ++ [s]) (mstep L s):=by
 by_cases hL:L = []
 ·subst hL
  rw [mstep_nil]
  refine ⟨⟨hs,by simp,trivial⟩,fun x => ?_,fun y hy=>⟨s,by simp,by rw [List.mem_singleton.1 hy]⟩⟩
  rw [hasL_append,← h.has x];rfl
 ·obtain ⟨m,y,rfl⟩:=snoc_of hL
  obtain ⟨hm,hy,hlast⟩:=(canon_snoc m y).1 h.can
  have hys:y.1≤s.1:=by
   obtain ⟨z,hz,e⟩:=h.lo y (by simp)
   have:=hle z hz;omega
  by_cases hf:y.2+1<s.1
  ·rw [mstep_far m y s hf]
   refine ⟨(canon_snoc _ s).2 ⟨h.can,hs,fun u hu => ?_⟩,fun x => ?_,fun u hu => ?_⟩
   ·rw [List.getLast?_concat] at hu;cases hu;exact hf
   ·rw [hasL_append (m ++ [y]) [s],hasL_append l [s],h.has x]
   ·rcases List.mem_append.1 hu with hu | hu
    ·obtain ⟨z,hz,e⟩:=h.lo u hu;exact ⟨z,by simp [hz],e⟩
    ·exact ⟨s,by simp,by rw [List.mem_singleton.1 hu]⟩
  ·rw [mstep_near m y s hf]
   refine ⟨(canon_snoc _ _).2 ⟨hm,?_,fun u hu => ?_⟩,fun x => ?_,fun u hu => ?_⟩
   ·show y.1≤if y.2<s.2 then s.2 else y.2
    split <;> omega
   ·exact hlast u hu
   ·rw [hasL_append,hasL_append,← h.has x,hasL_append,Bool.or_assoc]
    congr 1
    unfold hasL inI
    simp only [List.any_cons,List.any_nil,Bool.or_false]
    rw [Bool.eq_iff_iff]
    simp
    split <;> omega
   ·rcases List.mem_append.1 hu with hu | hu
    ·obtain ⟨z,hz,e⟩:=h.lo u (by simp [hu]);exact ⟨z,by simp [hz],e⟩
    ·obtain ⟨z,hz,e⟩:=h.lo y (by simp)
     exact ⟨z,by simp [hz],by rw [List.mem_singleton.1 hu];exact e⟩
def sortedL (l:List Iv):Prop:=l.Pairwise fun a b=>a.1≤b.1
theorem merge_inv:∀ (n:Nat) (l:List Iv),l.length=n→sortedL l→(∀ y ∈ l,y.1≤y.2)→MInv l (mergeL l):=by
 intro n
 induction n with
 | zero=>intro l hl _ _;rw [List.eq_nil_of_length_eq_zero hl];exact mInv_nil
 | succ n ih =>
   intro l hl hs ho
   obtain ⟨m,s,rfl⟩:=snoc_of (l:=l) (by intro h;subst h;cases hl)
   have hp:=List.pairwise_append.1 hs
   rw [mergeL_snoc]
   exact mInv_step (ih m (by simpa using hl) hp.1 fun y hy=>ho y (by simp [hy])) (ho s (by simp)) fun z hz=>hp.2.2 z hz s (by simp)
def normL (l:List Iv):List Iv:=mergeL (l.mergeSort fun a b=>decide (a.1≤b.1))
theorem normL_inv (l:List Iv) (ho:∀ y ∈ l,y.1≤y.2):canon (normL l)∧∀ x,hasL (normL l) x=hasL l x:=by
 have hp:(l.mergeSort fun a b=>decide (a.1≤b.1)).Perm l:=List.mergeSort_perm _ _
 have hs:sortedL (l.mergeSort fun a b=>decide (a.1≤b.1)):=by
  have:=List.pairwise_mergeSort (le:=fun a b:Iv=>decide (a.1≤b.1)) (by intro a b c h1 h2;simp at *;omega) (by intro a b;simp;omega) l
  exact this.imp (by intro a b h;simpa using h)
 have hi:=merge_inv _ _ rfl hs (fun y hy=>ho y (hp.mem_iff.1 hy))
 refine ⟨hi.can,fun x => ?_⟩
 rw [show normL l=mergeL (l.mergeSort fun a b=>decide (a.1≤b.1)) from rfl,hi.has x]
 unfold hasL
 exact Bool.eq_iff_iff.2 (by simp only [List.any_eq_true,hp.mem_iff])
theorem merge_norm {l d:List Iv} (hp:d.Perm l) (hs:sortedL d) (ho:∀ y ∈ l,y.1≤y.2):mergeL d=normL l:=by
 have hi:=merge_inv _ _ rfl hs (fun y hy=>ho y (hp.mem_iff.1 hy))
 have hn:=normL_inv l ho
 refine canon_unique _ _ hi.can hn.1 fun x => ?_
 rw [hi.has x,hn.2 x]
 unfold hasL
 exact Bool.eq_iff_iff.2 (by simp only [List.any_eq_true,hp.mem_iff])
theorem norm_unique {l m:List Iv} (ho:∀ y ∈ l,y.1≤y.2) (hm:canon m) (h:∀ x,hasL m x=hasL l x):m=normL l:=
 canon_unique _ _ hm (normL_inv l ho).1 fun x=>by rw [h x,(normL_inv l ho).2 x]
def firstL (l:List Iv) (x:Int):Nat:=l.findIdx fun y=>decide (x≤y.2)
def findL (l:List Iv) (x:Int):Int:=match l[firstL l x]? with | some y=>if inI y x then (firstL l x:Int) else -1 | none => -1
theorem canon_up:∀ (l:List Iv),canon l→∀ (i j:Nat) (y z:Iv),i<j→l[i]? = some y→l[j]? = some z→y.2+1<z.1
 | [],_,i,j,y,z,_,h,_=>by simp at h
 | x :: l,⟨hx,hh,hl⟩,i,j,y,z,hij,hi,hj=>by
   obtain ⟨j,rfl⟩:∃ k,j=k+1:=⟨j - 1,by omega⟩
   have hj':l[j]? = some z:=by simpa using hj
   cases i with
   | zero =>
     have:x=y:=by simpa using hi
     subst this
     exact canon_behind l _ hl hh z (List.mem_of_getElem? hj')
   | succ i=>exact canon_up l hl i j y z (by omega) (by simpa using hi) hj'
theorem findL_has {l:List Iv} (h:canon l) (x:Int):(decide (0≤findL l x))=hasL l x:=by
 cases hf:l[firstL l x]? with
 | none =>
   have hv:findL l x = -1:=by unfold findL;rw [hf]
   have hlen:l.length≤firstL l x:=List.getElem?_eq_none_iff.1 hf
   have:hasL l x=false:=by
    rw [Bool.eq_false_iff]
    intro hh
    obtain ⟨y,hy,h1,h2⟩:=(hasL_iff _ _).1 hh
    have hlt:firstL l x<l.length:=List.findIdx_lt_length_of_exists ⟨y,hy,by simpa using h2⟩
    omega
   rw [this,hv];rfl
 | some y =>
   have hlt:firstL l x<l.length:=(List.getElem?_eq_some_iff.1 hf).1
   rcases Bool.eq_false_or_eq_true (inI y x) with hi | hi
   ·have hv:findL l x=(firstL l x:Int):=by unfold findL;rw [hf];simp only;rw [if_pos hi]
    rw [hv,(hasL_iff l x).2 ⟨y,List.mem_of_getElem? hf,(inI_iff y x).1 hi⟩]
    simp
   ·have hv:findL l x = -1:=by unfold findL;rw [hf];simp only;rw [if_neg (by rw [hi];simp)]
    have:hasL l x=false:=by
     rw [Bool.eq_false_iff]
     intro hh
     obtain ⟨z,hz,h1,h2⟩:=(hasL_iff _ _).1 hh
     obtain ⟨j,hj⟩:=List.mem_iff_getElem?.1 hz
     have hge:firstL l x≤j:=by
      apply Classical.byContradiction;intro hn
      have:=List.not_of_lt_findIdx (p:=fun y:Iv=>decide (x≤y.2)) (xs:=l) (i:=j) (show j<firstL l x by omega)
      have ej:l[j]'(by omega)=z:=(List.getElem?_eq_some_iff.1 hj).2
      rw [ej] at this
      simp at this
      omega
     have hy2:x≤y.2:=by
      have:=List.findIdx_getElem (p:=fun y:Iv=>decide (x≤y.2)) (xs:=l) (w:=hlt)
      have ey:l[firstL l x]'hlt=y:=(List.getElem?_eq_some_iff.1 hf).2
      unfold firstL at ey
      rw [ey] at this
      simpa using this
     rcases Nat.lt_or_eq_of_le hge with hlt2 | heq
     ·have:=canon_up l h _ _ y z hlt2 hf hj
      have:=canon_ok l h z hz
      omega
     ·rw [← heq,hf] at hj
      cases hj
      rw [(inI_iff y x).2 ⟨h1,h2⟩] at hi
      cases hi
    rw [this,hv]
    rfl
theorem findL_low (l:List Iv) (x:Int) : -1≤findL l x:=by
 unfold findL
 split
 ·split <;> omega
 ·omega
end
section
def ascL (S:List Int):Prop:=S.Pairwise (· < ·)
def insI (S:List Int) (x:Int):List Int:=
 let k:=S.countP fun y=>decide (y≤x)
 if k=0 then x :: S else if S[k - 1]? = some x then S else S.take k++x :: S.drop k
theorem asc_split:∀ (S:List Int) (x:Int),ascL S→(∀ y ∈ S.take (S.countP fun y=>decide (y≤x)),y≤x)∧(∀ y ∈ S.drop (S.countP fun y=>decide (y≤x)),x<y)
 | [],x,_=>by simp
 | a :: S,x,h=>by
   obtain ⟨h1,h2⟩:=List.pairwise_cons.1 h
   have ih:=asc_split S x h2
   by_cases hax:a≤x
   ·rw [List.countP_cons_of_pos (by simpa using hax)]
    simp only [List.take_succ_cons,List.drop_succ_cons,List.mem_cons]
    exact ⟨fun y hy=>by rcases hy with rfl | hy;exact hax;exact ih.1 y hy,ih.2⟩
   ·have h0:S.countP (fun y=>decide (y≤x))=0:=by
     rw [List.countP_eq_zero]
     intro y hy
     have:=h1 y hy
     simp;omega
    rw [List.countP_cons_of_neg (by simpa using hax),h0]
    refine ⟨by simp,fun y hy => ?_⟩
    rcases List.mem_cons.1 (by simpa using hy) with rfl | hy
    ·omega
    ·have:=h1 y hy;omega
theorem ins_mem {S:List Int} (h:ascL S) (x y:Int):y ∈ insI S x↔y ∈ S∨y=x:=by
 have _:=h
 unfold insI
 simp only
 split
 ·simp [or_comm]
 ·split
  ·rename_i hx
   have:=List.mem_of_getElem? hx
   constructor
   ·exact fun h => .inl h
   ·rintro (h | rfl)
    ·exact h
    ·exact this
  ·rw [List.mem_append,List.mem_cons]
   conv=>rhs;rw [← List.take_append_drop (S.countP fun y=>decide (y≤x)) S,List.mem_append]
   constructor
   ·rintro (h | h | h)
    ·exact .inl (.inl h)
    ·exact .inr h
    ·exact .inl (.inr h)
   ·rintro ((h | h) | h)
    ·exact .inl h
    ·exact .inr (.inr h)
    ·exact .inr (.inl h)
theorem ins_asc {S:List Int} (h:ascL S) (x:Int):ascL (insI S x):=by
 have hs:=asc_split S x h
 unfold insI
 simp only
 split
 ·rename_i h0
  refine List.pairwise_cons.2 ⟨fun y hy => ?_,h⟩
  rw [h0] at hs
  exact hs.2 y (by simpa using hy)
 ·rename_i h0
  split
  ·exact h
  ·rename_i hx
   have hd:ascL (S.drop (S.countP fun y=>decide (y≤x))):=h.sublist (List.drop_sublist _ _)
   have ht:ascL (S.take (S.countP fun y=>decide (y≤x))):=h.sublist (List.take_sublist _ _)
   refine List.pairwise_append.2 ⟨ht,List.pairwise_cons.2 ⟨hs.2,hd⟩,fun a ha b hb => ?_⟩
   have hle:=hs.1 a ha
   rcases List.mem_cons.1 hb with rfl | hb
   ·apply Classical.byContradiction;intro hn
    obtain rfl:a=b:=by omega
    apply hx
    obtain ⟨j,hj⟩:=List.mem_iff_getElem?.1 ha
    have hjk:j<S.countP (fun y=>decide (y≤a)):=by
     have:=(List.getElem?_eq_some_iff.1 hj).1
     simp at this;omega
    have hjS:S[j]? = some a:=by rw [List.getElem?_take] at hj;rw [if_pos hjk] at hj;exact hj
    rcases Nat.lt_or_ge j (S.countP (fun y=>decide (y≤a)) - 1) with hlt | hge
    ·have hk1:S.countP (fun y=>decide (y≤a)) - 1<S.length:=by have:=List.countP_le_length (p:=fun y:Int=>decide (y≤a)) (l:=S);omega
     have hz:S[S.countP (fun y=>decide (y≤a)) - 1]? = some (S[S.countP (fun y=>decide (y≤a)) - 1]):=by simp [hk1]
     have hz2:=hs.1 _ (show S[S.countP (fun y=>decide (y≤a)) - 1] ∈ S.take (S.countP fun y=>decide (y≤a)) from List.mem_of_getElem? (i:=S.countP (fun y=>decide (y≤a)) - 1) (by rw [List.getElem?_take,if_pos (by omega)];exact hz))
     have hlt2:S[j]'(by omega)<S[S.countP (fun y=>decide (y≤a)) - 1]:=(List.pairwise_iff_getElem.1 h) j _ (by omega) hk1 hlt
     have e:S[j]'(by omega)=a:=(List.getElem?_eq_some_iff.1 hjS).2
     omega
    ·rw [show S.countP (fun y=>decide (y≤a)) - 1=j by omega];exact hjS
   ·have:=hs.2 b hb;omega
def rawS (U:Int) (l:List Iv):List Int:=0 :: l.flatMap fun y=>if y.2<U then [y.1,y.2+1] else [y.1]
def startsL (U:Int) (l:List Iv):List Int:=(rawS U l).foldl insI []
theorem fold_ins:∀ (R S:List Int),ascL S→ascL (R.foldl insI S)∧∀ y,y ∈ R.foldl insI S↔y ∈ S∨y ∈ R
 | [],S,h=>⟨h,by simp⟩
 | x :: R,S,h=>by
   have ih:=fold_ins R (insI S x) (ins_asc h x)
   refine ⟨ih.1,fun y => ?_⟩
   rw [List.foldl_cons,ih.2 y,ins_mem h x y,List.mem_cons,or_assoc]
theorem starts_asc (U:Int) (l:List Iv):ascL (startsL U l):=(fold_ins _ _ List.Pairwise.nil).1
theorem starts_mem (U:Int) (l:List Iv) (y:Int):y ∈ startsL U l↔y=0∨∃ z ∈ l,y=z.1∨(z.2<U∧y=z.2+1):=by
 unfold startsL
 rw [(fold_ins _ _ List.Pairwise.nil).2 y]
 unfold rawS
 simp only [List.not_mem_nil,false_or,List.mem_cons,List.mem_flatMap]
 constructor
 ·rintro (h | ⟨z,hz,h⟩)
  ·exact .inl h
  ·right
   refine ⟨z,hz,?_⟩
   by_cases hu:z.2<U
   ·rw [if_pos hu] at h
    simp at h
    rcases h with h | h
    ·exact .inl h
    ·exact .inr ⟨hu,h⟩
   ·rw [if_neg hu] at h
    exact .inl (by simpa using h)
 ·rintro (h | ⟨z,hz,h⟩)
  ·exact .inl h
  ·right
   refine ⟨z,hz,?_⟩
   rcases h with rfl | ⟨hu,rfl⟩
   ·split <;> simp
   ·rw [if_pos hu];simp
def boundS (U:Int) (S:List Int) (k:Nat):Int:=match S[k]? with | some x=>x | none=>U+1
def pieceS (U:Int) (S:List Int) (k:Nat):Iv:=(S.getD k 0,boundS U S (k+1) - 1)
def putL (L:List Iv) (s:Iv):List Iv:=
 match L.getLast? with
 | none => [s]
 | some y=>if y.2+1=s.1 then L.dropLast ++ [(y.1,s.2)] else L ++ [s]
theorem putL_nil (s:Iv):putL [] s = [s]:=rfl
theorem putL_near (m:List Iv) (y s:Iv) (h:y.2+1=s.1):putL (m ++ [y]) s=m ++ [(y.1,s.2)]:=by
 unfold putL;rw [List.getLast?_concat];simp only;rw [if_pos h,List.dropLast_concat]
theorem putL_far (m:List Iv) (y s:Iv) (h:¬ y.2+1=s.1):putL (m ++ [y]) s=m ++ [y] ++ [s]:=by
 unfold putL;rw [List.getLast?_concat];simp only;rw [if_neg h]
theorem starts_lt {U:Int} {S:List Int} (h:ascL S) (hU:∀ y ∈ S,y≤U) (k:Nat) (hk:k<S.length):S.getD k 0<boundS U S (k+1):=by
 have e:S.getD k 0=S[k]:=by simp [hk]
 rw [e]
 unfold boundS
 by_cases h2:k+1<S.length
 ·rw [show S[k+1]? = some S[k+1] by simp [h2]]
  simp only
  exact (List.pairwise_iff_getElem.1 h) k (k+1) hk h2 (by omega)
 ·rw [show S[k+1]? = none from List.getElem?_eq_none_iff.2 (by omega)]
  simp only
  have:=hU S[k] (List.getElem_mem hk)
  omega
theorem bound_at {U:Int} {S:List Int} {k:Nat} (hk:k<S.length):boundS U S k=S.getD k 0:=by
 unfold boundS;rw [show S[k]? = some S[k] by simp [hk]];simp [hk]
theorem no_start {U:Int} {S:List Int} (h:ascL S) (k:Nat) (hk:k<S.length) (y z:Int) (hy:y ∈ S) (h1:S.getD k 0<y) (h2:z<boundS U S (k+1)):z<y:=by
 have e:S.getD k 0=S[k]:=by simp [hk]
 rw [e] at h1
 obtain ⟨j,hj⟩:=List.mem_iff_getElem?.1 hy
 obtain ⟨hjl,ej⟩:=List.getElem?_eq_some_iff.1 hj
 have hkj:k<j:=by
  apply Classical.byContradiction;intro hn
  rcases Nat.lt_or_eq_of_le (Nat.le_of_not_lt hn) with hlt | heq
  ·have:=(List.pairwise_iff_getElem.1 h) j k hjl hk hlt;omega
  ·subst heq;omega
 have hk1:k+1<S.length:=by omega
 unfold boundS at h2
 rw [show S[k+1]? = some S[k+1] by simp [hk1]] at h2
 simp only at h2
 rcases Nat.lt_or_eq_of_le hkj with hlt | heq
 ·have:S[k+1]<S[j]:=(List.pairwise_iff_getElem.1 h) (k+1) j hk1 hjl hlt
  omega
 ·subst heq
  have:z<S[k+1]:=h2
  have e3:S[k+1]=y:=ej
  omega
end
section
def goP (U:Int) (P:Int→Bool) (S:List Int):Nat→List Iv
 | 0 => []
 | k+1=>if P (S.getD k 0) then putL (goP U P S k) (pieceS U S k) else goP U P S k
structure PInv (U:Int) (P:Int→Bool) (S:List Int) (k:Nat) (out:List Iv):Prop where
 can:canon out
 has:∀ x,hasL out x=(decide (x<boundS U S k) && P x)
 low:∀ y ∈ out,y.2<boundS U S k
theorem pInv_go {U:Int} {P:Int→Bool} {S:List Int} (ha:ascL S) (hz:(0:Int) ∈ S) (h0:∀ y ∈ S,0≤y) (hU:∀ y ∈ S,y≤U) (hneg:∀ x,x<0→P x=false)
 (hc:∀ k,k<S.length→∀ z,S.getD k 0≤z→z<boundS U S (k+1)→z≤U→P z=P (S.getD k 0)):∀ k,k≤S.length→PInv U P S k (goP U P S k):=by
 intro k
 induction k with
 | zero =>
   intro _
   refine ⟨trivial,fun x => ?_,fun y h=>absurd h (by simp [goP])⟩
   show false=_
   symm
   rw [Bool.and_eq_false_iff]
   by_cases hx:x<boundS U S 0
   ·right
    have hb0:boundS U S 0=0:=by
     have hm:=hz
     have hne:0<S.length:=List.length_pos_of_mem hm
     rw [bound_at hne]
     have e:(S).getD 0 0=(S)[0]:=by simp [hne]
     rw [e]
     have h1:=h0 _ (List.getElem_mem hne)
     obtain ⟨j,hj⟩:=List.mem_iff_getElem?.1 hm
     obtain ⟨hjl,ej⟩:=List.getElem?_eq_some_iff.1 hj
     rcases Nat.eq_zero_or_pos j with rfl | hj0
     ·omega
     ·have:=(List.pairwise_iff_getElem.1 ha) 0 j hne hjl hj0;omega
    exact hneg x (by omega)
   ·left;simpa using hx
 | succ k ih =>
   intro hk
   have hk':k<S.length:=by omega
   have ih:=ih (by omega)
   have hlt:=starts_lt ha hU k hk'
   have hbk:=bound_at (U:=U) hk'
   have hstep:∀ x,x<boundS U S (k+1)→boundS U S k≤x→P x=P ((S).getD k 0):=by
    intro x hx1 hx2
    by_cases hxU:x≤U
    ·exact hc k hk' x (by omega) hx1 hxU
    ·exfalso
     have:boundS U S (k+1)≤U+1:=by
      unfold boundS
      split
      ·rename_i y hy
       have:=hU y (List.mem_of_getElem? hy);omega
      ·omega
     omega
   unfold goP
   generalize hS:(S).getD k 0=s at *
   cases hh:P s with
   | false =>
     rw [if_neg (by simp)]
     refine ⟨ih.can,fun x => ?_,fun y hy=>by have:=ih.low y hy;omega⟩
     rw [ih.has x]
     by_cases hx:x<boundS U S k
     ·rw [show decide (x<boundS U S k)=true by simpa using hx,show decide (x<boundS U S (k+1))=true by simp;omega]
     ·rw [show decide (x<boundS U S k)=false by simpa using hx]
      by_cases hx2:x<boundS U S (k+1)
      ·rw [hstep x hx2 (by omega),hh];simp
      ·rw [show decide (x<boundS U S (k+1))=false by simpa using hx2]
   | true =>
     rw [if_pos rfl]
     have hp:pieceS U S k=(s,boundS U S (k+1) - 1):=by unfold pieceS;rw [hS]
     rw [hp]
     have hnew:∀ x,inI (s,boundS U S (k+1) - 1) x=(decide (s≤x) && decide (x<boundS U S (k+1))):=by
      intro x;unfold inI;rw [Bool.eq_iff_iff];simp;omega
     have hall:∀ x,(hasL (goP U P S k) x || inI (s,boundS U S (k+1) - 1) x)=(decide (x<boundS U S (k+1)) && P x):=by
      intro x
      rw [ih.has x,hnew x]
      by_cases hx:x<boundS U S k
      ·rw [show decide (x<boundS U S k)=true by simpa using hx,show decide (x<boundS U S (k+1))=true by simp;omega,show decide (s≤x)=false by simp;omega];simp
      ·rw [show decide (x<boundS U S k)=false by simpa using hx]
       by_cases hx2:x<boundS U S (k+1)
       ·rw [hstep x hx2 (by omega),hh,show decide (x<boundS U S (k+1))=true by simpa using hx2,show decide (s≤x)=true by simp;omega];simp
       ·rw [show decide (x<boundS U S (k+1))=false by simpa using hx2];simp
     by_cases hL:goP U P S k = []
     ·rw [hL,putL_nil]
      refine ⟨⟨by simp;omega,by simp,trivial⟩,fun x => ?_,fun y hy => ?_⟩
      ·rw [← hall x,hL];simp [hasL]
      ·rw [List.mem_singleton.1 hy];simp;omega
     ·obtain ⟨m,y,hm⟩:=snoc_of hL
      rw [hm] at ih hall ⊢
      obtain ⟨c1,c2,c3⟩:=(canon_snoc m y).1 ih.can
      have hyl:=ih.low y (by simp)
      by_cases hn:y.2+1=s
      ·rw [putL_near m y _ (by simpa using hn)]
       refine ⟨(canon_snoc _ _).2 ⟨c1,by simp;omega,c3⟩,fun x => ?_,fun u hu => ?_⟩
       ·rw [← hall x,hasL_append,hasL_append,Bool.or_assoc]
        congr 1
        unfold hasL inI
        simp only [List.any_cons,List.any_nil,Bool.or_false]
        rw [Bool.eq_iff_iff]
        simp
        omega
       ·rcases List.mem_append.1 hu with hu | hu
        ·have:=ih.low u (by simp [hu]);omega
        ·rw [List.mem_singleton.1 hu];simp;omega
      ·rw [putL_far m y _ (by simpa using hn)]
       refine ⟨(canon_snoc _ _).2 ⟨ih.can,by simp;omega,fun u hu => ?_⟩,fun x => ?_,fun u hu => ?_⟩
       ·rw [List.getLast?_concat] at hu;cases hu;simp;omega
       ·rw [← hall x,hasL_append];simp [hasL]
       ·rcases List.mem_append.1 hu with hu | hu
        ·have:=ih.low u hu;omega
        ·rw [List.mem_singleton.1 hu];simp;omega
theorem bound_all (U:Int) (S:List Int):boundS U S S.length=U+1:=by unfold boundS;rw [List.getElem?_eq_none_iff.2 (Nat.le_refl _)]
def okL (U:Int) (l:List Iv):Prop:=∀ y ∈ l,0≤y.1∧y.1≤y.2∧y.2≤U
theorem part_same {U:Int} {l m:List Iv} (hs:∀ y ∈ l,y ∈ m) (k:Nat) (hk:k<(startsL U m).length) (hb:∀ y ∈ l,y.2≤U) (z:Int) (h1:(startsL U m).getD k 0≤z) (h2:z<boundS U (startsL U m) (k+1)) (hz:z≤U) :
 hasL l z=hasL l ((startsL U m).getD k 0):=by
 have ha:=starts_asc U m
 rw [Bool.eq_iff_iff,hasL_iff,hasL_iff]
 constructor
 ·rintro ⟨y,hy,h3,h4⟩
  refine ⟨y,hy,?_,by omega⟩
  apply Classical.byContradiction;intro hn
  have:=no_start ha k hk y.1 z ((starts_mem U m _).2 (.inr ⟨y,hs y hy,.inl rfl⟩)) (by omega) h2
  omega
 ·rintro ⟨y,hy,h3,h4⟩
  refine ⟨y,hy,by omega,?_⟩
  apply Classical.byContradiction;intro hn
  have hyu:y.2<U:=by have:=hb y hy;omega
  have:=no_start ha k hk (y.2+1) z ((starts_mem U m _).2 (.inr ⟨y,hs y hy,.inr ⟨hyu,rfl⟩⟩)) (by omega) h2
  omega
theorem has_low {U:Int} {l:List Iv} (h:okL U l) {x:Int} (hx:x<0):hasL l x=false:=by
 rw [Bool.eq_false_iff]
 intro hh
 obtain ⟨y,hy,h1,h2⟩:=(hasL_iff _ _).1 hh
 have:=h y hy
 omega
theorem has_high {U:Int} {l:List Iv} (h:okL U l) {x:Int} (hx:U<x):hasL l x=false:=by
 rw [Bool.eq_false_iff]
 intro hh
 obtain ⟨y,hy,h1,h2⟩:=(hasL_iff _ _).1 hh
 have:=h y hy
 omega
theorem starts_range {U:Int} (h0U:0≤U) {l:List Iv} (h:okL U l):∀ y ∈ startsL U l,0≤y∧y≤U:=by
 intro y hy
 rcases (starts_mem U l y).1 hy with rfl | ⟨z,hz,rfl | ⟨h1,rfl⟩⟩
 ·exact ⟨by omega,h0U⟩
 ·have:=h z hz;omega
 ·have:=h z hz;omega
def opP (f:Bool→Bool→Bool) (a b:List Iv) (x:Int):Bool:=f (hasL a x) (hasL b x)
def opL (U:Int) (f:Bool→Bool→Bool) (a b:List Iv):List Iv:=goP U (opP f a b) (startsL U (a++b)) (startsL U (a++b)).length
theorem okL_app {U:Int} {a b:List Iv} (ha:okL U a) (hb:okL U b):okL U (a++b):=fun y hy=>(List.mem_append.1 hy).elim (ha y) (hb y)
theorem op_inv {U:Int} (h0U:0≤U) (f:Bool→Bool→Bool) (hf:f false false=false) {a b:List Iv} (ha:okL U a) (hb:okL U b) :
 ∀ k,k≤(startsL U (a++b)).length→PInv U (opP f a b) (startsL U (a++b)) k (goP U (opP f a b) (startsL U (a++b)) k):=
 pInv_go (starts_asc U _) ((starts_mem U _ 0).2 (.inl rfl)) (fun y hy=>(starts_range h0U (okL_app ha hb) y hy).1) (fun y hy=>(starts_range h0U (okL_app ha hb) y hy).2)
  (fun x hx=>by unfold opP;rw [has_low ha hx,has_low hb hx];exact hf)
  (fun k hk z h1 h2 h3=>by
    unfold opP
    rw [part_same (l:=a) (m:=a++b) (fun y hy=>List.mem_append_left _ hy) k hk (fun y hy=>(ha y hy).2.2) z h1 h2 h3,
     part_same (l:=b) (m:=a++b) (fun y hy=>List.mem_append_right _ hy) k hk (fun y hy=>(hb y hy).2.2) z h1 h2 h3])
theorem op_canon {U:Int} (h0U:0≤U) (f:Bool→Bool→Bool) (hf:f false false=false) {a b:List Iv} (ha:okL U a) (hb:okL U b):canon (opL U f a b):=(op_inv h0U f hf ha hb _ (Nat.le_refl _)).can
theorem op_has {U:Int} (h0U:0≤U) (f:Bool→Bool→Bool) (hf:f false false=false) {a b:List Iv} (ha:okL U a) (hb:okL U b) (x:Int):hasL (opL U f a b) x=f (hasL a x) (hasL b x):=by
 have h:=(op_inv h0U f hf ha hb _ (Nat.le_refl _)).has x
 rw [bound_all] at h
 rw [show opL U f a b=goP U (opP f a b) (startsL U (a++b)) (startsL U (a++b)).length from rfl,h]
 by_cases hx:x<U+1
 ·rw [show decide (x<U+1)=true by simpa using hx];rfl
 ·rw [show decide (x<U+1)=false by simpa using hx,has_high ha (by omega),has_high hb (by omega),hf];rfl
theorem op_unique {U:Int} (h0U:0≤U) (f:Bool→Bool→Bool) (hf:f false false=false) {a b m:List Iv} (ha:okL U a) (hb:okL U b) (hm:canon m) (h:∀ x,hasL m x=f (hasL a x) (hasL b x)):m=opL U f a b:=
 canon_unique _ _ hm (op_canon h0U f hf ha hb) fun x=>by rw [h x,op_has h0U f hf ha hb]
theorem pieceS_ok {U:Int} {S:List Int} (ha:ascL S) (h0:∀ y ∈ S,0≤y∧y≤U) (k:Nat) (hk:k<S.length):0≤(pieceS U S k).1∧(pieceS U S k).1≤(pieceS U S k).2∧(pieceS U S k).2≤U:=by
 have hlt:=starts_lt ha (fun y hy=>(h0 y hy).2) k hk
 have e:S.getD k 0=S[k]:=by simp [hk]
 have h1:=h0 S[k] (List.getElem_mem hk)
 unfold pieceS
 refine ⟨by simp only;omega,by simp only;omega,?_⟩
 simp only
 unfold boundS
 split
 ·rename_i y hy
  have:=h0 y (List.mem_of_getElem? hy)
  omega
 ·omega
theorem putL_ok {U:Int} {L:List Iv} {s:Iv} (h:okL U L) (hs:0≤s.1∧s.1≤s.2∧s.2≤U):okL U (putL L s):=by
 by_cases hL:L = []
 ·subst hL;rw [putL_nil];intro y hy;rw [List.mem_singleton.1 hy];exact hs
 ·obtain ⟨m,y,rfl⟩:=snoc_of hL
  have hy:=h y (by simp)
  by_cases hf:y.2+1=s.1
  ·rw [putL_near _ _ _ hf]
   intro z hz
   rcases List.mem_append.1 hz with hz | hz
   ·exact h z (by simp [hz])
   ·rw [List.mem_singleton.1 hz];exact ⟨hy.1,by simp only;omega,hs.2.2⟩
  ·rw [putL_far _ _ _ hf]
   intro z hz
   rcases List.mem_append.1 hz with hz | hz
   ·exact h z hz
   ·rw [List.mem_singleton.1 hz];exact hs
theorem goP_ok {U:Int} (P:Int→Bool) {S:List Int} (ha:ascL S) (h0:∀ y ∈ S,0≤y∧y≤U):∀ k,k≤S.length→okL U (goP U P S k):=by
 intro k
 induction k with
 | zero=>intro _ y hy;simp [goP] at hy
 | succ k ih =>
   intro hk
   unfold goP
   split
   ·exact putL_ok (ih (by omega)) (pieceS_ok ha h0 k (by omega))
   ·exact ih (by omega)
theorem putL_len (L:List Iv) (s:Iv):(putL L s).length≤L.length+1:=by
 by_cases h:L = []
 ·subst h;simp [putL]
 ·obtain ⟨m,y,rfl⟩:=snoc_of h
  by_cases hf:y.2+1=s.1
  ·rw [putL_near _ _ _ hf];simp
  ·rw [putL_far _ _ _ hf];simp
theorem goP_len {U:Int} (P:Int→Bool) (S:List Int):∀ k,(goP U P S k).length≤k:=by
 intro k
 induction k with
 | zero=>simp [goP]
 | succ k ih =>
   unfold goP
   split
   ·have:=putL_len (goP U P S k) (pieceS U S k);omega
   ·omega
theorem op_ok {U:Int} (h0U:0≤U) (f:Bool→Bool→Bool) {a b:List Iv} (ha:okL U a) (hb:okL U b):okL U (opL U f a b):=
 goP_ok _ (starts_asc U _) (starts_range h0U (okL_app ha hb)) _ (Nat.le_refl _)
theorem canon_okL {U:Int} {l:List Iv} (h:canon l) (hb:∀ y ∈ l,0≤y.1∧y.2≤U):okL U l:=fun y hy=>⟨(hb y hy).1,canon_ok l h y hy,(hb y hy).2⟩
end
end Go.Proofs.YtgcakgegboicjaaGreatDoor
