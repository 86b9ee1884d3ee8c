/- A tree whose nodes take intervals of pieces, and what is known below its nodes. Plain mathematics; no conditions of its own. -/
import Derived.Test.YtgcakgegboicjaaGreatDoorKGMath
import Derived.Test.YtgcakgegboicjaaGreatDoorKLPairs
namespace Go.Proofs.YtgcakgegboicjaaGreatDoor
section
open Go.RowKit
def covN:Nat→Nat→Nat→Nat→Bool
 | 0,_,_,_=>false
 | f+1,l,r,x=>decide (l<r) && ((decide (l % 2=1) && decide (x=l)) || (decide (r % 2=1) && decide (x+1=r)) || covN f ((l+1) / 2) (r / 2) x)
theorem covN_iff (f l r x:Nat):covN (f+1) l r x=true↔l<r∧((l % 2=1∧x=l)∨(r % 2=1∧x+1=r)∨covN f ((l+1) / 2) (r / 2) x=true):=by
 rw [covN]
 simp only [Bool.and_eq_true,Bool.or_eq_true,decide_eq_true_eq,or_assoc]
theorem covN_lt:∀ {f l r x:Nat},covN f l r x=true→x<r
 | 0,_,_,_,h=>by simp [covN] at h
 | f+1,l,r,x,h=>by
   rw [covN_iff] at h
   rcases h with ⟨h0,h | h | h⟩
   ·omega
   ·omega
   ·have:=covN_lt h;omega
theorem covN_none {f l r x:Nat} (h:r≤l):covN f l r x=false:=by
 cases f with
 | zero=>rfl
 | succ f=>rw [covN,decide_eq_false (by omega)];rfl
theorem div_pow (p j:Nat):p / 2 ^ (j+1)=p / 2 / 2 ^ j:=by rw [Nat.div_div_eq_div_mul,Nat.pow_succ,Nat.mul_comm]
theorem cov_up:∀ {f l r p:Nat},1≤l→r≤f→p<2*l→r≤2*p+1→((∃ j,covN f l r (p / 2 ^ j)=true)↔l≤p∧p<r)
 | 0,l,r,p,_,hf,_,_=>by
   constructor
   ·rintro ⟨j,h⟩;simp [covN] at h
   ·omega
 | f+1,l,r,p,h1,hf,h2,h3=>by
   by_cases hlr:l<r
   ·have ih:=cov_up (f:=f) (l:=(l+1) / 2) (r:=r / 2) (p:=p / 2) (by omega) (by omega) (by omega) (by omega)
    constructor
    ·rintro ⟨j,h⟩
     rw [covN_iff] at h
     obtain ⟨_,h⟩:=h
     cases j with
     | zero =>
       rw [Nat.pow_zero,Nat.div_one] at h
       rcases h with h | h | h
       ·omega
       ·omega
       ·have:=covN_lt h;omega
     | succ j =>
       rw [div_pow] at h
       have hle:p / 2 / 2 ^ j≤p / 2:=Nat.div_le_self _ _
       rcases h with h | h | h
       ·omega
       ·omega
       ·have:=ih.1 ⟨j,h⟩
        omega
    ·rintro ⟨h4,h5⟩
     by_cases ha:l % 2=1∧p=l
     ·exact ⟨0,by rw [covN_iff,Nat.pow_zero,Nat.div_one];exact ⟨hlr,.inl ha⟩⟩
     ·by_cases hb:r % 2=1∧p+1=r
      ·exact ⟨0,by rw [covN_iff,Nat.pow_zero,Nat.div_one];exact ⟨hlr,.inr (.inl hb)⟩⟩
      ·obtain ⟨j,h⟩:=ih.2 ⟨by omega,by omega⟩
       exact ⟨j+1,by rw [covN_iff,div_pow];exact ⟨hlr,.inr (.inr h)⟩⟩
   ·constructor
    ·rintro ⟨j,h⟩;rw [covN_none (by omega)] at h;cases h
    ·omega
theorem leaf_of {n:Nat}:∀ (d i:Nat),1≤i→i<2*n→2*n≤i+d→∃ p k,n≤p∧p<2*n∧p / 2 ^ k=i
 | 0,i,_,h2,h3=>by omega
 | d+1,i,h1,h2,h3=>by
   by_cases hn:n≤i
   ·exact ⟨i,0,hn,h2,by simp⟩
   ·obtain ⟨p,k,h4,h5,h6⟩:=leaf_of (n:=n) d (2*i) (by omega) (by omega) (by omega)
    refine ⟨p,k+1,h4,h5,?_⟩
    rw [Nat.pow_succ,← Nat.div_div_eq_div_mul,h6]
    omega
def uniV (Vs:List (VcT)):VcT:=Vs.foldl (opV orL) []
theorem uni_fold:∀ (Vs:List (VcT)) (A:VcT) (a b:Nat),(GoodV A∧∀ y ∈ A,canonB y.2.1 y.2.2=true)→smallV a b A→(∀ V ∈ Vs,GoodV V) →
 (GoodV (Vs.foldl (opV orL) A)∧∀ y ∈ Vs.foldl (opV orL) A,canonB y.2.1 y.2.2=true)∧smallV (a+sumA Vs) (b+sumB Vs) (Vs.foldl (opV orL) A)∧∀ r c:Int,0≤c→hasV (Vs.foldl (opV orL) A) r c=(hasV A r c || Vs.any fun V=>hasV V r c)
 | [],A,a,b,hA,sA,_=>⟨hA,sA,fun r c _=>by simp⟩
 | V :: Vs,A,a,b,hA,sA,h=>by
   have gV:=h V (by simp)
   obtain ⟨h1,h2,h3⟩:=uni_fold Vs (opV orL A V) (a+V.length) (b+bV V+3) (opV_good (fun _ _ h h'=>orL_good h h') hA.1 gV) (small_or hA.1 gV sA (small_self V)) fun U hU=>h U (List.mem_cons_of_mem _ hU)
   refine ⟨h1,?_,fun r c hc => ?_⟩
   ·rw [sumA_cons,sumB_cons]
    exact h2.mono (by omega) (by omega)
   ·rw [List.foldl_cons,h3 r c hc,List.any_cons,hasV_kn (or_good hA.1 gV) r hc,or_kn hA.1 gV,or_has (knV_good hA.1 r) (knV_good gV r),← hasV_kn hA.1 r hc,← hasV_kn gV r hc,Bool.or_assoc]
theorem uni_any {Vs:List (VcT)} (h:∀ V ∈ Vs,GoodV V):(GoodV (uniV Vs)∧∀ y ∈ uniV Vs,canonB y.2.1 y.2.2=true)∧smallV (sumA Vs) (sumB Vs) (uniV Vs)∧∀ r c:Int,0≤c→hasV (uniV Vs) r c=Vs.any fun V=>hasV V r c:=by
 obtain ⟨h1,h2,h3⟩:=uni_fold Vs [] 0 0 goodV_nil ⟨Nat.le_refl _,fun y hy=>by cases hy⟩ h
 rw [Nat.zero_add,Nat.zero_add] at h2
 refine ⟨h1,h2,fun r c hc => ?_⟩
 have:=h3 r c hc
 rw [hasV_nil,Bool.false_or] at this
 exact this
abbrev Job:=VcT × Nat × Nat
def covJ (n:Nat) (i:Nat) (j:Job):Bool:=covN (2*n) (j.2.1+n) (j.2.2+n) i
def upJ (n:Nat) (i:Nat) (j:Job):Bool:=(List.range (2*n)).any fun k=>covJ n (i / 2 ^ k) j
def actJ (q:Nat) (j:Job):Bool:=decide (j.2.1≤q) && decide (q<j.2.2)
def JobsOk (n:Nat) (J:List Job):Prop:=∀ j ∈ J,GoodV j.1∧j.2.1≤j.2.2∧j.2.2≤n
theorem pow_big {i k:Nat} (h:i≤k):i / 2 ^ k=0:=Nat.div_eq_of_lt (Nat.lt_of_le_of_lt h Nat.lt_two_pow_self)
theorem cov_zero {n:Nat} {j:Job} (hn:1≤n):covJ n 0 j=false:=by
 unfold covJ
 have key:∀ (f l r:Nat),1≤l→covN f l r 0=false:=by
  intro f
  induction f with
  | zero=>intros;rfl
  | succ f ih =>
    intro l r hl
    cases h:covN (f+1) l r 0 with
    | false=>rfl
    | true =>
      rw [covN_iff] at h
      rcases h with ⟨h0,h | h | h⟩
      ·omega
      ·omega
      ·rw [ih _ _ (by omega)] at h;cases h
 exact key _ _ _ (by omega)
theorem upJ_iff {n i:Nat} {j:Job} (hi:i<2*n):upJ n i j=true↔∃ k,covJ n (i / 2 ^ k) j=true:=by
 unfold upJ
 rw [List.any_eq_true]
 constructor
 ·rintro ⟨k,_,h⟩;exact ⟨k,h⟩
 ·rintro ⟨k,h⟩
  refine ⟨k,List.mem_range.2 (Decidable.byContradiction fun hk => ?_),h⟩
  rw [pow_big (by omega),cov_zero (by omega)] at h
  cases h
theorem upJ_step {n i:Nat} {j:Job} (hi:i<2*n):upJ n i j=(covJ n i j || upJ n (i / 2) j):=by
 rw [Bool.eq_iff_iff,Bool.or_eq_true,upJ_iff hi,upJ_iff (by omega)]
 constructor
 ·rintro ⟨k,h⟩
  cases k with
  | zero=>left;simpa using h
  | succ k=>right;exact ⟨k,by rw [← div_pow];exact h⟩
 ·rintro (h | ⟨k,h⟩)
  ·exact ⟨0,by simpa using h⟩
  ·exact ⟨k+1,by rw [div_pow];exact h⟩
theorem upJ_leaf {n q:Nat} {j:Job} (hj:j.2.1≤j.2.2∧j.2.2≤n) (hq:q<n):upJ n (q+n) j=actJ q j:=by
 rw [Bool.eq_iff_iff,upJ_iff (by omega)]
 unfold covJ actJ
 rw [cov_up (by omega) (by omega) (by omega) (by omega),Bool.and_eq_true,decide_eq_true_eq,decide_eq_true_eq]
 omega
theorem up_zero {n:Nat} {j:Job}:upJ n 0 j=false:=by
 unfold upJ
 cases n with
 | zero=>rfl
 | succ n =>
   rw [List.any_eq_false]
   intro k _
   rw [Nat.zero_div,cov_zero (by omega)]
   simp
theorem up_act {n i:Nat} (h1:1≤i) (hi:i<2*n):∃ q,q<n∧∀ j:Job,j.2.1≤j.2.2∧j.2.2≤n→upJ n i j=true→actJ q j=true:=by
 obtain ⟨p,k,h2,h3,h4⟩:=leaf_of (n:=n) (2*n) i h1 hi (by omega)
 refine ⟨p - n,by omega,fun j hj h => ?_⟩
 rw [← upJ_leaf hj (by omega),show p - n+n=p by omega,upJ_iff (by omega)]
 obtain ⟨m,h⟩:=(upJ_iff hi).1 h
 exact ⟨k+m,by rw [Nat.pow_add,← Nat.div_div_eq_div_mul,h4];exact h⟩
theorem filter_sub {α:Type} {p q:α→Bool} {l:List α} (h:∀ x ∈ l,p x=true→q x=true):(l.filter p).Sublist (l.filter q):=by
 have e:l.filter p=(l.filter q).filter p:=by
  rw [List.filter_filter]
  refine List.filter_congr fun x hx => ?_
  cases hp:p x with
  | false=>rfl
  | true=>rw [h x hx hp];rfl
 rw [e]
 exact List.filter_sublist
def knN (n:Nat) (J:List Job) (i:Nat):VcT:=uniV ((J.filter (upJ n i)).map (·.1))
def inN (n:Nat) (J:List Job) (i:Nat):List (VcT):=(J.filter (covJ n i)).map (·.1)
theorem knN_zero {n:Nat} {J:List Job}:knN n J 0 = []:=by
 unfold knN
 rw [List.filter_eq_nil_iff.2 fun j _=>by rw [up_zero];simp]
 rfl
theorem jobs_good {n:Nat} {J:List Job} (h:JobsOk n J) {p:Job→Bool}:∀ V ∈ (J.filter p).map (·.1),GoodV V:=fun V hV=>by
 obtain ⟨j,hj,rfl⟩:=List.mem_map.1 hV
 exact (h j (List.mem_filter.1 hj).1).1
def allI:List Iv := [(0,UM)]
def askN (n:Nat) (J:List Job) (i:Nat):KnT:=(inN n J i).map (fun V=>(allI,V)) ++ [(allI,knN n J (i / 2))]
theorem allI_good:GoodL allI:=good_one (by decide) (by decide) (by decide)
theorem allI_has:hasL allI 0=true:=by decide
theorem askN_good {n i:Nat} {J:List Job} (h:JobsOk n J):GoodK (askN n J i):=fun x hx=>by
 rcases List.mem_append.1 hx with hx | hx
 ·obtain ⟨V,hV,rfl⟩:=List.mem_map.1 hx
  exact ⟨allI_good,jobs_good h V hV⟩
 ·obtain rfl:=List.mem_singleton.1 hx
  exact ⟨allI_good,(uni_any (jobs_good h)).1.1⟩
theorem any_filter_or {α:Type} {p q r s:α→Bool} {l:List α} (h:∀ x ∈ l,p x=(q x || r x)):(l.filter p).any s=((l.filter q).any s || (l.filter r).any s):=by
 rw [List.any_filter,List.any_filter,List.any_filter,Bool.eq_iff_iff,Bool.or_eq_true,List.any_eq_true,List.any_eq_true,List.any_eq_true]
 constructor
 ·rintro ⟨x,hx,hh⟩
  rw [h x hx,Bool.and_eq_true,Bool.or_eq_true] at hh
  rcases hh with ⟨h1 | h1,h2⟩
  ·exact .inl ⟨x,hx,by rw [h1,h2];rfl⟩
  ·exact .inr ⟨x,hx,by rw [h1,h2];rfl⟩
 ·rintro (⟨x,hx,hh⟩ | ⟨x,hx,hh⟩) <;> obtain ⟨h1,h2⟩:=Bool.and_eq_true_iff.1 hh
  ·exact ⟨x,hx,by rw [h x hx,h1,h2];rfl⟩
  ·exact ⟨x,hx,by rw [h x hx,h1,h2,Bool.or_true];rfl⟩
theorem askN_at {n i:Nat} {J:List Job} (h:JobsOk n J) (hi:i<2*n):atK (askN n J i) 0=knN n J i:=by
 obtain ⟨a1,a2⟩:=atK_good (t:=0) (askN n J i) [] goodV_nil (askN_good h)
 obtain ⟨⟨b1,b2⟩,_,b3⟩:=uni_any (jobs_good h (p:=upJ n i))
 refine vec_ext a1 a2 b1 b2 fun r c hc => ?_
 have e:=atK_hasK (askN_good (i:=i) h) 0 r hc
 refine Eq.trans e (Eq.trans ?_ (b3 r c hc).symm)
 unfold askN hasK inN
 rw [List.any_append,List.any_map,List.any_map,List.any_map,any_filter_or (fun x _=>upJ_step hi)]
 have e2:(List.filter (covJ n i) J).any (((fun x:List Iv × VcT=>hasL x.1 0 && hasV x.2 r c) ∘ fun V=>(allI,V)) ∘ fun x=>x.1)=(List.filter (covJ n i) J).any ((fun V=>hasV V r c) ∘ fun x=>x.1):=by
  refine congrArg (List.any _) (funext fun x => ?_)
  show (hasL allI 0 && hasV x.1 r c)=_
  rw [allI_has];rfl
 rw [e2]
 congr 1
 have e3:=(uni_any (jobs_good h (p:=upJ n (i / 2)))).2.2 r c hc
 rw [List.any_cons,List.any_nil,Bool.or_false]
 show (hasL allI 0 && hasV (knN n J (i / 2)) r c)=_
 rw [allI_has,Bool.true_and]
 unfold knN
 rw [e3,List.any_map]
theorem askN_mid {n i:Nat} {J:List Job} (h:JobsOk n J) (h1:1≤i) (hi:i<2*n) (hs:∀ q,q<n→((J.filter (actJ q)).map (·.1)).length≤12∧sumA ((J.filter (actJ q)).map (·.1))≤300∧sumB ((J.filter (actJ q)).map (·.1))≤405):midA (askN n J i):=by
 have hup:∀ m,m<2*n→sumA ((J.filter (upJ n m)).map (·.1))≤300∧sumB ((J.filter (upJ n m)).map (·.1))≤405∧((J.filter (upJ n m)).map (·.1)).length≤12:=fun m hm=>by
  by_cases h0:m=0
  ·rw [h0,List.filter_eq_nil_iff.2 fun j _=>by rw [up_zero];simp];decide
  ·obtain ⟨q,hq,hh⟩:=up_act (n:=n) (i:=m) (by omega) hm
   have hsub:=List.Sublist.map (fun j:Job=>j.1) (filter_sub (p:=upJ n m) (q:=actJ q) (l:=J) fun j hj=>hh j (h j hj).2)
   have h2:=sum_sub hsub
   have h3:=hsub.length_le
   have:=hs q hq
   omega
 have hin:(inN n J i).Sublist ((J.filter (upJ n i)).map (·.1)):=List.Sublist.map (fun j:Job=>j.1) (filter_sub (p:=covJ n i) (q:=upJ n i) (l:=J) fun j _ hj=>by rw [upJ_step hi,hj];rfl)
 have k1:=hup i hi
 have k2:=hup (i / 2) (by omega)
 have k3:=sum_sub hin
 have k4:=hin.length_le
 obtain ⟨_,k5,_⟩:=uni_any (jobs_good h (p:=upJ n (i / 2)))
 have k6:=bV_le k5.2
 have k7:=k5.1
 have e:(askN n J i).map (·.2)=inN n J i ++ [knN n J (i / 2)]:=by
  unfold askN
  rw [List.map_append,List.map_map,show ((fun x:List Iv × VcT=>x.2) ∘ fun V=>(allI,V))=id from rfl,List.map_id]
  rfl
 have e2:(askN n J i).length=(inN n J i).length+1:=by unfold askN;simp
 refine ⟨by omega,?_,?_⟩
 ·rw [e,sumA_snoc];unfold knN;omega
 ·rw [e,sumB_snoc];unfold knN;omega
def lowI (P:List Iv) (z:Int):Nat:=(P.takeWhile fun p=>decide (p.1<z)).length
theorem lowI_le (P:List Iv) (z:Int):lowI P z≤P.length:=(List.takeWhile_sublist _).length_le
theorem lowI_iff:∀ {P:List Iv} {z:Int} {q:Nat} {p:Iv},P.Pairwise (fun a b=>a.1<b.1)→P[q]? = some p→(lowI P z≤q↔z≤p.1)
 | [],_,_,_,_,h=>by simp at h
 | a :: P,z,q,p,ha,h=>by
   obtain ⟨h1,h2⟩:=List.pairwise_cons.1 ha
   unfold lowI
   rw [List.takeWhile_cons]
   by_cases hz:a.1<z
   ·rw [if_pos (decide_eq_true hz),List.length_cons]
    cases q with
    | zero =>
      obtain rfl:a=p:=by simpa using h
      omega
    | succ q =>
      have ih:=lowI_iff (z:=z) h2 (show P[q]? = some p by simpa using h)
      unfold lowI at ih
      omega
   ·rw [if_neg (by simpa using hz)]
    have:a.1≤p.1:=by
     cases q with
     | zero=>obtain rfl:a=p:=by simpa using h
             exact Int.le_refl _
     | succ q=>have:=h1 p (List.mem_of_getElem? (show P[q]? = some p by simpa using h));omega
    simp
    omega
theorem lowI_mono:∀ {P:List Iv} {y z:Int},y≤z→lowI P y≤lowI P z
 | [],_,_,_=>Nat.le_refl _
 | a :: P,y,z,h=>by
   have ih:=lowI_mono (P:=P) h
   unfold lowI at ih ⊢
   rw [List.takeWhile_cons,List.takeWhile_cons]
   by_cases hy:a.1<y
   ·rw [if_pos (decide_eq_true hy),if_pos (decide_eq_true (show a.1<z by omega)),List.length_cons,List.length_cons];omega
   ·rw [if_neg (by simpa using hy)];simp
def jobF (P:List Iv) (x:List Iv × VcT):List Job:=x.1.map fun s=>(x.2,lowI P s.1,lowI P (s.2+1))
def jobsK (P:List Iv) (F:KnT):List Job:=F.flatMap (jobF P)
theorem jobs_ok {P:List Iv} {F:KnT} (hF:GoodK F):JobsOk P.length (jobsK P F):=fun j hj=>by
 obtain ⟨x,hx,hj⟩:=List.mem_flatMap.1 hj
 obtain ⟨s,hs,rfl⟩:=List.mem_map.1 hj
 have:=canon_ok x.1 (hF x hx).1.can s hs
 exact ⟨(hF x hx).2,lowI_mono (by omega),lowI_le _ _⟩
theorem one_len {t:Int}:∀ {l:List Iv},canon l→(l.filter fun s=>inI s t).length=if hasL l t=true then 1 else 0
 | [],_=>rfl
 | s :: l,h=>by
   have hl:canon l:=by
    cases l with
    | nil=>trivial
    | cons y l=>exact h.2.2
   have ih:=one_len (t:=t) hl
   have e:hasL (s :: l) t=(inI s t || hasL l t):=rfl
   rw [List.filter_cons,e]
   cases hs:inI s t with
   | false=>rw [if_neg (by simp),ih];rfl
   | true =>
     have h0:hasL l t=false:=by
      cases hh:hasL l t with
      | false=>rfl
      | true =>
        obtain ⟨y,hy,h1,h2⟩:=(hasL_iff l t).1 hh
        obtain ⟨k,hk⟩:=List.mem_iff_getElem?.1 hy
        have:=canon_up (s :: l) h 0 (k+1) s y (by omega) rfl (by simpa using hk)
        unfold inI at hs
        rw [Bool.and_eq_true,decide_eq_true_eq,decide_eq_true_eq] at hs
        omega
     rw [h0] at ih
     rw [if_pos rfl,List.length_cons,ih]
     rfl
theorem const_rep {α β:Type} {f:α→β} {b:β}:∀ {l:List α},(∀ x ∈ l,f x=b)→l.map f=List.replicate l.length b
 | [],_=>rfl
 | x :: l,h=>by rw [List.map_cons,List.length_cons,List.replicate_succ,const_rep fun y hy=>h y (List.mem_cons_of_mem _ hy),h x (by simp)]
theorem jobs_act {P:List Iv} (hP:P.Pairwise fun a b=>a.1<b.1) {q:Nat} {p:Iv} (hq:P[q]? = some p):∀ {F:KnT},GoodK F→((jobsK P F).filter (actJ q)).map (·.1)=(F.filter fun x=>hasL x.1 p.1).map (·.2)
 | [],_=>rfl
 | x :: F,h=>by
   have ih:=jobs_act hP hq (goodK_cons h).2
   have e:jobsK P (x :: F)=jobF P x++jobsK P F:=by unfold jobsK;rw [List.flatMap_cons]
   rw [e,List.filter_append,List.map_append,ih,List.filter_cons]
   have e1:((jobF P x).filter (actJ q)).map (·.1)=List.replicate (x.1.filter fun s=>inI s p.1).length x.2:=by
    unfold jobF
    rw [List.filter_map,List.map_map]
    have e2:(actJ q ∘ fun s:Iv=>((x.2,lowI P s.1,lowI P (s.2+1)):Job))=fun s=>inI s p.1:=by
     refine funext fun s => ?_
     show (decide (lowI P s.1≤q) && decide (q<lowI P (s.2+1)))=(decide (s.1≤p.1) && decide (p.1≤s.2))
     have h1:=lowI_iff (z:=s.1) hP hq
     have h2:=lowI_iff (z:=s.2+1) hP hq
     congr 1
     ·exact decide_eq_decide.2 h1
     ·exact decide_eq_decide.2 (by omega)
    rw [e2]
    exact const_rep fun s _=>rfl
   rw [e1,one_len (goodK_cons h).1.1.can]
   split <;> simp
def deepK (F:KnT):Prop:=∀ t:Int,((F.filter fun x=>hasL x.1 t).map (·.2)).length≤12∧sumA ((F.filter fun x=>hasL x.1 t).map (·.2))≤300∧sumB ((F.filter fun x=>hasL x.1 t).map (·.2))≤405
theorem pieces_lo {F:KnT} (hF:GoodK F):(piecesK F).Pairwise fun a b=>a.1<b.1:=
 (piecesK_asc hF).imp_of_mem fun {a b} ha _ h=>by have:=(piecesK_mem hF ha).1.2.1;omega
theorem leaf_known {F:KnT} (hF:GoodK F) {q:Nat} {p:Iv} (hq:(piecesK F)[q]? = some p):knN (piecesK F).length (jobsK (piecesK F) F) (q+(piecesK F).length)=atK F p.1:=by
 have hlt:=(List.getElem?_eq_some_iff.1 hq).1
 have e:(jobsK (piecesK F) F).filter (upJ (piecesK F).length (q+(piecesK F).length))=(jobsK (piecesK F) F).filter (actJ q):=List.filter_congr fun j hj=>upJ_leaf (jobs_ok hF j hj).2 hlt
 unfold knN
 rw [e,jobs_act (pieces_lo hF) hq hF]
 have hg:∀ V ∈ (F.filter fun x=>hasL x.1 p.1).map (·.2),GoodV V:=fun V hV=>by
  obtain ⟨x,hx,rfl⟩:=List.mem_map.1 hV
  exact (hF x (List.mem_filter.1 hx).1).2
 obtain ⟨⟨a1,a2⟩,_,a3⟩:=uni_any hg
 obtain ⟨b1,b2⟩:=atK_good (t:=p.1) F [] goodV_nil hF
 refine vec_ext a1 a2 b1 b2 fun r c hc => ?_
 rw [a3 r c hc]
 have e2:=atK_hasK hF p.1 r hc
 refine Eq.trans ?_ e2.symm
 rw [List.any_map,List.any_filter]
 rfl
theorem smallK.deep {F:KnT} (h:smallK F):deepK F:=fun t=>by
 have hl:((F.filter fun x=>hasL x.1 t).map (·.2)).length≤12:=by rw [List.length_map];exact Nat.le_trans (List.length_filter_le _ _) h.1
 have:=sum_le (n:=20) (m:=30) hl fun V hV=>by
  obtain ⟨x,hx,rfl⟩:=List.mem_map.1 hV
  exact (h.2 x (List.mem_filter.1 hx).1).2
 omega
end
section
open Go.RowKit Go.Maps
def boolR:Value→Option (DataW Value × List MemPlace)
 | .bool b=>some (.held (.bool b),[])
 | _=>none
abbrev setOwn (w:World) (b n:Nat) (D:DataW Value):Prop:=w.ownsMap Tryz.prog 36 boolR b n D
def EndP (l:List Iv) (x:Int):Prop:=∃ s ∈ l,(0<s.1∧x=s.1 - 1)∨x=s.2
structure EndsD (l:List Iv) (D:DataW Value):Prop where
 isMap:IsMap D
 has:∀ x:Int,Maps.has D (.int .u64 x)=true↔EndP l x
theorem EndsD.start:EndsD [] (.map []):=⟨isMap_empty,fun x=>by simp [Maps.has,EndP]⟩
theorem endP_snoc {l:List Iv} {s:Iv} {x:Int}:EndP (l ++ [s]) x↔EndP l x∨(0<s.1∧x=s.1 - 1)∨x=s.2:=by
 unfold EndP
 constructor
 ·rintro ⟨y,hy,h⟩
  rcases List.mem_append.1 hy with hy | hy
  ·exact .inl ⟨y,hy,h⟩
  ·obtain rfl:=List.mem_singleton.1 hy
   exact .inr h
 ·rintro (⟨y,hy,h⟩ | h)
  ·exact ⟨y,List.mem_append_left _ hy,h⟩
  ·exact ⟨s,by simp,h⟩
theorem has_put {D:DataW Value} (h:IsMap D) {a:Int} (hk:WideAt.IsKeyLit (.int .u64 a)) (v:DataW Value) (x:Int):Maps.has (D.put (.int .u64 a) v) (.int .u64 x)=true↔Maps.has D (.int .u64 x)=true∨x=a:=by
 by_cases e:x=a
 ·subst e;rw [has_put_same h hk];simp
 ·rw [has_put_other (lit_ne e)];simp [e]
theorem EndsD.two {l:List Iv} {D:DataW Value} {s:Iv} (h:EndsD l D) (h0:0<s.1) (k1:WideAt.IsKeyLit (.int .u64 (s.1 - 1))) (k2:WideAt.IsKeyLit (.int .u64 s.2)) (u v:DataW Value):EndsD (l ++ [s]) ((D.put (.int .u64 (s.1 - 1)) u).put (.int .u64 s.2) v):=by
 refine ⟨(h.isMap.put _ _).put _ _,fun x => ?_⟩
 rw [has_put (h.isMap.put _ _) k2,has_put h.isMap k1,h.has x,endP_snoc]
 constructor
 ·rintro ((h1 | h1) | h1)
  ·exact .inl h1
  ·exact .inr (.inl ⟨h0,h1⟩)
  ·exact .inr (.inr h1)
 ·rintro (h1 | ⟨_,h1⟩ | h1)
  ·exact .inl (.inl h1)
  ·exact .inl (.inr h1)
  ·exact .inr h1
theorem EndsD.one {l:List Iv} {D:DataW Value} {s:Iv} (h:EndsD l D) (h0:s.1=0) (k2:WideAt.IsKeyLit (.int .u64 s.2)) (v:DataW Value):EndsD (l ++ [s]) (D.put (.int .u64 s.2) v):=by
 refine ⟨h.isMap.put _ _,fun x => ?_⟩
 rw [has_put h.isMap k2,h.has x,endP_snoc]
 constructor
 ·rintro (h1 | h1)
  ·exact .inl h1
  ·exact .inr (.inr h1)
 ·rintro (h1 | ⟨h1,_⟩ | h1)
  ·exact .inl h1
  ·omega
  ·exact .inr h1
def IsEnds (l:List Iv) (w:World) (e:Ending) (w':World):Prop:=∃ b D,e = .returned (.map (some b))∧setOwn w' b 3000 D∧(∀ x:Int,Maps.has D (.int .u64 x)=true↔EndP l x∧x≠UM)∧Below w.heap.size w w'
theorem below_grown {h:Nat} {w w1 w2:World} (hb:Below h w w1) (hg:w1.grownBy w2 (some h)) (hh:h≤w1.heap.size):Below h w w2:=
 hb.trans ((Apart.of_grown (q:=fun j=>j=h) hg (fun j e=>by cases e;rfl)).below hh (fun j hj e=>by omega))
set_option maxRecDepth 100000 in
set_option maxHeartbeats 4000000 in
theorem ends_any (F:KnT) (v:Value) (w:World) (hv:KnoM w v F) (hF:GoodK F) (hs:midI F):Calls Tryz.prog 252 #[v] w (IsEnds (flatK F) w):=by
 obtain ⟨p,cap,rfl⟩:=hv.shape
 obtain ⟨h,hh⟩:∃ h,w.heap.size=h:=⟨_,rfl⟩
 have hlen:=hs.1
 have h64:∀ x ∈ F,All64 x.1:=fun x hx=>(hF x hx).1.all
 have hfl:∀ k,(flatK (F.take k)).length≤1000:=fun k=>by
  have e:flatK F=flatK (F.take k)++flatK (F.drop k):=by unfold flatK;rw [← List.flatMap_append,List.take_append_drop]
  have h1:=hs.2
  rw [e,List.length_append] at h1
  omega
 have h20:∀ (i:Nat) x,F[i]? = some x→x.1.length≤1000:=fun i x hx=>Nat.le_trans (flat_of_mem (List.mem_of_getElem? hx)) hs.2
 have HV:=qh hv
 have HF:=qh (And.intro h64 (And.intro hfl h20))
 have HM0:=qh (hh ▸ World.ownsMap_made w Tryz.prog 36 boolR:setOwn (w.alloc (.map #[] 0)) h 0 (.map []))
 have HB0:=qh (hh ▸ below_new w (.map #[] 0):Below h w (w.alloc (.map #[] 0)))
 have hmm:(Instr.makeMap 295 none).run Tryz.prog w = .ok (.map (some w.heap.size)) (w.alloc (.map #[] 0)):=by simp [Instr.makeMap,go_sem,Result.andThen]
 rw [hh] at hmm
 have HH:=qh hh
 clear hv hF hs h64 hfl h20 hh
 go_enter Tryz.func252,Tryz.ntmps252
 go_wp2_with fail
 go_loopw [13] (fun i wr=>∃ (k n:Nat) (D:DataW Value),i = .int .i64 k∧k≤F.length∧setOwn wr h n D∧n≤2*(flatK (F.take k)).length∧EndsD (flatK (F.take k)) D∧Below h w wr) (fun i _=>F.length - (intOf i).toNat)
 case atStart=>exact ⟨0,0,_,rfl,Nat.zero_le _,HM0.out,Nat.zero_le _,EndsD.start,HB0.out⟩
 case round =>
  clear HM0 HB0
  obtain ⟨k,n,D,rfl,hk,hown,hn,hD,hb⟩:=hrel
  have HB:=qh hb;clear hb
  have HD:=qh hD;clear hD
  have hhr:h<wr.heap.size:=hown.lt
  by_cases hlt:k<F.length
  ·obtain ⟨⟨L,V⟩,hx⟩:∃ x,F[k]? = some x:=⟨F[k],by simp [hlt]⟩
   obtain ⟨b,o,cap',p1,c1,q1,d1,e,c0,c1',hf⟩:=HV.out.elem hx
   cases e
   have HI:=qh hf.at1
   have HL:=qh (And.intro (HF.out.1 _ (List.mem_of_getElem? hx)) (flatK_snoc hx))
   have hl20:=HF.out.2.2 k _ hx
   have hfk:=HF.out.2.1 (k+1)
   rw [HL.out.2,List.length_append] at hfk
   dsimp only at hl20 hfk HL
   have t0:=keep_cell c0 (HH.out ▸ HB.out)
   have t1:=keep_cell c1' (HH.out ▸ HB.out)
   obtain ⟨wE,hwE⟩:∃ wE,wr.alloc (.cells #[.slice p1 L.length c1,.slice q1 V.length d1] 46)=wE:=⟨_,rfl⟩
   have hbE:Below wr.heap.size wr wE:=hwE ▸ below_new wr _
   have s0:wE.cell? ⟨wr.heap.size,0,none⟩=some (.slice p1 L.length c1):=by rw [← hwE];simp
   have HOE:=qh (map_apart hown (Apart.of_below (fun _=>False) hbE) id)
   have HBE:=qh (HB.out.trans (hbE.mono (Nat.le_of_lt hhr)))
   have i1:(0:Int)≤(k:Int):=by omega
   have i2:(k:Int)<(F.length:Int):=by omega
   clear hf hbE hx c0 c1' hown
   go_wp2_with fail
   clear hwE s0 t0 t1
   go_loopw [20] (fun i wr=>∃ (j n:Nat) (D:DataW Value),i = .int .i64 j∧j≤L.length∧setOwn wr h n D∧n≤2*((flatK (F.take k)).length+j)∧EndsD (flatK (F.take k)++L.take j) D∧Below h w wr) (fun i _=>L.length - (intOf i).toNat)
   case atStart=>exact ⟨0,n,D,rfl,Nat.zero_le _,HOE.out,by omega,by rw [List.take_zero,List.append_nil];exact HD.out,HBE.out⟩
   case round =>
    clear HOE HBE HD HB hn hhr
    obtain ⟨j,n,D,rfl,hj,hown,hn,hD,hb⟩:=hrel
    have HB:=qh hb;clear hb
    have HD:=qh hD;clear hD
    have hhr:h<wr.heap.size:=hown.lt
    by_cases hlt2:j<L.length
    ·obtain ⟨⟨y1,y2⟩,hy⟩:∃ y,L[j]? = some y:=⟨L[j],by simp [hlt2]⟩
     obtain ⟨b0,o0,cap0,e0,z0,z1⟩:=HI.out.elem hy
     cases e0
     have hy64:=HL.out.1 (y1,y2) (List.mem_of_getElem? hy)
     have a1:0≤y1:=hy64.1.1
     have a2:y1≤18446744073709551615:=hy64.1.2
     have a3:0≤y2:=hy64.2.1
     have a4:y2≤18446744073709551615:=hy64.2.2
     clear hy64
     have hU:UM=18446744073709551615:=rfl
     have t0:=keep_cell z0 (HH.out ▸ HB.out)
     have t1:=keep_cell z1 (HH.out ▸ HB.out)
     have HSN:=qh (show flatK (F.take k)++L.take (j+1)=(flatK (F.take k)++L.take j) ++ [(y1,y2)] by rw [List.take_add_one,hy];simp)
     obtain ⟨wE,hwE⟩:∃ wE,wr.alloc (.cells #[.int .u64 y1,.int .u64 y2] 84)=wE:=⟨_,rfl⟩
     have hbE:Below wr.heap.size wr wE:=hwE ▸ below_new wr _
     have s0:wE.cell? ⟨wr.heap.size,0,none⟩=some (.int .u64 y1):=by rw [← hwE];simp
     have s1:wE.cell? ⟨wr.heap.size,1,none⟩=some (.int .u64 y2):=by rw [← hwE];simp
     have hown1:=map_apart hown (Apart.of_below (fun _=>False) hbE) id
     have HBE:=qh (HB.out.trans (hbE.mono (Nat.le_of_lt hhr)))
     have hhE:h<wE.heap.size:=hown1.lt
     have hkey2:=key_is y2 (by omega) (by omega)
     have hk2:=key_lit y2 (by omega) (by omega)
     have i1:(0:Int)≤(j:Int):=by omega
     have i2:(j:Int)<(L.length:Int):=by omega
     have hmx:n+2<maxLen:=by unfold maxLen;omega
     clear hbE hy hown z0 z1
     by_cases h0:y1=0
     ·subst h0
      have HK:=qh hk2;clear hk2
      go_wp2_with fail
      refine (w_prev_zero _).mono ?_
      rintro e w' ⟨rfl,rfl⟩
      go_wp2_with (at_mapUpdate;go_loud (refine wpList_mapUpdate_own _ rfl _ _ _ 295 rfl 36 4 keyLaw Tryz.underlying295 boolR h n D rfl hown1 (by omega) (.int .u64 y2) (.bool true) (.int .u64 y2) rfl rfl hkey2 (.held (.bool true)) [] rfl ?_;intro w4 hown4 hgrow4))
      go_roundw
      case rel=>exact ⟨j+1,n+1,_,by go_num,by omega,hown4,by omega,by rw [HSN.out];exact HD.out.one rfl HK.out _,below_grown HBE.out hgrow4 (Nat.le_of_lt hhE)⟩
      case measure=>simp [intOf] <;> omega
     ·have hkey1:=key_is (y1 - 1) (by omega) (by omega)
      have HK:=qh (And.intro (key_lit (y1 - 1) (by omega) (by omega)) hk2);clear hk2
      have hpos:0<y1:=by omega
      obtain ⟨z,hz⟩:∃ z,y1 - 1=z:=⟨_,rfl⟩
      have KP:=qh (hz ▸ w_prev_any y1 wE hpos (by omega))
      rw [hz] at hkey1 HK
      have HZ:=qh (And.intro hz hpos);clear hz hpos h0
      go_wp2_with fail
      refine KP.out.mono ?_
      rintro e w' ⟨rfl,rfl⟩
      go_wp2_with (at_mapUpdate;first
       | (refine wpList_mapUpdate_own _ rfl _ _ _ 295 rfl 36 4 keyLaw Tryz.underlying295 boolR h n D rfl hown1 (by omega) (.int .u64 z) (.bool true) (.int .u64 z) rfl rfl hkey1 (.held (.bool true)) [] rfl ?_;intro w4 hown4 hgrow4;have s4:=(Apart.of_grown (q:=fun j=>j=h) hgrow4 (fun r e=>by cases e;rfl)).cell s1 (by show ¬ wr.heap.size=h;omega);have hh4:h<w4.heap.size:=hown4.lt)
       | (refine wpList_mapUpdate_own _ rfl _ _ _ 295 rfl 36 4 keyLaw Tryz.underlying295 boolR h (n+1) _ rfl hown4 (by omega) (.int .u64 y2) (.bool true) (.int .u64 y2) rfl rfl hkey2 (.held (.bool true)) [] rfl ?_;intro w5 hown5 hgrow5))
      go_roundw
      case rel=>exact ⟨j+1,n+2,_,by go_num,by omega,hown5,by omega,by rw [HSN.out];have:=HD.out.two (s:=(y1,y2)) HZ.out.2 (by rw [HZ.out.1];exact HK.out.1) HK.out.2 (.held (.bool true)) (.held (.bool true));dsimp only at this;rw [HZ.out.1] at this;exact this,below_grown (below_grown HBE.out hgrow4 (Nat.le_of_lt hhE)) hgrow5 (Nat.le_of_lt hh4)⟩
      case measure=>simp [intOf] <;> omega
    ·obtain rfl:j=L.length:=by omega
     rw [List.take_length,← HL.out.2] at HD
     have hl:=congrArg List.length HL.out.2
     rw [List.length_append] at hl
     go_wp2_with fail
     go_roundw
     case rel=>exact ⟨k+1,n,D,by go_num,by omega,hown,by omega,HD.out,HB.out⟩
     case measure=>simp [intOf] <;> omega
  ·obtain rfl:k=F.length:=by omega
   rw [List.take_length] at HD hn
   have hkm:=key_is 18446744073709551615 (by decide) (by decide)
   have hn2:n≤3000:=by have:=HF.out.2.1 F.length;rw [List.take_length] at this;omega
   go_wp2_with (at_delete;refine wpList_delete_own _ rfl _ _ 295 36 rfl 4 keyLaw Tryz.underlying295 boolR h n D rfl hown _ _ rfl hkm ?_;intro w1 hown1 hturn1)
   go_ret
   refine ⟨h,_,rfl,hown1.mono hn2,fun x => ?_,?_⟩
   ·by_cases e:x=18446744073709551615
    ·subst e
     rw [has_del_same]
     simp [show UM=18446744073709551615 from rfl]
    ·rw [has_del_other (lit_ne e),HD.out.has x]
     simp [show UM=18446744073709551615 from rfl,e]
   ·rw [HH.out]
    exact below_grown HB.out hturn1.grown (Nat.le_of_lt hhr)
end
section
open Go.RowKit Go.Maps
open Go.Sort hiding Below
attribute [local go_sem] Oper.semAt_some
set_option maxRecDepth 100000 in
set_option maxHeartbeats 4000000 in
theorem keysB_iter (n:Nat) (kb b nn lo:Nat) (D:DataW Value) (W0:World) (keep:Nat→Prop) (hkb:W0.cell? ⟨kb,0,none⟩=some (.map (some b))) (hown:setOwn W0 b nn D) (hb:keep b) (hlo:lo≤W0.heap.size) :
 IterP n Tryz.prog 295 #[.pointer (some ⟨kb,0,none⟩)] encK (fun front _=>front.length<nn) (fun L=>L.Nodup∧∀ x:Int,x ∈ L↔has D (.int .u64 x)=true) keep lo W0:=by
 intro l J Jx hA hY hJ0
 have HA:=qh hA;clear hA
 have HY:=qh hY;clear hY
 have HJ:=qh hJ0;clear hJ0
 have HK:=qh (And.intro hb hlo);clear hb hlo
 refine callsIn_of_wp Tryz.func295 rfl trivial ?_ rfl
 simp only [Tryz.ntmps295,List.size_toArray,List.length_cons,List.length_nil,Nat.reduceAdd,Nat.reduceSub,Array.replicate_succ,Array.replicate_zero,List.push_toArray,List.append_toArray,List.nil_append,List.cons_append]
 gi_wp2_with (first
  | (gi_at_range;refine wpListIn_range_own _ rfl _ 295 rfl 36 4 keyLaw Tryz.underlying295 _ b nn _ rfl hown ?_;intro w0 hrg0 hg0 hs0)
  | gi_in)
 go_frame
 have HS0:=qh (And.intro hg0 hs0);clear hg0 hs0
 have HX:=qh (show Ext keep (fun k=>keep k∨k=W0.heap.size) W0 w0 from Ext.one ((Apart.of_grown (q:=fun _=>False) HS0.out.1 (fun r e=>by cases e)).below (Nat.le_refl _) (fun _ _ h=>h)) (HA.out.low _ _ _ HJ.out) _ (Nat.le_refl _) (by rw [HS0.out.2];exact Nat.lt_succ_self _))
 obtain ⟨r,hr⟩:∃ r,W0.heap.size=r:=⟨_,rfl⟩
 rw [hr] at hrg0 HX ⊢
 have HR:=qh hr;clear hr
 gi_loopw [3] (fun _ wr=>∃ (left:Lit→Bool) (cnt:Nat) (ss:List Int) (T:Nat→Prop),wr.ranges Tryz.prog 36 boolR b r nn D left cnt∧Coll D left ss∧J ss T wr∧T b∧T r) (fun _ wr=>wr.rangeLeft b r)
 case atStart =>
  exact ⟨_,_,[],_,hrg0,Coll.start D,HA.out.go _ _ _ _ _ HJ.out HX.out,.inl HK.out.1,.inr rfl⟩
 case round =>
  obtain ⟨left,cnt,ss,T,hrg,hC,hJs,hTb,hTr⟩:=hrel
  have HC:=qh hC;clear hC
  have HT:=qh (And.intro hTb hTr);clear hTb hTr
  have HJS:=qh hJs;clear hJs
  gi_wp2_with (first
   | (gi_at_next;refine wpListIn_next_ranges _ rfl _ rfl 36 keyLaw boolR (Value.int .u64) id (fun key kl hk=>by obtain ⟨x,hx,_⟩:=Maps.keyOf_int_inv Tryz.underlying36 hk;exact ⟨x,hx⟩) (fun v _ _=>⟨v,rfl⟩) b r nn _ _ _ rfl hrg ?_ ?_)
   | gi_in)
  ·intro hc0 hl0
   gi_wp2
   go_end0
   exact ⟨⟨_,rfl⟩,.inl ⟨ss,T,HC.out.all hl0,HJS.out⟩⟩
  ·intro x c kl yd yp w2 cnt2 hkey hlk hv hat hrg2 hlt hg2 hs2 hen
   obtain ⟨x',ex,rfl,hwf⟩:=Maps.keyOf_int_inv Tryz.underlying36 hkey
   cases ex
   have HST:=qh (HC.out.step hlk (keyLaw.key hkey) hat)
   have hJ2:J ss T w2:=HA.out.mine _ _ r _ _ HJS.out HT.out.2 (by have:=HK.out.2;have:=HR.out;omega) (Apart.of_grown hg2 (fun k e=>by cases e;rfl))
   have hlen:ss.length<nn:=by
    have h1:=HST.out.len
    have h2:=hrg.owns.size_le
    rw [List.length_append,List.length_singleton] at h1
    omega
   obtain ⟨fn,tmps,assign,body,hy,hRd⟩:=HY.out ss x T w2 hJ2 hlen
   unfold encK at hy
   have HRG:=qh hrg2
   have HLT:=qh (And.intro hlt hrg.left_eq)
   clear hs2 hJ2 hlen hrg hrg2 hlt hg2 hv hat hlk hkey hwf
   gi_wp2
   refine ⟨fun h=>(by cases h),(RoundIn.anyDepth hRd).mono ?_⟩
   rintro e W3 ⟨hap,(⟨rfl,hJ3⟩ | ⟨rfl,hx3⟩)⟩
   ·have hrg3:=ranges_apart HRG.out hap (fun h=>h HT.out.1) (fun h=>h HT.out.2)
    have HJ3:=qh hJ3;clear hJ3 hap
    gi_wp2
    go_roundw
    case rel=>exact ⟨_,cnt2,ss ++ [x],T,hrg3,HST.out,HJ3.out,HT.out.1,HT.out.2⟩
    case measure=>rw [hrg3.left_eq,HLT.out.2];exact HLT.out.1
   ·have HX3:=qh hx3;clear hx3 hap
    gi_wp2
    refine bodyPost_ret (results_none rfl _ _ _) rfl ?_
    exact ⟨⟨_,rfl⟩,.inr HX3.out⟩
theorem boolKeys:KeysIt boolR 295:=⟨enters_of Tryz.func295 (by kernel_rfl) rfl,keysB_iter⟩
set_option maxRecDepth 100000 in
theorem mapsKeysB_any (mb:Option Nat) (w:World):Calls Tryz.prog 251 #[.map mb] w (fun e w'=>e = .returned (keysFn 295 w.heap.size)∧w'=w.alloc (.cells #[.map mb] 295)):=by
 go_enter Tryz.func251,Tryz.ntmps251
 go_wp2_with fail
 go_ret
 exact ⟨rfl,rfl⟩
theorem canon_pair {l:List Iv} (h:canon l) {u z:Iv} (hu:u ∈ l) (hz:z ∈ l):u=z∨u.2+1<z.1∨z.2+1<u.1:=by
 obtain ⟨i,hi⟩:=List.mem_iff_getElem?.1 hu
 obtain ⟨j,hj⟩:=List.mem_iff_getElem?.1 hz
 rcases Nat.lt_trichotomy i j with h1 | h1 | h1
 ·exact .inr (.inl (canon_up l h i j u z h1 hi hj))
 ·subst h1
  exact .inl (Option.some.inj (hi.symm.trans hj))
 ·exact .inr (.inr (canon_up l h j i z u h1 hj hi))
theorem ends_starts {F:KnT} (hF:GoodK F) {ks:List Int} (ha:ks.Pairwise (· < ·)) (hm:∀ x:Int,x ∈ ks↔EndP (flatK F) x∧x≠UM):startsK F=0 :: ks.map (· + 1):=by
 have hU:UM=18446744073709551615:=rfl
 have flat_in:∀ y ∈ flatK F,0≤y.1∧y.1≤y.2∧y.2≤UM:=fun y hy=>by
  obtain ⟨x,hx,hyx⟩:=flatK_mem hy
  have h1:=(hF x hx).1.all y hyx
  have h2:=canon_ok x.1 (hF x hx).1.can y hyx
  exact ⟨h1.1.1,h2,h1.2.2⟩
 have hnn:∀ x ∈ ks,0≤x∧x<UM:=fun x hx=>by
  obtain ⟨⟨y,hy,h⟩,hne⟩:=(hm x).1 hx
  have:=flat_in y hy
  omega
 have hasc:(0 :: ks.map (· + 1)).Pairwise (· < ·):=by
  refine List.pairwise_cons.2 ⟨fun y hy => ?_,List.pairwise_map.2 (ha.imp fun h=>by omega)⟩
  obtain ⟨x,hx,rfl⟩:=List.mem_map.1 hy
  have:=hnn x hx
  omega
 refine asc_same (startsK_asc F) hasc fun x => ?_
 rw [startsK_mem hF x,List.mem_cons]
 constructor
 ·rintro (h | ⟨h1,h2,h3⟩)
  ·exact .inl h
  ·refine .inr (List.mem_map.2 ⟨x - 1,(hm _).2 ⟨?_,by omega⟩,by omega⟩)
   obtain ⟨y,hy,hc⟩:=memF_ne h3
   obtain ⟨z,hz,h4⟩:=has_change hc
   refine ⟨z,List.mem_flatMap.2 ⟨y,hy,hz⟩,?_⟩
   rcases h4 with h4 | h4
   ·exact .inl ⟨by omega,by omega⟩
   ·exact .inr (by omega)
 ·rintro (h | h)
  ·exact .inl h
  ·obtain ⟨e,he,rfl⟩:=List.mem_map.1 h
   obtain ⟨⟨z,hz,hh⟩,hne⟩:=(hm e).1 he
   have h0:=hnn e he
   refine .inr ⟨by omega,by omega,fun heq => ?_⟩
   obtain ⟨y,hy,hzy⟩:=flatK_mem hz
   have hb:=memF_at heq y hy
   rw [show e+1 - 1=e by omega] at hb
   have hin:=flat_in z hz
   rcases hh with ⟨h1,h2⟩ | h2
   ·have h3:hasL y.1 (e+1)=true:=(hasL_iff _ _).2 ⟨z,hzy,by omega,by omega⟩
    rw [h3] at hb
    obtain ⟨u,hu,h4,h5⟩:=(hasL_iff _ _).1 hb
    rcases canon_pair (hF y hy).1.can hu hzy with e | e | e
    ·subst e;omega
    ·omega
    ·omega
   ·have h3:hasL y.1 e=true:=(hasL_iff _ _).2 ⟨z,hzy,by omega,by omega⟩
    rw [h3] at hb
    obtain ⟨u,hu,h4,h5⟩:=(hasL_iff _ _).1 hb.symm
    rcases canon_pair (hF y hy).1.can hu hzy with e | e | e
    ·subst e;omega
    ·omega
    ·omega
set_option maxRecDepth 100000 in
set_option maxHeartbeats 4000000 in
theorem starts_of (F:KnT) (v:Value) (w:World) (hv:KnoM w v F) (hF:GoodK F) (hs:midI F):Calls Tryz.prog 195 #[v] w (IsNums (startsK F) w):=by
 obtain ⟨i0,hi',hz0,hz1,hz2⟩:=info_parts infoU
 obtain ⟨p,cap,rfl⟩:=hv.shape
 have ho0:OwnN (w.alloc (.cells #[.int .u64 0] 36)) w.heap.size (.slice (some ⟨w.heap.size,0,none⟩) 1 1) [0]:=World.ownsRow_lit w #[.int .u64 0] 1 (Nat.le_refl _) (by decide) rfl
 have hb0:=below_new w (.cells #[.int .u64 0] 36)
 obtain ⟨W0,hW0⟩:∃ W0,w.alloc (.cells #[.int .u64 0] 36)=W0:=⟨_,rfl⟩
 rw [hW0] at ho0 hb0
 have K:=qh (ends_any F _ W0 (hv.call hb0) hF hs)
 have KM:=qh mapsKeysB_any
 have HF:=qh hF
 have HFL:=qh hs.2
 have HO:=qh ho0
 have HB:=qh hb0
 have HZ:=qh (show w.heap.size<W0.heap.size by rw [← hW0];simp)
 clear hv hF hs ho0 hb0
 go_enter Tryz.func195,Tryz.ntmps195
 go_wp2_with fail
 refine K.out.mono ?_
 rintro e w1 ⟨b,D,rfl,hown,hD,h1⟩
 have hbn:=below_new w1 (.cells #[.map (some b)] 295)
 obtain ⟨w2,hw2⟩:∃ w2,w1.alloc (.cells #[.map (some b)] 295)=w2:=⟨_,rfl⟩
 have hc:w2.cell? ⟨w1.heap.size,0,none⟩=some (.map (some b)):=by rw [← hw2];simp
 rw [hw2] at hbn
 have KS:=qh (sortedKeys_any boolKeys w1.heap.size b 3000 D w2 hc (map_apart hown (Apart.of_below (fun _=>False) hbn) id) (by omega))
 have HW:=qh (And.intro hw2 (below_call h1 hbn))
 have HD:=qh hD
 clear hown hD h1 hbn hc hw2
 unfold keysFn at KS KM
 go_wp2_with fail
 refine (KM.out _ _).mono ?_
 rintro e w3 ⟨rfl,hw3⟩
 rw [HW.out.1] at hw3
 obtain rfl:=hw3
 go_wp2_with fail
 refine KS.out.mono ?_
 rintro e w4 ⟨u,ks,rfl,h1,h2,h3,h4,h5⟩
 have HST:=qh (ends_starts HF.out h2 fun x=>(h3 x).trans (HD.out x))
 have HN:=qh (And.intro h1 h5)
 obtain ⟨pn,cn,rfl,hml,_⟩:=id h1
 have hlen:ks.length≤3000:=by
  have e:=congrArg List.length HST.out
  have h5:=startsK_len F
  rw [List.length_cons,List.length_map] at e
  have:=HFL.out
  omega
 have hrg:∀ x ∈ ks,0≤x∧x<18446744073709551615:=fun x hx=>by
  have h5:=startsK_top HF.out (x+1) (by rw [HST.out];exact List.mem_cons_of_mem _ (List.mem_map.2 ⟨x,hx,rfl⟩))
  have hU:UM=18446744073709551615:=rfl
  refine ⟨?_,by omega⟩
  have h6:=startsK_asc F
  rw [HST.out] at h6
  have:=(List.pairwise_cons.1 h6).1 (x+1) (List.mem_map.2 ⟨x,hx,rfl⟩)
  omega
 have HRG:=qh hrg
 have HB4:=qh (And.intro (below_call (below_call HB.out HW.out.2) h4) (below_call HW.out.2 h4))
 have HO4:=qh (HO.out.below HB4.out.2)
 have HNC:=qh hml
 clear hrg h1 h2 h3 h4 hml
 go_wp2_with fail
 go_loopw [3,12] (fun u i wr=>∃ k:Nat,i = .int .i64 k∧k≤ks.length∧OwnN wr w.heap.size u (0 :: (ks.take k).map (· + 1))∧Below w.heap.size w wr∧Apart (fun j=>j=w.heap.size∨w4.heap.size≤j) w4 wr∧∀ g,u.ownBlock=some g→g=w.heap.size∨w4.heap.size≤g) (fun _ i _=>ks.length - (intOf i).toNat)
 case atStart=>exact ⟨0,rfl,Nat.zero_le _,HO4.out,HB4.out.1,Apart.refl _ _,fun g hg => .inl (Option.some.inj hg).symm⟩
 case round =>
  obtain ⟨k,rfl,hk,hown,hb,hap,hgu⟩:=hrel
  have HBK:=qh hb;clear hb
  have HAP:=qh (And.intro hap hgu);clear hap hgu
  obtain ⟨pu,cu,rfl,_⟩:=own_shape hown
  have HOK:=qh hown;clear hown
  by_cases hlt:k<ks.length
  ·obtain ⟨x,hx⟩:∃ x,ks[k]? = some x:=⟨ks[k],by simp [hlt]⟩
   obtain ⟨p',cap',e',_,hcell⟩:=HN.out.1
   cases e'
   obtain ⟨b',o',e2,hcel2⟩:=hcell (by rintro rfl;simp at hlt)
   subst e2
   have c0:=HAP.out.1.cell (hcel2 k x hx) (by have h1:=HN.out.2 b' rfl;have h2:=HW.out.2.size;have h3:=HB.out.size;have h4:=World.block_lt_of_cell? w4 _ (hcel2 k x hx);show ¬ (b'=w.heap.size∨w4.heap.size≤b');have h5:b'<w4.heap.size:=h4;have:=HZ.out;omega)
   have hxr:=HRG.out x (List.mem_of_getElem? hx)
   have hwr:IntKind.u64.wrap (x+1)=x+1:=by simp [IntKind.wrap,IntKind.bits,IntKind.signed];omega
   have HSN:=qh (show 0 :: (ks.take (k+1)).map (· + 1)=(0 :: (ks.take k).map (· + 1)) ++ [x+1] by rw [List.take_add_one,hx];simp)
   have hll:(0 :: (ks.take k).map (· + 1)).length=k+1:=by simp;omega
   have HLL:=qh hll
   have hsz:=HBK.out.size
   have i1:(0:Int)≤(k:Int):=by omega
   have i2:(k:Int)<(ks.length:Int):=by omega
   clear hx hcell hcel2 hxr
   generalize (0 :: (ks.take k).map (· + 1))=L at *
   clear hll
   go_wp2_with (at_builtin;go_loud (refine wpList_append_own_at _ rfl _ _ 182 rfl w.heap.size 36 i0 (.int .u64 0) 1 8 Tryz.underlying182 hi' hz0 hz1 hz2 rfl (by decide) _ _ _ rfl (HOK.out.below (below_new _ _)) ⟨_,0,none⟩ 1 1 [.int .u64 (x+1)] rfl rfl (cell_one_at _ _ _ _ rfl) (by simp [Value.oneCell']) (by have:=HLL.out;unfold maxLen;omega) (by have:=HLL.out;omega) (by simp;omega) ?_;intro v' w5 hown' hgrow _ hat;obtain ⟨g',cap',rfl⟩:=ownsRow_succ hown';have HO5:=qh hown';clear hown';have HW5:=qh (own_grown (below_alloc HBK.out _) (HOK.out.below (below_new _ _)) hgrow (by simp;omega));have HW6:=qh (And.intro hgrow hat);clear hgrow hat))
   go_roundw
   case rel=>exact ⟨k+1,by go_num,by omega,by rw [HSN.out];simpa [OwnN,nmC] using HO5.out,HW5.out,(HAP.out.1.trans (Apart.alloc _ wr _)).trans (Apart.of_grown HW6.out.1 fun r e=>HAP.out.2 r e),fun g hg=>by
    rcases HW6.out.2 with e | e
    ·exact HAP.out.2 g (e ▸ hg)
    ·rw [e] at hg
     have h1:=Option.some.inj hg
     have h2:=HAP.out.1.size
     simp at h1
     exact .inr (by omega)⟩
   case measure=>simp [intOf] <;> omega
  ·obtain rfl:k=ks.length:=by omega
   rw [List.take_length,← HST.out] at HOK ⊢
   go_wp2_with fail
   go_ret
   exact ⟨_,rfl,HOK.out,HBK.out⟩
end
end Go.Proofs.YtgcakgegboicjaaGreatDoor
