/- Lists of intervals as sets of numbers: plain mathematics. -/
import Derived.Test.YtchndljcahjldaaGreatDoorMLaw
namespace Go.Proofs.YtchndljcahjldaaGreatDoor
section
variable {k:Nat} {S:List Int} {U x:Int}
abbrev Iv:=Int × Int
abbrev v6:=List (Int × Int × List Iv)
abbrev t8:=List (List Iv × v6)
def inI (y:Iv) (x:Int):Bool:=decide (y.1≤x) && decide (x≤y.2)
def y9 (l:List Iv) (x:Int):Bool:=l.any fun y=>inI y x
theorem ye1 (y:Iv) (x:Int):inI y x=true↔y.1≤x∧x≤y.2:=by unfold inI;simp
theorem t7 (l:List Iv) (x:Int):y9 l x=true↔∃ y ∈ l,y.1≤x∧x≤y.2:=by grind [y9,List.any_eq_true,ye1]
theorem yt4 (y:Iv) (l:List Iv) (x:Int):y9 (y :: l) x=(inI y x || y9 l x):=rfl
theorem b5 (l m:List Iv) (x:Int):y9 (l++m) x=(y9 l x || y9 m x):=List.any_append ..
theorem wg7 {l m:List Iv} (h:∀ x,y9 l x=true↔y9 m x=true):∀ x,y9 l x=y9 m x:=fun x=>Bool.eq_iff_iff.2 (h x)
def z47 (l:List Iv) (k:Nat):Int:=
 match l[k]? with
 | none=>0
 | some x=>if x.1≤x.2 then (if k=0 then 0 else match l[k - 1]? with | none=>0 | some y=>if y.2+1<x.1 then 0 else 3) else 2
def zv2 (l:List Iv):Option (Int × Nat):=(List.range l.length).findSome? fun k=>if z47 l k=0 then none else some (z47 l k,k)
theorem yk5 {l:List Iv} (h:∀ k,k<l.length→z47 l k=0):zv2 l=none:=by grind [zv2,List.findSome?_eq_none_iff]
theorem y19 {l:List Iv} (hk:k<l.length) (h:∀ j,j<k→z47 l j=0) (hb:z47 l k≠0):zv2 l=some (z47 l k,k):=by
 unfold zv2
 obtain ⟨m,hm⟩:∃ m,l.length=k+(m+1):=⟨l.length - k - 1,by omega⟩
 rw [hm,List.range_add,List.findSome?_append]
 have h1:(List.range k).findSome? (fun k=>if z47 l k=0 then none else some (z47 l k,k))=none:=by grind
 grind [List.range_succ_eq_map]
theorem yz4 {l:List Iv} (h:zv2 l=none):∀ k,k<l.length→z47 l k=0:=by grind [zv2,List.findSome?_eq_none_iff,z47]
theorem z64 {l:List Iv} {x:Iv} (h:l[k]? = some x) (hx:¬ x.1≤x.2):z47 l k=2:=by unfold z47;rw [h];simp only;rw [if_neg hx]
theorem zu2 {l:List Iv} {x:Iv} (h:l[0]? = some x) (hx:x.1≤x.2):z47 l 0=0:=by unfold z47;rw [h];simp only;rw [if_pos hx];rfl
theorem zl4 {l:List Iv} {x y:Iv} (h:l[k+1]? = some x) (hy:l[k]? = some y) (hx:x.1≤x.2) (hg:¬ y.2+1<x.1):z47 l (k+1)=3:=by grind [z47,Nat.add_sub_cancel]
theorem zr8 {l:List Iv} {x y:Iv} (h:l[k+1]? = some x) (hy:l[k]? = some y) (hx:x.1≤x.2) (hg:y.2+1<x.1):z47 l (k+1)=0:=by grind [z47,Nat.add_sub_cancel]
def m5:List Iv→Prop
 | []=>True
 | x :: l=>x.1≤x.2∧(∀ y,l.head? = some y→x.2+1<y.1)∧m5 l
theorem y20:∀ (l:List Iv),(∀ k,k<l.length→z47 l k=0)→m5 l
 | [],_=>trivial
 | x :: l,h=>by
   have h0:=h 0 (by simp)
   have hx:x.1≤x.2:=by
    apply Classical.byContradiction;intro hn
    rw [z64 (x:=x) (by simp) hn] at h0;cases h0
   refine ⟨hx,?_,y20 l ?_⟩
   ·intro y hy
    have h1:l[0]? = some y:=by rw [← List.head?_eq_getElem?];exact hy
    have hl:0<l.length:=by cases l with | nil=>cases hy | cons _ _=>simp
    have h2:=h 1 (by simp;omega)
    apply Classical.byContradiction;intro hn
    grind [zl4,z64]
   ·intro k hk
    have h2:=h (k+1) (by simp;omega)
    obtain ⟨z,hz⟩:∃ z,l[k]? = some z:=⟨l[k],by simp [hk]⟩
    have hz':(x :: l)[k+1]? = some z:=by simpa using hz
    have hz1:z.1≤z.2:=by
     apply Classical.byContradiction;intro hn
     grind [z64]
    cases k with
    | zero=>exact zu2 hz hz1
    | succ j =>
      obtain ⟨y,hy⟩:∃ y,l[j]? = some y:=⟨l[j],by simp [show j<l.length by omega]⟩
      have hy':(x :: l)[j+1]? = some y:=by simpa using hy
      apply zr8 hz hy hz1
      apply Classical.byContradiction;intro hn
      grind [zl4]
theorem y21:∀ (l:List Iv),m5 l→∀ k,k<l.length→z47 l k=0
 | [],_,k,hk=>absurd hk (Nat.not_lt_zero k)
 | x :: l,⟨hx,hh,hl⟩,k,hk=>by
   cases k with
   | zero=>exact zu2 (x:=x) (by simp) hx
   | succ j =>
     have hj:j<l.length:=by simpa using hk
     obtain ⟨z,hz⟩:∃ z,l[j]? = some z:=⟨l[j],by simp [hj]⟩
     have ih:=y21 l hl j hj
     have hz1:z.1≤z.2:=by
      apply Classical.byContradiction;intro hn
      grind [z64]
     cases j with
     | zero=>exact zr8 (x:=z) (y:=x) (by simpa using hz) (by simp) hz1 (hh z (by rw [List.head?_eq_getElem?];exact hz))
     | succ i =>
       obtain ⟨y,hy⟩:∃ y,l[i]? = some y:=⟨l[i],by simp [show i<l.length by omega]⟩
       refine zr8 (x:=z) (y:=y) (by simpa using hz) (by simpa using hy) hz1 ?_
       apply Classical.byContradiction;intro hn
       grind [zl4]
theorem y65 (l:List Iv):zv2 l=none↔m5 l:=⟨fun h=>y20 l (yz4 h),fun h=>yk5 (y21 l h)⟩
theorem z97:∀ (l:List Iv) (b:Int),m5 l→(∀ y,l.head? = some y→b<y.1)→∀ y ∈ l,b<y.1
 | [],_,_,_,y,h=>absurd h (by simp)
 | x :: l,b,⟨hx,hh,hl⟩,hb,y,hy=>by
   have hbx:=hb x rfl
   rcases List.mem_cons.1 hy with rfl | hy
   ·exact hbx
   ·have:=z97 l (x.2+1) hl hh y hy
    omega
theorem z13:∀ (l:List Iv),m5 l→∀ y ∈ l,y.1≤y.2
 | [],_,y,h=>absurd h (by simp)
 | x :: l,⟨hx,_,hl⟩,y,hy=>by
   rcases List.mem_cons.1 hy with rfl | hy
   ·exact hx
   ·exact z13 l hl y hy
theorem z98:∀ (l m:List Iv),m5 l→m5 m→(∀ x,y9 l x=y9 m x)→l=m
 | [],[],_,_,_=>rfl
 | [],y :: m,_,⟨hy,_⟩,h=>by
   have:=(h y.1).symm
   rw [(t7 _ _).2 ⟨y,by simp,Int.le_refl _,hy⟩] at this
   cases this
 | x :: l,[],⟨hx,_⟩,_,h=>by
   have:=h x.1
   rw [(t7 _ _).2 ⟨x,by simp,Int.le_refl _,hx⟩] at this
   cases this
 | x :: l,y :: m,⟨hx,hxh,hl⟩,⟨hy,hyh,hm⟩,h=>by
   have bl:=z97 l _ hl hxh
   have bm:=z97 m _ hm hyh
   have H:∀ z,(∃ u ∈ x :: l,u.1≤z∧z≤u.2)↔(∃ u ∈ y :: m,u.1≤z∧z≤u.2):=fun z=>by rw [← t7,← t7,h z]
   have e1:x.1=y.1:=by
    obtain ⟨u,hu,h1,h2⟩:=(H x.1).1 ⟨x,by simp,Int.le_refl _,hx⟩
    obtain ⟨v,hv,h3,h4⟩:=(H y.1).2 ⟨y,by simp,Int.le_refl _,hy⟩
    grind
   have e2:x.2=y.2:=by
    apply Classical.byContradiction;intro hne
    by_cases hlt:x.2<y.2
    ·obtain ⟨u,hu,h1,h2⟩:=(H (x.2+1)).2 ⟨y,by simp,by omega,by omega⟩
     grind
    ·obtain ⟨u,hu,h1,h2⟩:=(H (y.2+1)).1 ⟨x,by simp,by omega,by omega⟩
     grind
   have exy:x=y:=Prod.ext e1 e2
   subst exy
   refine congrArg _ (z98 l m hl hm (wg7 fun z => ?_))
   rw [t7,t7]
   constructor
   ·rintro ⟨u,hu,h1,h2⟩
    obtain ⟨v,hv,h3,h4⟩:=(H z).1 ⟨u,List.mem_cons_of_mem _ hu,h1,h2⟩
    grind
   ·rintro ⟨u,hu,h1,h2⟩
    obtain ⟨v,hv,h3,h4⟩:=(H z).2 ⟨u,List.mem_cons_of_mem _ hu,h1,h2⟩
    grind
theorem z86:∀ (l:List Iv) (s:Iv),m5 (l ++ [s])↔m5 l∧s.1≤s.2∧(∀ y,l.getLast? = some y→y.2+1<s.1)
 | [],s=>by simp [m5]
 | [x],s=>by grind [m5,List.head?_cons,List.head?_nil,List.getLast?_singleton,Option.some.injEq]
 | x :: z :: l,s=>by
   have ih:=z86 (z :: l) s
   have e:(x :: z :: l).getLast? = (z :: l).getLast? := by simp [List.getLast?_cons]
   grind [m5,List.head?_cons,Option.some.injEq]
theorem z79 {l:List Iv} (h:l ≠ []):∃ m y,l=m ++ [y]:=⟨l.dropLast,l.getLast h,(List.dropLast_concat_getLast h).symm⟩
def zi4 (L:List Iv) (s:Iv):List Iv:=
 match L.getLast? with
 | none => [s]
 | some y=>if y.2+1<s.1 then L ++ [s] else L.dropLast ++ [(y.1,if y.2<s.2 then s.2 else y.2)]
theorem y66 (s:Iv):zi4 [] s = [s]:=rfl
theorem zu3 (m:List Iv) (y s:Iv) (h:y.2+1<s.1):zi4 (m ++ [y]) s=m ++ [y] ++ [s]:=by grind [zi4,List.getLast?_concat]
theorem zn9 (m:List Iv) (y s:Iv) (h:¬ y.2+1<s.1):zi4 (m ++ [y]) s=m ++ [(y.1,if y.2<s.2 then s.2 else y.2)]:=by grind [zi4,List.getLast?_concat,List.dropLast_concat]
def z33 (l:List Iv):List Iv:=l.foldl zi4 []
theorem zi5 (l:List Iv) (s:Iv):z33 (l ++ [s])=zi4 (z33 l) s:=by unfold z33;rw [List.foldl_append];rfl
structure ws0 (l L:List Iv):Prop where
 can:m5 L
 has:∀ x,y9 L x=y9 l x
 lo:∀ y ∈ L,∃ z ∈ l,y.1=z.1
theorem wg8:ws0 [] []:=⟨trivial,fun _=>rfl,fun _ h=>absurd h (by simp)⟩
theorem w29 {l L:List Iv} {s:Iv} (h:ws0 l L) (hs:s.1≤s.2) (hle:∀ z ∈ l,z.1≤s.1):ws0 (l ++ [s]) (zi4 L s):=by
 by_cases hL:L = []
 ·subst hL
  rw [y66]
  refine ⟨⟨hs,by simp,trivial⟩,fun x => ?_,fun y hy=>⟨s,by simp,by rw [List.mem_singleton.1 hy]⟩⟩
  rw [b5,← h.has x];rfl
 ·obtain ⟨m,y,rfl⟩:=z79 hL
  obtain ⟨hm,hy,hlast⟩:=(z86 m y).1 h.can
  have hys:y.1≤s.1:=by
   obtain ⟨z,hz,e⟩:=h.lo y (by simp)
   grind
  by_cases hf:y.2+1<s.1
  ·rw [zu3 m y s hf]
   refine ⟨(z86 _ s).2 ⟨h.can,hs,fun u hu => ?_⟩,fun x => ?_,fun u hu => ?_⟩
   ·grind
   ·rw [b5 (m ++ [y]) [s],b5 l [s],h.has x]
   ·rcases List.mem_append.1 hu with hu | hu
    ·obtain ⟨z,hz,e⟩:=h.lo u hu;exact ⟨z,by simp [hz],e⟩
    grind
  ·rw [zn9 m y s hf]
   refine ⟨(z86 _ _).2 ⟨hm,?_,fun u hu => ?_⟩,fun x => ?_,fun u hu => ?_⟩
   ·omega
   ·exact hlast u hu
   ·rw [b5,b5,← h.has x,b5,Bool.or_assoc]
    grind [y9,inI]
   ·rcases List.mem_append.1 hu with hu | hu
    ·obtain ⟨z,hz,e⟩:=h.lo u (by simp [hu]);exact ⟨z,by simp [hz],e⟩
    ·obtain ⟨z,hz,e⟩:=h.lo y (by simp)
     grind
def zo0 (l:List Iv):Prop:=l.Pairwise fun a b=>a.1≤b.1
theorem y67:∀ (n:Nat) (l:List Iv),l.length=n→zo0 l→(∀ y ∈ l,y.1≤y.2)→ws0 l (z33 l):=by
 intro n
 induction n with
 | zero=>intro l hl _ _;rw [List.eq_nil_of_length_eq_zero hl];exact wg8
 | succ n ih =>
   intro l hl hs ho
   obtain ⟨m,s,rfl⟩:=z79 (l:=l) (by intro h;subst h;cases hl)
   have hp:=List.pairwise_append.1 hs
   rw [zi5]
   exact w29 (ih m (by simpa using hl) hp.1 fun y hy=>ho y (by simp [hy])) (ho s (by simp)) fun z hz=>hp.2.2 z hz s (by simp)
def yk6 (l:List Iv):List Iv:=z33 (l.mergeSort fun a b=>decide (a.1≤b.1))
theorem y68 (l:List Iv) (ho:∀ y ∈ l,y.1≤y.2):m5 (yk6 l)∧∀ x,y9 (yk6 l) x=y9 l x:=by
 have hp:(l.mergeSort fun a b=>decide (a.1≤b.1)).Perm l:=List.mergeSort_perm _ _
 have hs:zo0 (l.mergeSort fun a b=>decide (a.1≤b.1)):=by
  have:=List.pairwise_mergeSort (le:=fun a b:Iv=>decide (a.1≤b.1)) (by intro a b c h1 h2;simp at *;omega) (by intro a b;simp;omega) l
  exact this.imp (by intro a b h;simpa using h)
 have hi:=y67 _ _ rfl hs (fun y hy=>ho y (hp.mem_iff.1 hy))
 refine ⟨hi.can,fun x => ?_⟩
 rw [show yk6 l=z33 (l.mergeSort fun a b=>decide (a.1≤b.1)) from rfl,hi.has x]
 unfold y9
 grind
theorem xm2 {l d:List Iv} (hp:d.Perm l) (hs:zo0 d) (ho:∀ y ∈ l,y.1≤y.2):z33 d=yk6 l:=by
 have hi:=y67 _ _ rfl hs (fun y hy=>ho y (hp.mem_iff.1 hy))
 have hn:=y68 l ho
 refine z98 _ _ hi.can hn.1 fun x => ?_
 rw [hi.has x,hn.2 x]
 unfold y9
 grind
theorem xb0 {l m:List Iv} (ho:∀ y ∈ l,y.1≤y.2) (hm:m5 m) (h:∀ x,y9 m x=y9 l x):m=yk6 l:=
 z98 _ _ hm (y68 l ho).1 fun x=>by rw [h x,(y68 l ho).2 x]
def z06 (l:List Iv) (x:Int):Nat:=l.findIdx fun y=>decide (x≤y.2)
def zf9 (l:List Iv) (x:Int):Int:=match l[z06 l x]? with | some y=>if inI y x then (z06 l x:Int) else -1 | none => -1
theorem z59:∀ (l:List Iv),m5 l→∀ (i j:Nat) (y z:Iv),i<j→l[i]? = some y→l[j]? = some z→y.2+1<z.1
 | [],_,i,j,y,z,_,h,_=>by simp at h
 | x :: l,⟨hx,hh,hl⟩,i,j,y,z,hij,hi,hj=>by
   obtain ⟨j,rfl⟩:∃ k,j=k+1:=⟨j - 1,by omega⟩
   have hj':l[j]? = some z:=by simpa using hj
   cases i with
   | zero =>
     have:x=y:=by simpa using hi
     subst this
     exact z97 l _ hl hh z (List.mem_of_getElem? hj')
   | succ i=>exact z59 l hl i j y z (by omega) (by simpa using hi) hj'
theorem w30 {l:List Iv} (h:m5 l) (x:Int):(decide (0≤zf9 l x))=y9 l x:=by
 cases hf:l[z06 l x]? with
 | none =>
   have hv:zf9 l x = -1:=by unfold zf9;rw [hf]
   have hlen:l.length≤z06 l x:=List.getElem?_eq_none_iff.1 hf
   have:y9 l x=false:=by
    rw [Bool.eq_false_iff]
    grind [t7,z06,List.findIdx_lt_length_of_exists]
   grind
 | some y =>
   have hlt:z06 l x<l.length:=(List.getElem?_eq_some_iff.1 hf).1
   rcases Bool.eq_false_or_eq_true (inI y x) with hi | hi
   ·grind [zf9,z06,t7,List.mem_of_getElem?,ye1]
   ·have hv:zf9 l x = -1:=by unfold zf9;rw [hf];simp only;rw [if_neg (by rw [hi];simp)]
    have:y9 l x=false:=by
     rw [Bool.eq_false_iff]
     intro hh
     obtain ⟨z,hz,h1,h2⟩:=(t7 _ _).1 hh
     obtain ⟨j,hj⟩:=List.mem_iff_getElem?.1 hz
     have hge:z06 l x≤j:=by
      apply Classical.byContradiction;intro hn
      have:=List.not_of_lt_findIdx (p:=fun y:Iv=>decide (x≤y.2)) (xs:=l) (i:=j) (show j<z06 l x by omega)
      grind
     have hy2:x≤y.2:=by
      have:=List.findIdx_getElem (p:=fun y:Iv=>decide (x≤y.2)) (xs:=l) (w:=hlt)
      grind [z06,List.getElem?_eq_some_iff]
     rcases Nat.lt_or_eq_of_le hge with hlt2 | heq
     ·have:=z59 l h _ _ y z hlt2 hf hj
      omega
     grind [ye1]
    grind
theorem w31 (l:List Iv) (x:Int) : -1≤zf9 l x:=by grind [zf9]
def zg0 (S:List Int):Prop:=S.Pairwise (· < ·)
def b7 (S:List Int) (x:Int):List Int:=
 let k:=S.countP fun y=>decide (y≤x)
 if k=0 then x :: S else if S[k - 1]? = some x then S else S.take k++x :: S.drop k
theorem y69:∀ (S:List Int) (x:Int),zg0 S→(∀ y ∈ S.take (S.countP fun y=>decide (y≤x)),y≤x)∧(∀ y ∈ S.drop (S.countP fun y=>decide (y≤x)),x<y)
 | [],x,_=>by simp
 | a :: S,x,h=>by
   obtain ⟨h1,h2⟩:=List.pairwise_cons.1 h
   have ih:=y69 S x h2
   grind [List.countP_cons_of_pos,List.countP_eq_zero,List.countP_cons_of_neg]
theorem yz5 (_h:zg0 S) (x y:Int):y ∈ b7 S x↔y ∈ S∨y=x:=by grind [b7,List.mem_of_getElem?,List.take_append_drop]
theorem yz6 (h:zg0 S) (x:Int):zg0 (b7 S x):=by
 have hs:=y69 S x h
 unfold b7
 simp only
 split
 ·rename_i h0
  refine List.pairwise_cons.2 ⟨fun y hy => ?_,h⟩
  grind
 ·rename_i h0
  split
  ·exact h
  ·rename_i hx
   have hd:zg0 (S.drop (S.countP fun y=>decide (y≤x))):=h.sublist (List.drop_sublist _ _)
   have ht:zg0 (S.take (S.countP fun y=>decide (y≤x))):=h.sublist (List.take_sublist _ _)
   refine List.pairwise_append.2 ⟨ht,List.pairwise_cons.2 ⟨hs.2,hd⟩,fun a ha b hb => ?_⟩
   have hle:=hs.1 a ha
   rcases List.mem_cons.1 hb with rfl | hb
   ·apply Classical.byContradiction;intro hn
    obtain rfl:a=b:=by omega
    apply hx
    obtain ⟨j,hj⟩:=List.mem_iff_getElem?.1 ha
    have hjk:j<S.countP (fun y=>decide (y≤a)):=by grind
    have hjS:S[j]? = some a:=by rw [List.getElem?_take] at hj;rw [if_pos hjk] at hj;exact hj
    rcases Nat.lt_or_ge j (S.countP (fun y=>decide (y≤a)) - 1) with hlt | hge
    ·have hk1:S.countP (fun y=>decide (y≤a)) - 1<S.length:=by have:=List.countP_le_length (p:=fun y:Int=>decide (y≤a)) (l:=S);omega
     have hz:S[S.countP (fun y=>decide (y≤a)) - 1]? = some (S[S.countP (fun y=>decide (y≤a)) - 1]):=by simp [hk1]
     have hz2:=hs.1 _ (show S[S.countP (fun y=>decide (y≤a)) - 1] ∈ S.take (S.countP fun y=>decide (y≤a)) from List.mem_of_getElem? (i:=S.countP (fun y=>decide (y≤a)) - 1) (by rw [List.getElem?_take,if_pos (by omega)];exact hz))
     have hlt2:S[j]'(by omega)<S[S.countP (fun y=>decide (y≤a)) - 1]:=(List.pairwise_iff_getElem.1 h) j _ (by omega) hk1 hlt
     grind
    grind
   grind
def zg9 (U:Int) (l:List Iv):List Int:=0 :: l.flatMap fun y=>if y.2<U then [y.1,y.2+1] else [y.1]
theorem w32 (U:Int) (l:List Iv) (y:Iv):zg9 U (l ++ [y])=zg9 U l++if y.2<U then [y.1,y.2+1] else [y.1]:=by
 unfold zg9;simp [List.flatMap_append]
def r6 (U:Int) (l:List Iv):List Int:=(zg9 U l).foldl b7 []
theorem zc2:∀ (R S:List Int),zg0 S→zg0 (R.foldl b7 S)∧∀ y,y ∈ R.foldl b7 S↔y ∈ S∨y ∈ R
 | [],S,h=>⟨h,by simp⟩
 | x :: R,S,h=>by
   have ih:=zc2 R (b7 S x) (yz6 h x)
   grind [yz5]
theorem zg1 (U:Int) (l:List Iv):zg0 (r6 U l):=(zc2 _ _ List.Pairwise.nil).1
theorem zb1 (U:Int) (l:List Iv) (y:Int):y ∈ r6 U l↔y=0∨∃ z ∈ l,y=z.1∨(z.2<U∧y=z.2+1):=by
 unfold r6
 rw [(zc2 _ _ List.Pairwise.nil).2 y]
 grind [zg9]
def g8 (U:Int) (S:List Int) (k:Nat):Int:=match S[k]? with | some x=>x | none=>U+1
def b8 (U:Int) (S:List Int) (k:Nat):Iv:=(S.getD k 0,g8 U S (k+1) - 1)
def yk7 (L:List Iv) (s:Iv):List Iv:=
 match L.getLast? with
 | none => [s]
 | some y=>if y.2+1=s.1 then L.dropLast ++ [(y.1,s.2)] else L ++ [s]
theorem xb1 (s:Iv):yk7 [] s = [s]:=rfl
theorem zu4 (m:List Iv) (y s:Iv) (h:y.2+1=s.1):yk7 (m ++ [y]) s=m ++ [(y.1,s.2)]:=by grind [yk7,List.getLast?_concat,List.dropLast_concat]
theorem y22 (m:List Iv) (y s:Iv) (h:¬ y.2+1=s.1):yk7 (m ++ [y]) s=m ++ [y] ++ [s]:=by grind [yk7,List.getLast?_concat]
theorem yt5 (h:zg0 S) (hU:∀ y ∈ S,y≤U) (k:Nat) (hk:k<S.length):S.getD k 0<g8 U S (k+1):=by
 have e:S.getD k 0=S[k]:=by simp [hk]
 rw [e]
 unfold g8
 by_cases h2:k+1<S.length
 ·rw [show S[k+1]? = some S[k+1] by simp [h2]]
  simp only
  exact (List.pairwise_iff_getElem.1 h) k (k+1) hk h2 (by omega)
 grind [List.getElem?_eq_none_iff,List.getElem_mem]
theorem xb2 (hk:k<S.length):g8 U S k=S.getD k 0:=by grind [g8]
theorem xb3 (h:zg0 S) (k:Nat) (hk:k<S.length) (y z:Int) (hy:y ∈ S) (h1:S.getD k 0<y) (h2:z<g8 U S (k+1)):z<y:=by
 have e:S.getD k 0=S[k]:=by simp [hk]
 rw [e] at h1
 obtain ⟨j,hj⟩:=List.mem_iff_getElem?.1 hy
 obtain ⟨hjl,ej⟩:=List.getElem?_eq_some_iff.1 hj
 have hkj:k<j:=by
  apply Classical.byContradiction;intro hn
  rcases Nat.lt_or_eq_of_le (Nat.le_of_not_lt hn) with hlt | heq
  ·have:=(List.pairwise_iff_getElem.1 h) j k hjl hk hlt;omega
  grind
 have hk1:k+1<S.length:=by omega
 unfold g8 at h2
 rw [show S[k+1]? = some S[k+1] by simp [hk1]] at h2
 simp only at h2
 rcases Nat.lt_or_eq_of_le hkj with hlt | heq
 ·have:S[k+1]<S[j]:=(List.pairwise_iff_getElem.1 h) (k+1) j hk1 hjl hlt
  omega
 grind
def goP (U:Int) (P:Int→Bool) (S:List Int):Nat→List Iv
 | 0 => []
 | k+1=>if P (S.getD k 0) then yk7 (goP U P S k) (b8 U S k) else goP U P S k
structure v80 (U:Int) (P:Int→Bool) (S:List Int) (k:Nat) (out:List Iv):Prop where
 can:m5 out
 has:∀ x,y9 out x=(decide (x<g8 U S k) && P x)
 low:∀ y ∈ out,y.2<g8 U S k
theorem ws1 {P:Int→Bool} (ha:zg0 S) (hz:(0:Int) ∈ S) (h0:∀ y ∈ S,0≤y) (hU:∀ y ∈ S,y≤U) (hneg:∀ x,x<0→P x=false)
 (hc:∀ k,k<S.length→∀ z,S.getD k 0≤z→z<g8 U S (k+1)→z≤U→P z=P (S.getD k 0)):∀ k,k≤S.length→v80 U P S k (goP U P S k):=by
 intro k
 induction k with
 | zero =>
   intro _
   refine ⟨trivial,fun x => ?_,fun y h=>absurd h (by simp [goP])⟩
   show false=_
   symm
   rw [Bool.and_eq_false_iff]
   by_cases hx:x<g8 U S 0
   ·right
    have hb0:g8 U S 0=0:=by
     have hm:=hz
     have hne:0<S.length:=List.length_pos_of_mem hm
     rw [xb2 hne]
     have e:(S).getD 0 0=(S)[0]:=by simp [hne]
     rw [e]
     have h1:=h0 _ (List.getElem_mem hne)
     obtain ⟨j,hj⟩:=List.mem_iff_getElem?.1 hm
     obtain ⟨hjl,ej⟩:=List.getElem?_eq_some_iff.1 hj
     rcases Nat.eq_zero_or_pos j with rfl | hj0
     ·omega
     ·have:=(List.pairwise_iff_getElem.1 ha) 0 j hne hjl hj0;omega
    grind
   grind
 | succ k ih =>
   intro hk
   have hk':k<S.length:=by omega
   have ih:=ih (by omega)
   have hlt:=yt5 ha hU k hk'
   have hbk:=xb2 (U:=U) hk'
   have hstep:∀ x,x<g8 U S (k+1)→g8 U S k≤x→P x=P ((S).getD k 0):=by
    intro x hx1 hx2
    by_cases hxU:x≤U
    ·grind
    ·exfalso
     have:g8 U S (k+1)≤U+1:=by
      unfold g8
      split
      ·rename_i y hy
       have:=hU y (List.mem_of_getElem? hy);omega
      ·omega
     omega
   unfold goP
   generalize hS:(S).getD k 0=s at *
   cases hh:P s with
   | false =>
     rw [if_neg (by simp)]
     refine ⟨ih.can,fun x => ?_,fun y hy=>by have:=ih.low y hy;omega⟩
     rw [ih.has x]
     grind
   | true =>
     rw [if_pos rfl]
     have hp:b8 U S k=(s,g8 U S (k+1) - 1):=by unfold b8;rw [hS]
     rw [hp]
     have hnew:∀ x,inI (s,g8 U S (k+1) - 1) x=(decide (s≤x) && decide (x<g8 U S (k+1))):=by
      intro x;unfold inI;rw [Bool.eq_iff_iff];simp;omega
     have hall:∀ x,(y9 (goP U P S k) x || inI (s,g8 U S (k+1) - 1) x)=(decide (x<g8 U S (k+1)) && P x):=by
      intro x
      rw [ih.has x,hnew x]
      grind
     by_cases hL:goP U P S k = []
     ·rw [hL,xb1]
      refine ⟨⟨by simp;omega,by simp,trivial⟩,fun x => ?_,fun y hy => ?_⟩
      ·grind [y9]
      grind
     ·obtain ⟨m,y,hm⟩:=z79 hL
      rw [hm] at ih hall ⊢
      obtain ⟨c1,c2,c3⟩:=(z86 m y).1 ih.can
      have hyl:=ih.low y (by simp)
      by_cases hn:y.2+1=s
      ·rw [zu4 m y _ (by simpa using hn)]
       refine ⟨(z86 _ _).2 ⟨c1,by simp;omega,c3⟩,fun x => ?_,fun u hu => ?_⟩
       ·rw [← hall x,b5,b5,Bool.or_assoc]
        congr 1
        unfold y9 inI
        grind
       ·rcases List.mem_append.1 hu with hu | hu
        ·have:=ih.low u (by simp [hu]);omega
        grind
      ·rw [y22 m y _ (by simpa using hn)]
       refine ⟨(z86 _ _).2 ⟨ih.can,by simp;omega,fun u hu => ?_⟩,fun x => ?_,fun u hu => ?_⟩
       ·grind
       ·rw [← hall x,b5];simp [y9]
       ·rcases List.mem_append.1 hu with hu | hu
        ·have:=ih.low u hu;omega
        grind
theorem w33 (U:Int) (S:List Int):g8 U S S.length=U+1:=by unfold g8;rw [List.getElem?_eq_none_iff.2 (Nat.le_refl _)]
def okL (U:Int) (l:List Iv):Prop:=∀ y ∈ l,0≤y.1∧y.1≤y.2∧y.2≤U
theorem yt6 {l m:List Iv} (hs:∀ y ∈ l,y ∈ m) (k:Nat) (hk:k<(r6 U m).length) (hb:∀ y ∈ l,y.2≤U) (z:Int) (h1:(r6 U m).getD k 0≤z) (h2:z<g8 U (r6 U m) (k+1)) (hz:z≤U) :
 y9 l z=y9 l ((r6 U m).getD k 0):=by
 have ha:=zg1 U m
 rw [Bool.eq_iff_iff,t7,t7]
 constructor
 ·rintro ⟨y,hy,h3,h4⟩
  refine ⟨y,hy,?_,by omega⟩
  apply Classical.byContradiction;intro hn
  have:=xb3 ha k hk y.1 z ((zb1 U m _).2 (.inr ⟨y,hs y hy,.inl rfl⟩)) (by omega) h2
  omega
 ·rintro ⟨y,hy,h3,h4⟩
  refine ⟨y,hy,by omega,?_⟩
  apply Classical.byContradiction;intro hn
  have hyu:y.2<U:=by have:=hb y hy;omega
  have:=xb3 ha k hk (y.2+1) z ((zb1 U m _).2 (.inr ⟨y,hs y hy,.inr ⟨hyu,rfl⟩⟩)) (by omega) h2
  omega
theorem xt8 {l:List Iv} (h:okL U l) (hx:x<0):y9 l x=false:=by
 rw [Bool.eq_false_iff]
 intro hh
 obtain ⟨y,hy,h1,h2⟩:=(t7 _ _).1 hh
 have:=h y hy
 omega
theorem xb4 {l:List Iv} (h:okL U l) (hx:U<x):y9 l x=false:=by
 rw [Bool.eq_false_iff]
 intro hh
 obtain ⟨y,hy,h1,h2⟩:=(t7 _ _).1 hh
 have:=h y hy
 omega
theorem zd8 (h0U:0≤U) {l:List Iv} (h:okL U l):∀ y ∈ r6 U l,0≤y∧y≤U:=by
 intro y hy
 rcases (zb1 U l y).1 hy with rfl | ⟨z,hz,rfl | ⟨h1,rfl⟩⟩
 ·omega
 ·have:=h z hz;omega
 ·have:=h z hz;omega
def opP (f:Bool→Bool→Bool) (a b:List Iv) (x:Int):Bool:=f (y9 a x) (y9 b x)
def opL (U:Int) (f:Bool→Bool→Bool) (a b:List Iv):List Iv:=goP U (opP f a b) (r6 U (a++b)) (r6 U (a++b)).length
theorem ye2 {a b:List Iv} (ha:okL U a) (hb:okL U b):okL U (a++b):=fun y hy=>(List.mem_append.1 hy).elim (ha y) (hb y)
theorem wg9 (h0U:0≤U) (f:Bool→Bool→Bool) (hf:f false false=false) {a b:List Iv} (ha:okL U a) (hb:okL U b) :
 ∀ k,k≤(r6 U (a++b)).length→v80 U (opP f a b) (r6 U (a++b)) k (goP U (opP f a b) (r6 U (a++b)) k):=
 ws1 (zg1 U _) ((zb1 U _ 0).2 (.inl rfl)) (fun y hy=>(zd8 h0U (ye2 ha hb) y hy).1) (fun y hy=>(zd8 h0U (ye2 ha hb) y hy).2)
  (fun x hx=>by unfold opP;rw [xt8 ha hx,xt8 hb hx];exact hf)
  (fun k hk z h1 h2 h3=>by
    unfold opP
    rw [yt6 (l:=a) (m:=a++b) (fun y hy=>List.mem_append_left _ hy) k hk (fun y hy=>(ha y hy).2.2) z h1 h2 h3,
     yt6 (l:=b) (m:=a++b) (fun y hy=>List.mem_append_right _ hy) k hk (fun y hy=>(hb y hy).2.2) z h1 h2 h3])
theorem y23 (h0U:0≤U) (f:Bool→Bool→Bool) (hf:f false false=false) {a b:List Iv} (ha:okL U a) (hb:okL U b):m5 (opL U f a b):=(wg9 h0U f hf ha hb _ (Nat.le_refl _)).can
theorem yz7 (h0U:0≤U) (f:Bool→Bool→Bool) (hf:f false false=false) {a b:List Iv} (ha:okL U a) (hb:okL U b) (x:Int):y9 (opL U f a b) x=f (y9 a x) (y9 b x):=by
 have h:=(wg9 h0U f hf ha hb _ (Nat.le_refl _)).has x
 grind [w33,opL,goP,opP,r6,xb4]
theorem w35 (h0U:0≤U) (f:Bool→Bool→Bool) (hf:f false false=false) {a b m:List Iv} (ha:okL U a) (hb:okL U b) (hm:m5 m) (h:∀ x,y9 m x=f (y9 a x) (y9 b x)):m=opL U f a b:=
 z98 _ _ hm (y23 h0U f hf ha hb) fun x=>by rw [h x,yz7 h0U f hf ha hb]
theorem yt7 (ha:zg0 S) (h0:∀ y ∈ S,0≤y∧y≤U) (k:Nat) (hk:k<S.length):0≤(b8 U S k).1∧(b8 U S k).1≤(b8 U S k).2∧(b8 U S k).2≤U:=by
 have hlt:=yt5 ha (fun y hy=>(h0 y hy).2) k hk
 grind [List.getElem_mem,b8,g8,List.mem_of_getElem?]
theorem ws2 {L:List Iv} {s:Iv} (h:okL U L) (hs:0≤s.1∧s.1≤s.2∧s.2≤U):okL U (yk7 L s):=by
 by_cases hL:L = []
 ·subst hL;rw [xb1];intro y hy;rw [List.mem_singleton.1 hy];exact hs
 ·obtain ⟨m,y,rfl⟩:=z79 hL
  have hy:=h y (by simp)
  by_cases hf:y.2+1=s.1
  ·rw [zu4 _ _ _ hf]
   intro z hz
   rcases List.mem_append.1 hz with hz | hz
   ·exact h z (by simp [hz])
   grind
  ·rw [y22 _ _ _ hf]
   intro z hz
   rcases List.mem_append.1 hz with hz | hz
   ·exact h z hz
   grind
theorem wh0 (P:Int→Bool) (ha:zg0 S) (h0:∀ y ∈ S,0≤y∧y≤U):∀ k,k≤S.length→okL U (goP U P S k):=by
 intro k
 induction k with
 | zero=>intro _ y hy;simp [goP] at hy
 | succ k ih =>
   grind [goP,ws2,yt7]
theorem wh1 (L:List Iv) (s:Iv):(yk7 L s).length≤L.length+1:=by
 by_cases h:L = []
 ·subst h;simp [yk7]
 ·obtain ⟨m,y,rfl⟩:=z79 h
  grind [zu4,y22]
theorem xt9 (P:Int→Bool) (S:List Int):∀ k,(goP U P S k).length≤k:=by
 intro k
 induction k with
 | zero=>simp [goP]
 | succ k ih =>
   grind [goP,wh1,b8]
theorem wh2 (h0U:0≤U) (f:Bool→Bool→Bool) {a b:List Iv} (ha:okL U a) (hb:okL U b):okL U (opL U f a b):=
 wh0 _ (zg1 U _) (zd8 h0U (ye2 ha hb)) _ (Nat.le_refl _)
theorem w36 {l:List Iv} (h:m5 l) (hb:∀ y ∈ l,0≤y.1∧y.2≤U):okL U l:=fun y hy=>⟨(hb y hy).1,z13 l h y hy,(hb y hy).2⟩
end
end Go.Proofs.YtchndljcahjldaaGreatDoor
