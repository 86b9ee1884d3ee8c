/- The starts and the pieces of knowledge, its refinement. Plain mathematics; no conditions of its own. -/
import Derived.Test.YtchndljcahjldaaGreatDoorKQAlive
namespace Go.Proofs.YtchndljcahjldaaGreatDoor
section
open Go.RowKit
def zk9 (F:u9) (t:Int):List Bool:=F.map fun x=>y8 x.1 t
theorem xq4 {F:u9} {s t:Int} (h:zk9 F s≠zk9 F t):∃ x ∈ F,y8 x.1 s≠y8 x.1 t:=by
 refine Decidable.byContradiction fun hn=>h ?_
 exact List.map_congr_left fun x hx=>Decidable.byContradiction fun e=>hn ⟨x,hx,e⟩
theorem zt5 {s t:Int}:∀ {F:u9},zk9 F s=zk9 F t→∀ x ∈ F,y8 x.1 s=y8 x.1 t
 | [],_,x,hx=>by cases hx
 | y :: F,h,x,hx=>by
   unfold zk9 at h
   rw [List.map_cons,List.map_cons,List.cons.injEq] at h
   rcases List.mem_cons.1 hx with rfl | hx
   ·exact h.1
   ·exact zt5 (F:=F) h.2 x hx
theorem x59 {F:u9} {s t:Int} (h:zk9 F s=zk9 F t) (r c:Int):m5 F s r c=m5 F t r c:=by
 unfold m5
 rw [Bool.eq_iff_iff,List.any_eq_true,List.any_eq_true]
 constructor
 ·rintro ⟨x,hx,hh⟩;exact ⟨x,hx,by rw [← zt5 h x hx];exact hh⟩
 ·rintro ⟨x,hx,hh⟩;exact ⟨x,hx,by rw [zt5 h x hx];exact hh⟩
def zn9 (F:u9) (t:Int):Bool:=F.any fun x=>y8 x.1 t
theorem wb8 {F:u9} {s t:Int} (h:zk9 F s=zk9 F t):zn9 F s=zn9 F t:=by
 unfold zn9
 rw [Bool.eq_iff_iff,List.any_eq_true,List.any_eq_true]
 constructor
 ·rintro ⟨x,hx,hh⟩;exact ⟨x,hx,by rw [← zt5 h x hx];exact hh⟩
 ·rintro ⟨x,hx,hh⟩;exact ⟨x,hx,by rw [zt5 h x hx];exact hh⟩
theorem yg3 {l:List Iv} {x:Int} (h:y8 l (x - 1)≠y8 l x):∃ z ∈ l,x=z.1∨x=z.2+1:=by
 cases h1:y8 l x with
 | true =>
   have h0:¬ y8 l (x - 1)=true:=fun e=>h (by rw [e,h1])
   obtain ⟨z,hz,ha,hb⟩:=(v6 l x).1 h1
   refine ⟨z,hz,.inl ?_⟩
   refine Decidable.byContradiction fun hn=>h0 ((v6 l (x - 1)).2 ⟨z,hz,by omega,by omega⟩)
 | false =>
   have h0:y8 l (x - 1)=true:=by
    cases h2:y8 l (x - 1) with
    | true=>rfl
    | false=>exact absurd (h2.trans h1.symm) h
   obtain ⟨z,hz,ha,hb⟩:=(v6 l (x - 1)).1 h0
   refine ⟨z,hz,.inr ?_⟩
   refine Decidable.byContradiction fun hn => ?_
   have:y8 l x=true:=(v6 l x).2 ⟨z,hz,by omega,by omega⟩
   rw [h1] at this
   cases this
def g7 (F:u9):List Int:=(s8 UM (flatK F)).filter fun s=>decide (s=0) || !decide (zk9 F (s - 1)=zk9 F s)
theorem z08 (F:u9):(g7 F).Pairwise (· < ·):=(zf4 UM (flatK F)).filter _
theorem wx7 {F:u9} (hF:x7 F):o6 (flatK F):=fun y hy=>by
 obtain ⟨x,hx,hyx⟩:=ze1 hy
 exact (hF x hx).1.all y hyx
theorem zb3 {F:u9} (hF:x7 F) (x:Int):x ∈ g7 F↔x=0∨(0<x∧x≤UM∧zk9 F (x - 1)≠zk9 F x):=by
 unfold g7
 rw [List.mem_filter,zf5]
 simp only [Bool.or_eq_true,decide_eq_true_eq,Bool.not_eq_true',decide_eq_false_iff_not]
 constructor
 ·rintro ⟨h1,h2 | h2⟩
  ·exact .inl h2
  ·by_cases h0:x=0
   ·exact .inl h0
   ·right
    rcases h1 with h1 | ⟨z,hz,h1⟩
    ·exact absurd h1 h0
    ·have hz64:=wx7 hF z hz
     have hU:UM=18446744073709551615:=rfl
     have hb:=hz64.1;have hb2:=hz64.2
     rcases h1 with h1 | ⟨h3,h1⟩
     ·exact ⟨by omega,by omega,h2⟩
     ·exact ⟨by omega,by omega,h2⟩
 ·rintro (rfl | ⟨h1,h2,h3⟩)
  ·exact ⟨.inl rfl,.inl rfl⟩
  ·refine ⟨.inr ?_,.inr h3⟩
   obtain ⟨y,hy,hc⟩:=xq4 h3
   obtain ⟨z,hz,h4⟩:=yg3 hc
   refine ⟨z,?_,?_⟩
   ·unfold flatK;exact List.mem_flatMap.2 ⟨y,hy,hz⟩
   ·rcases h4 with h4 | h4
    ·exact .inl h4
    ·exact .inr ⟨by omega,h4⟩
theorem y00 {F:u9} (hF:x7 F):∃ r,g7 F=0 :: r:=by
 have h0:=(zb3 hF 0).2 (.inl rfl)
 have ha:=z08 F
 cases hS:g7 F with
 | nil=>rw [hS] at h0;cases h0
 | cons a r =>
   rw [hS] at h0 ha
   rcases List.mem_cons.1 h0 with e | h
   ·exact ⟨r,by rw [← e]⟩
   ·have h1:=(List.pairwise_cons.1 ha).1 0 h
    have h2:=(zb3 hF a).1 (by rw [hS];simp)
    rcases h2 with e | ⟨e,_⟩ <;> omega
theorem z00 {F:u9} (hF:x7 F):∀ x ∈ g7 F,0≤x∧x≤UM:=fun x hx=>by
 have hU:UM=18446744073709551615:=rfl
 rcases (zb3 hF x).1 hx with rfl | ⟨h1,h2,_⟩ <;> omega
theorem yr7 {F:u9} (hF:x7 F):∀ (d:Nat) {s t:Int},t=s+d→0≤s→t≤UM→(∀ x ∈ g7 F,¬ (s<x∧x≤t))→zk9 F t=zk9 F s
 | 0,s,t,h,_,_,_=>by rw [show t=s by omega]
 | d+1,s,t,h,hs,ht,hno=>by
   have ih:=yr7 hF d (s:=s) (t:=t - 1) (by omega) hs (by omega) fun x hx hh=>hno x hx ⟨hh.1,by omega⟩
   rw [← ih]
   refine Decidable.byContradiction fun hne=>hno t ((zb3 hF t).2 (.inr ⟨by omega,ht,fun e=>hne e.symm⟩)) ⟨by omega,by omega⟩
theorem yg4 {F:u9} (hF:x7 F) {s t:Int} (h0:0≤s) (h1:s≤t) (h2:t≤UM) (h:∀ x ∈ g7 F,¬ (s<x∧x≤t)):zk9 F t=zk9 F s:=yr7 hF (t - s).toNat (by omega) h0 h2 h
def pcs:List Int→List Iv
 | [] => []
 | [s] => [(s,UM)]
 | s :: s' :: r=>(s,s' - 1) :: pcs (s' :: r)
theorem y01:∀ S:List Int,(pcs S).length=S.length
 | []=>rfl
 | [_]=>rfl
 | _ :: s' :: r=>by
   have:=y01 (s' :: r)
   unfold pcs
   rw [List.length_cons,this]
   rfl
theorem y02:∀ {S:List Int},S.Pairwise (· < ·)→(∀ x ∈ S,0≤x∧x≤UM)→∀ p ∈ pcs S,p.1 ∈ S∧p.1≤p.2∧p.2≤UM∧(∀ x ∈ S,¬ (p.1<x∧x≤p.2))∧(p.2=UM∨p.2+1 ∈ S)
 | [],_,_,p,hp=>by cases hp
 | [s],_,hb,p,hp=>by
   obtain rfl:=List.mem_singleton.1 hp
   exact ⟨by simp,(hb s (by simp)).2,Int.le_refl _,fun x hx hh=>(by obtain rfl:=List.mem_singleton.1 hx;exact absurd hh.1 (by simp)),.inl rfl⟩
 | s :: s' :: r,ha,hb,p,hp=>by
   obtain ⟨h1,h2⟩:=List.pairwise_cons.1 ha
   have hs:=hb s (by simp)
   have hs':=hb s' (by simp)
   have hlt:=h1 s' (by simp)
   rcases List.mem_cons.1 hp with rfl | hp
   ·refine ⟨by simp,by dsimp only;omega,by dsimp only;omega,fun x hx hh => ?_,.inr (by simp)⟩
    dsimp only at hh
    rcases List.mem_cons.1 hx with rfl | hx
    ·omega
    ·rcases List.mem_cons.1 hx with rfl | hx
     ·omega
     ·have:=(List.pairwise_cons.1 h2).1 x hx
      omega
   ·obtain ⟨k1,k2,k3,k4,k5⟩:=y02 h2 (fun x hx=>hb x (List.mem_cons_of_mem _ hx)) p hp
    refine ⟨List.mem_cons_of_mem _ k1,k2,k3,fun x hx hh => ?_,k5.imp id (List.mem_cons_of_mem _)⟩
    rcases List.mem_cons.1 hx with rfl | hx
    ·have:=h1 p.1 k1;omega
    ·exact k4 x hx hh
theorem yr8:∀ {S:List Int} {a t:Int},a≤t→t≤UM→∃ p ∈ pcs (a :: S),p.1≤t∧t≤p.2
 | [],a,t,h1,h2=>⟨(a,UM),by simp [pcs],h1,h2⟩
 | s' :: r,a,t,h1,h2=>by
   by_cases h:t<s'
   ·exact ⟨(a,s' - 1),by simp [pcs],h1,by dsimp only;omega⟩
   ·obtain ⟨p,hp,h3⟩:=yr8 (S:=r) (a:=s') (t:=t) (by omega) h2
    exact ⟨p,by unfold pcs;exact List.mem_cons_of_mem _ hp,h3⟩
theorem yx7:∀ {S:List Int},S.Pairwise (· < ·)→(∀ x ∈ S,0≤x∧x≤UM)→(pcs S).Pairwise fun p q=>p.2<q.1
 | [],_,_=>List.Pairwise.nil
 | [_],_,_=>by simp [pcs]
 | s :: s' :: r,ha,hb=>by
   obtain ⟨h1,h2⟩:=List.pairwise_cons.1 ha
   have hb':∀ x ∈ s' :: r,0≤x∧x≤UM:=fun x hx=>hb x (List.mem_cons_of_mem _ hx)
   unfold pcs
   refine List.pairwise_cons.2 ⟨fun q hq => ?_,yx7 h2 hb'⟩
   have hq1:=(y02 h2 hb' q hq).1
   dsimp only
   rcases List.mem_cons.1 hq1 with e | h
   ·omega
   ·have:=(List.pairwise_cons.1 h2).1 q.1 h;omega
def r5 (F:u9):List Iv:=(pcs (g7 F)).filter fun p=>zn9 F p.1
theorem zo6 {F:u9} (hF:x7 F) {p:Iv} (hp:p ∈ r5 F):(p.1 ∈ g7 F∧p.1≤p.2∧p.2≤UM∧(∀ x ∈ g7 F,¬ (p.1<x∧x≤p.2))∧(p.2=UM∨p.2+1 ∈ g7 F))∧zn9 F p.1=true:=by
 obtain ⟨h1,h2⟩:=List.mem_filter.1 hp
 exact ⟨y02 (z08 F) (z00 hF) p h1,h2⟩
theorem y91 {F:u9} (hF:x7 F) {p:Iv} (hp:p ∈ r5 F) {t:Int} (h1:p.1≤t) (h2:t≤p.2):zk9 F t=zk9 F p.1:=by
 obtain ⟨⟨k1,k2,k3,k4,_⟩,_⟩:=zo6 hF hp
 exact yg4 hF (z00 hF p.1 k1).1 h1 (by omega) fun x hx hh=>k4 x hx ⟨hh.1,by omega⟩
theorem x60 {F:u9} (hF:x7 F) {t:Int} (h0:0≤t) (h1:t≤UM) (h:zn9 F t=true):∃ p ∈ r5 F,p.1≤t∧t≤p.2:=by
 obtain ⟨r,hr⟩:=y00 hF
 obtain ⟨p,hp,h2,h3⟩:=yr8 (S:=r) (a:=0) h0 h1
 rw [← hr] at hp
 obtain ⟨k1,k2,k3,k4,_⟩:=y02 (z08 F) (z00 hF) p hp
 have hc:=yg4 hF (z00 hF p.1 k1).1 h2 h1 fun x hx hh=>k4 x hx ⟨hh.1,by omega⟩
 exact ⟨p,List.mem_filter.2 ⟨hp,by rw [← wb8 hc];exact h⟩,h2,h3⟩
theorem y92 {F:u9} (hF:x7 F):(r5 F).Pairwise fun p q=>p.2<q.1:=(yx7 (z08 F) (z00 hF)).filter _
def r3 (F:u9):u9:=(r5 F).map fun p=>([p],atK F p.1)
theorem o7 {F:u9} (hF:x7 F):x7 (r3 F):=fun x hx=>by
 obtain ⟨p,hp,rfl⟩:=List.mem_map.1 hx
 obtain ⟨⟨k1,k2,k3,_⟩,_⟩:=zo6 hF hp
 have hU:UM=18446744073709551615:=rfl
 exact ⟨z27 k2 (z00 hF p.1 k1).1 (by omega),(zr3 F [] z32 hF).1⟩
theorem yc7 (p:Iv) (t:Int):y8 [p] t=true↔p.1≤t∧t≤p.2:=by
 rw [v6]
 constructor
 ·rintro ⟨y,hy,h⟩;obtain rfl:=List.mem_singleton.1 hy;exact h
 ·intro h;exact ⟨p,by simp,h⟩
theorem zg4 {F:u9} (hF:x7 F) {t:Int} (h0:0≤t) (h1:t≤UM) (r:Int) {c:Int} (hc:0≤c):m5 (r3 F) t r c=m5 F t r c:=by
 rw [Bool.eq_iff_iff]
 constructor
 ·intro h
  unfold m5 r3 at h
  rw [List.any_map,List.any_eq_true] at h
  obtain ⟨p,hp,hh⟩:=h
  simp only [Function.comp_apply,Bool.and_eq_true] at hh
  obtain ⟨h2,h3⟩:=(yc7 p t).1 hh.1
  rw [zr5 hF _ _ hc] at hh
  rw [x59 (y91 hF hp h2 h3)]
  exact hh.2
 ·intro h
  have ha:zn9 F t=true:=by
   unfold m5 at h
   unfold zn9
   rw [List.any_eq_true] at h ⊢
   obtain ⟨x,hx,hh⟩:=h
   rw [Bool.and_eq_true] at hh
   exact ⟨x,hx,hh.1⟩
  obtain ⟨p,hp,h2,h3⟩:=x60 hF h0 h1 ha
  unfold m5 r3
  rw [List.any_map,List.any_eq_true]
  refine ⟨p,hp,?_⟩
  simp only [Function.comp_apply,Bool.and_eq_true]
  refine ⟨(yc7 p t).2 ⟨h2,h3⟩,?_⟩
  rw [zr5 hF _ _ hc,← x59 (y91 hF hp h2 h3)]
  exact h
theorem x61:∀ {l m:List Int},l.Pairwise (· < ·)→m.Pairwise (· < ·)→(∀ x,x ∈ l↔x ∈ m)→l=m
 | [],[],_,_,_=>rfl
 | [],y :: m,_,_,h=>by have:=(h y).2 (by simp);cases this
 | x :: l,[],_,_,h=>by have:=(h x).1 (by simp);cases this
 | x :: l,y :: m,hl,hm,h=>by
   have h1:=List.pairwise_cons.1 hl
   have h2:=List.pairwise_cons.1 hm
   have hxy:x=y:=by
    rcases List.mem_cons.1 ((h x).1 (by simp)) with e | hx
    ·exact e
    ·rcases List.mem_cons.1 ((h y).2 (by simp)) with e | hy
     ·exact e.symm
     ·have a:=h1.1 y hy
      have b:=h2.1 x hx
      omega
   subst hxy
   rw [x61 h1.2 h2.2 fun z => ?_]
   constructor
   ·intro hz
    rcases List.mem_cons.1 ((h z).1 (by simp [hz])) with e | hz'
    ·subst e;have:=h1.1 z hz;omega
    ·exact hz'
   ·intro hz
    rcases List.mem_cons.1 ((h z).2 (by simp [hz])) with e | hz'
    ·subst e;have:=h2.1 z hz;omega
    ·exact hz'
theorem y03 {A B:x6} (gA:t6 A) (cA:∀ y ∈ A,r7 y.2.1 y.2.2=true) (gB:t6 B) (cB:∀ y ∈ B,r7 y.2.1 y.2.2=true) (h:∀ r c:Int,0≤c→i7 A r c=i7 B r c):A=B:=
 xt0 gA cA gB cB fun r=>yh8 (o5 gA r) (o5 gB r) fun c hc=>by
  rw [← z49 gA r hc,← z49 gB r hc];exact h r c hc
theorem zo7 (F:u9):(g7 F).length≤1+2*(flatK F).length:=Nat.le_trans (List.length_filter_le _ _) (zm3 UM (flatK F))
theorem y93 (F:u9):(r5 F).length≤1+2*(flatK F).length:=
 Nat.le_trans (List.length_filter_le _ _) (by rw [y01];exact zo7 F)
end
section
open Go.RowKit
def ze4 (I:List Iv) (v:x6):u9→u9
 | [] => [(I,v)]
 | y :: out=>if z01 (r4 y.2) (r4 v)<0 then y :: ze4 I v out else if z01 (r4 y.2) (r4 v)=0 then (orL y.1 I,v) :: out else (I,v) :: y :: out
def z37 (out:u9) (x:List Iv × x6):u9:=if i8 x.2 = []∨x.1 = [] then out else ze4 x.1 (i8 x.2) out
def m8 (F:u9):u9:=F.foldl z37 []
theorem yx8 {A B:x6} (h:z01 (r4 A) (r4 B)=0):A=B:=by
 have:=wf3 A B
 rw [decide_eq_true h] at this
 exact of_decide_eq_true this.symm
theorem xi4 {A B C:List Int} (h1:z01 A B<0) (h2:z01 B C<0):z01 A C<0:=by
 have h3:=zy4 (Int.le_of_lt h1) (Int.le_of_lt h2)
 by_cases h0:z01 A C=0
 ·obtain rfl:=y55 h0
  have:=zf1 A B
  omega
 ·omega
theorem yr9 {I:List Iv} {v:x6} (hI:v7 I) (hv:t6 v):∀ {out:u9},x7 out→x7 (ze4 I v out)
 | [],_=>fun x hx=>by obtain rfl:=List.mem_singleton.1 hx;exact ⟨hI,hv⟩
 | y :: out,h=>by
   have hy:=h y (by simp)
   have ho:x7 out:=fun x hx=>h x (List.mem_cons_of_mem _ hx)
   unfold ze4
   split
   ·intro x hx
    rcases List.mem_cons.1 hx with rfl | hx
    ·exact hy
    ·exact yr9 hI hv ho x hx
   ·split
    ·intro x hx
     rcases List.mem_cons.1 hx with rfl | hx
     ·exact ⟨z10 hy.1 hI,hv⟩
     ·exact ho x hx
    ·intro x hx
     rcases List.mem_cons.1 hx with rfl | hx
     ·exact ⟨hI,hv⟩
     ·exact h x hx
theorem ze5 {out:u9} {x:List Iv × x6} (h:x7 out) (hx:v7 x.1∧t6 x.2):x7 (z37 out x):=by
 unfold z37
 split
 ·exact h
 ·exact yr9 hx.1 (z44 hx.2).1 h
theorem x62 {I:List Iv} {v:x6} (hI:v7 I) (t r c:Int):∀ {out:u9},x7 out→m5 (ze4 I v out) t r c=(m5 out t r c || (y8 I t && i7 v r c))
 | [],_=>by unfold ze4 m5;simp
 | y :: out,h=>by
   have hy:=h y (by simp)
   have ho:x7 out:=fun x hx=>h x (List.mem_cons_of_mem _ hx)
   have e1:∀ (x:List Iv × x6) (l:u9),m5 (x :: l) t r c=((y8 x.1 t && i7 x.2 r c) || m5 l t r c):=fun x l=>by unfold m5;rw [List.any_cons]
   unfold ze4
   split
   ·rw [e1,e1,x62 hI t r c ho,Bool.or_assoc]
   ·split
    ·rename_i h0
     obtain hv:=yx8 h0
     rw [e1,e1,zl5 hy.1 hI,hv]
     cases y8 y.1 t <;> cases y8 I t <;> cases i7 v r c <;> cases m5 out t r c <;> rfl
    ·rw [e1,e1]
     cases (y8 I t && i7 v r c) <;> cases (y8 y.1 t && i7 y.2 r c) <;> cases m5 out t r c <;> rfl
theorem xz0 {out:u9} {x:List Iv × x6} (h:x7 out) (hx:v7 x.1∧t6 x.2) (t r:Int) {c:Int} (hc:0≤c):m5 (z37 out x) t r c=(m5 out t r c || (y8 x.1 t && i7 x.2 r c)):=by
 unfold z37
 split
 ·rename_i h0
  rcases h0 with h0 | h0
  ·have:i7 x.2 r c=false:=by rw [← zy3 hx.2 r hc,h0];rfl
   rw [this,Bool.and_false,Bool.or_false]
  ·rw [h0,show y8 ([]:List Iv) t=false from rfl,Bool.false_and,Bool.or_false]
 ·rw [x62 hx.1 t r c h,zy3 hx.2 r hc]
theorem ys0 (t r:Int) {c:Int} (hc:0≤c):∀ {F out:u9},x7 out→x7 F→m5 (F.foldl z37 out) t r c=(m5 out t r c || m5 F t r c)
 | [],out,_,_=>by simp [m5]
 | x :: F,out,h,hF=>by
   have hx:=hF x (by simp)
   rw [List.foldl_cons,ys0 t r hc (ze5 h hx) (fun y hy=>hF y (List.mem_cons_of_mem _ hy)),xz0 h hx t r hc,Bool.or_assoc]
   congr 1
theorem ze6 {F:u9} (hF:x7 F) (t r:Int) {c:Int} (hc:0≤c):m5 (m8 F) t r c=m5 F t r c:=by
 unfold m8
 rw [ys0 t r hc (fun x hx=>by cases hx) hF]
 rfl
structure zo8 (G:u9):Prop where
 asc:G.Pairwise fun a b=>z01 (r4 a.2) (r4 b.2)<0
 el:∀ x ∈ G,(v7 x.1∧x.1 ≠ [])∧t6 x.2∧(∀ y ∈ x.2,r7 y.2.1 y.2.2=true)∧x.2 ≠ []
theorem v56 {a b:List Iv} (ha:v7 a) (hb:v7 b) (h:a ≠ []):orL a b ≠ []:=fun e=>by
 cases a with
 | nil=>exact h rfl
 | cons z a =>
   have h1:y8 (z :: a) z.1=true:=(v6 _ _).2 ⟨z,by simp,Int.le_refl _,z06 _ ha.can z (by simp)⟩
   have h2:=zl5 ha hb z.1
   rw [e,h1,Bool.true_or] at h2
   cases h2
theorem xq5 {I:List Iv} {v:x6} (hI:v7 I∧I ≠ []) (hv:t6 v∧(∀ y ∈ v,r7 y.2.1 y.2.2=true)∧v ≠ []):∀ {out:u9},zo8 out→zo8 (ze4 I v out)∧∀ x ∈ ze4 I v out,x.2=v∨∃ y ∈ out,y.2=x.2
 | [],_=>⟨⟨by simp [ze4],fun x hx=>(by obtain rfl:=List.mem_singleton.1 hx;exact ⟨hI,hv⟩)⟩,fun x hx=>(by obtain rfl:=List.mem_singleton.1 hx;exact .inl rfl)⟩
 | y :: out,h=>by
   obtain ⟨h1,h2⟩:=List.pairwise_cons.1 h.asc
   have hy:=h.el y (by simp)
   have ho:zo8 out:=⟨h2,fun x hx=>h.el x (List.mem_cons_of_mem _ hx)⟩
   unfold ze4
   split
   ·rename_i hlt
    obtain ⟨k1,k2⟩:=xq5 hI hv ho
    refine ⟨⟨List.pairwise_cons.2 ⟨fun x hx => ?_,k1.asc⟩,fun x hx => ?_⟩,fun x hx => ?_⟩
    ·rcases k2 x hx with e | ⟨z,hz,e⟩
     ·rw [e];exact hlt
     ·rw [← e];exact h1 z hz
    ·rcases List.mem_cons.1 hx with rfl | hx
     ·exact hy
     ·exact k1.el x hx
    ·rcases List.mem_cons.1 hx with rfl | hx
     ·exact .inr ⟨x,by simp,rfl⟩
     ·rcases k2 x hx with e | ⟨z,hz,e⟩
      ·exact .inl e
      ·exact .inr ⟨z,List.mem_cons_of_mem _ hz,e⟩
   ·split
    ·rename_i h0
     have hyv:=yx8 h0
     refine ⟨⟨List.pairwise_cons.2 ⟨fun x hx => ?_,h2⟩,fun x hx => ?_⟩,fun x hx => ?_⟩
     ·have:=h1 x hx
      rw [hyv] at this
      exact this
     ·rcases List.mem_cons.1 hx with rfl | hx
      ·exact ⟨⟨z10 hy.1.1 hI.1,v56 hy.1.1 hI.1 hy.1.2⟩,hv⟩
      ·exact ho.el x hx
     ·rcases List.mem_cons.1 hx with rfl | hx
      ·exact .inl rfl
      ·exact .inr ⟨x,List.mem_cons_of_mem _ hx,rfl⟩
    ·rename_i hlt h0
     have hgt:z01 (r4 v) (r4 y.2)<0:=by
      have:=zf1 (r4 v) (r4 y.2)
      omega
     refine ⟨⟨List.pairwise_cons.2 ⟨fun x hx => ?_,h.asc⟩,fun x hx => ?_⟩,fun x hx => ?_⟩
     ·rcases List.mem_cons.1 hx with rfl | hx
      ·exact hgt
      ·exact xi4 hgt (h1 x hx)
     ·rcases List.mem_cons.1 hx with rfl | hx
      ·exact ⟨hI,hv⟩
      ·exact h.el x hx
     ·rcases List.mem_cons.1 hx with rfl | hx
      ·exact .inl rfl
      ·exact .inr ⟨x,hx,rfl⟩
theorem x63:∀ {F out:u9},zo8 out→x7 F→zo8 (F.foldl z37 out)
 | [],_,h,_=>h
 | x :: F,out,h,hF=>by
   have hx:=hF x (by simp)
   refine x63 (F:=F) ?_ fun y hy=>hF y (List.mem_cons_of_mem _ hy)
   unfold z37
   split
   ·exact h
   ·rename_i h0
    exact (xq5 ⟨hx.1,fun e=>h0 (.inr e)⟩ ⟨(z44 hx.2).1,(z44 hx.2).2,fun e=>h0 (.inl e)⟩ h).1
theorem zd9 {F:u9} (hF:x7 F):zo8 (m8 F):=x63 ⟨List.Pairwise.nil,fun x hx=>by cases hx⟩ hF
theorem x64 {V:x6} (gV:t6 V) (cV:∀ y ∈ V,r7 y.2.1 y.2.2=true):i8 V=V:=
 y03 (z44 gV).1 (z44 gV).2 gV cV fun r _ hc=>zy3 gV r hc
def zb4 (t:Int) (F:u9):Nat:=F.countP fun x=>y8 x.1 t
theorem x65 {I:List Iv} {v:x6} (hI:v7 I) (t:Int):∀ {out:u9},x7 out→zb4 t (ze4 I v out)≤zb4 t out+if y8 I t=true then 1 else 0
 | [],_=>by unfold ze4 zb4;rw [List.countP_cons];simp
 | y :: out,h=>by
   have hy:=h y (by simp)
   have ih:=x65 (v:=v) hI t (out:=out) fun x hx=>h x (List.mem_cons_of_mem _ hx)
   unfold zb4 at ih ⊢
   unfold ze4
   split
   ·rw [List.countP_cons,List.countP_cons];omega
   ·split
    ·rw [List.countP_cons,List.countP_cons,zl5 hy.1 hI]
     cases y8 y.1 t <;> cases y8 I t <;> simp
    ·rw [List.countP_cons,List.countP_cons]
     dsimp only
     omega
theorem ys1 (t:Int):∀ {F out:u9},x7 out→x7 F→zb4 t (F.foldl z37 out)≤zb4 t out+zb4 t F
 | [],out,_,_=>by simp [zb4]
 | x :: F,out,h,hF=>by
   have hx:=hF x (by simp)
   have ih:=ys1 t (F:=F) (ze5 h hx) fun y hy=>hF y (List.mem_cons_of_mem _ hy)
   have h1:zb4 t (z37 out x)≤zb4 t out+if y8 x.1 t=true then 1 else 0:=by
    unfold z37
    split
    ·omega
    ·exact x65 hx.1 t h
   have h2:zb4 t (x :: F)=zb4 t F+if y8 x.1 t=true then 1 else 0:=by unfold zb4;rw [List.countP_cons]
   rw [List.foldl_cons,h2]
   omega
def ze7 (F:u9):Prop:=∀ t,zb4 t F≤1
theorem zg5 {F:u9} (hF:x7 F) (h:ze7 F):ze7 (m8 F):=fun t=>by
 have:=ys1 t (F:=F) (out := []) (fun x hx=>by cases hx) hF
 have h1:=h t
 unfold m8
 have h2:zb4 t []=0:=rfl
 omega
theorem zl0 {F:u9} (hF:x7 F):ze7 (r3 F):=fun t=>by
 unfold zb4 r3
 rw [List.countP_map]
 have key:∀ {l:List Iv},l.Pairwise (fun p q=>p.2<q.1)→l.countP ((fun x:List Iv × x6=>y8 x.1 t) ∘ fun p=>([p],atK F p.1))≤1:=by
  intro l hl
  induction l with
  | nil=>simp
  | cons p l ih =>
    obtain ⟨h1,h2⟩:=List.pairwise_cons.1 hl
    rw [List.countP_cons]
    by_cases hp:y8 [p] t=true
    ·have:l.countP ((fun x:List Iv × x6=>y8 x.1 t) ∘ fun p=>([p],atK F p.1))=0:=by
      rw [List.countP_eq_zero]
      intro q hq hh
      have a:=(yc7 p t).1 hp
      have b:=(yc7 q t).1 hh
      have:=h1 q hq
      omega
     rw [this]
     split <;> omega
    ·have e:((fun x:List Iv × x6=>y8 x.1 t) ∘ fun p=>([p],atK F p.1)) p=y8 [p] t:=rfl
     rw [e,if_neg hp]
     exact ih h2
 exact key (y92 hF)
theorem zt6:∀ {F:u9},x7 F→(ze7 F↔F.Pairwise fun x y=>zv0 y.1 x.1 = [])
 | [],_=>⟨fun _=>List.Pairwise.nil,fun _ t=>by simp [zb4]⟩
 | x :: F,h=>by
   have hx:=h x (by simp)
   have hF:x7 F:=fun y hy=>h y (List.mem_cons_of_mem _ hy)
   have ih:=zt6 hF
   have hc:∀ t,zb4 t (x :: F)=zb4 t F+if y8 x.1 t=true then 1 else 0:=fun t=>by unfold zb4;rw [List.countP_cons]
   rw [List.pairwise_cons]
   constructor
   ·intro ha
    refine ⟨fun y hy => ?_,ih.1 fun t=>by have:=ha t;rw [hc] at this;omega⟩
    have gy:=(hF y hy).1
    refine zl6 (zt7 gy hx.1) z17 fun t => ?_
    rw [y12 gy hx.1]
    cases h1:y8 y.1 t with
    | false=>rfl
    | true =>
      cases h2:y8 x.1 t with
      | false=>rfl
      | true =>
        exfalso
        have:=ha t
        rw [hc,if_pos h2] at this
        have hp:0<zb4 t F:=by unfold zb4;exact List.countP_pos_iff.2 ⟨y,hy,h1⟩
        omega
   ·rintro ⟨h1,h2⟩ t
    have h3:=ih.2 h2 t
    rw [hc]
    by_cases hxt:y8 x.1 t=true
    ·rw [if_pos hxt]
     have:zb4 t F=0:=by
      unfold zb4
      rw [List.countP_eq_zero]
      intro y hy hh
      have e:=y12 (hF y hy).1 hx.1 t
      rw [h1 y hy,hh,hxt] at e
      cases e
     omega
    ·rw [if_neg hxt];omega
end
end Go.Proofs.YtchndljcahjldaaGreatDoor
