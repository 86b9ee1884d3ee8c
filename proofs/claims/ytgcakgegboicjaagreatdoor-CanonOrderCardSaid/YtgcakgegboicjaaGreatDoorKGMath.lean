/- The starts and the pieces of knowledge, its refinement. Plain mathematics; no conditions of its own. -/
import Derived.Test.YtgcakgegboicjaaGreatDoorKQAlive
namespace Go.Proofs.YtgcakgegboicjaaGreatDoor
section
open Go.RowKit
def memF (F:KnT) (t:Int):List Bool:=F.map fun x=>hasL x.1 t
theorem memF_ne {F:KnT} {s t:Int} (h:memF F s≠memF F t):∃ x ∈ F,hasL x.1 s≠hasL x.1 t:=by
 refine Decidable.byContradiction fun hn=>h ?_
 exact List.map_congr_left fun x hx=>Decidable.byContradiction fun e=>hn ⟨x,hx,e⟩
theorem memF_at {s t:Int}:∀ {F:KnT},memF F s=memF F t→∀ x ∈ F,hasL x.1 s=hasL x.1 t
 | [],_,x,hx=>by cases hx
 | y :: F,h,x,hx=>by
   unfold memF at h
   rw [List.map_cons,List.map_cons,List.cons.injEq] at h
   rcases List.mem_cons.1 hx with rfl | hx
   ·exact h.1
   ·exact memF_at (F:=F) h.2 x hx
theorem hasK_mem {F:KnT} {s t:Int} (h:memF F s=memF F t) (r c:Int):hasK F s r c=hasK F t r c:=by
 unfold hasK
 rw [Bool.eq_iff_iff,List.any_eq_true,List.any_eq_true]
 constructor
 ·rintro ⟨x,hx,hh⟩;exact ⟨x,hx,by rw [← memF_at h x hx];exact hh⟩
 ·rintro ⟨x,hx,hh⟩;exact ⟨x,hx,by rw [memF_at h x hx];exact hh⟩
def anyF (F:KnT) (t:Int):Bool:=F.any fun x=>hasL x.1 t
theorem anyF_mem {F:KnT} {s t:Int} (h:memF F s=memF F t):anyF F s=anyF F t:=by
 unfold anyF
 rw [Bool.eq_iff_iff,List.any_eq_true,List.any_eq_true]
 constructor
 ·rintro ⟨x,hx,hh⟩;exact ⟨x,hx,by rw [← memF_at h x hx];exact hh⟩
 ·rintro ⟨x,hx,hh⟩;exact ⟨x,hx,by rw [memF_at h x hx];exact hh⟩
theorem has_change {l:List Iv} {x:Int} (h:hasL l (x - 1)≠hasL l x):∃ z ∈ l,x=z.1∨x=z.2+1:=by
 cases h1:hasL l x with
 | true =>
   have h0:¬ hasL l (x - 1)=true:=fun e=>h (by rw [e,h1])
   obtain ⟨z,hz,ha,hb⟩:=(hasL_iff l x).1 h1
   refine ⟨z,hz,.inl ?_⟩
   refine Decidable.byContradiction fun hn=>h0 ((hasL_iff l (x - 1)).2 ⟨z,hz,by omega,by omega⟩)
 | false =>
   have h0:hasL l (x - 1)=true:=by
    cases h2:hasL l (x - 1) with
    | true=>rfl
    | false=>exact absurd (h2.trans h1.symm) h
   obtain ⟨z,hz,ha,hb⟩:=(hasL_iff l (x - 1)).1 h0
   refine ⟨z,hz,.inr ?_⟩
   refine Decidable.byContradiction fun hn => ?_
   have:hasL l x=true:=(hasL_iff l x).2 ⟨z,hz,by omega,by omega⟩
   rw [h1] at this
   cases this
def startsK (F:KnT):List Int:=(startsL UM (flatK F)).filter fun s=>decide (s=0) || !decide (memF F (s - 1)=memF F s)
theorem startsK_asc (F:KnT):(startsK F).Pairwise (· < ·):=(starts_asc UM (flatK F)).filter _
theorem flat64 {F:KnT} (hF:GoodK F):All64 (flatK F):=fun y hy=>by
 obtain ⟨x,hx,hyx⟩:=flatK_mem hy
 exact (hF x hx).1.all y hyx
theorem startsK_mem {F:KnT} (hF:GoodK F) (x:Int):x ∈ startsK F↔x=0∨(0<x∧x≤UM∧memF F (x - 1)≠memF F x):=by
 unfold startsK
 rw [List.mem_filter,starts_mem]
 simp only [Bool.or_eq_true,decide_eq_true_eq,Bool.not_eq_true',decide_eq_false_iff_not]
 constructor
 ·rintro ⟨h1,h2 | h2⟩
  ·exact .inl h2
  ·by_cases h0:x=0
   ·exact .inl h0
   ·right
    rcases h1 with h1 | ⟨z,hz,h1⟩
    ·exact absurd h1 h0
    ·have hz64:=flat64 hF z hz
     have hU:UM=18446744073709551615:=rfl
     have hb:=hz64.1;have hb2:=hz64.2
     rcases h1 with h1 | ⟨h3,h1⟩
     ·exact ⟨by omega,by omega,h2⟩
     ·exact ⟨by omega,by omega,h2⟩
 ·rintro (rfl | ⟨h1,h2,h3⟩)
  ·exact ⟨.inl rfl,.inl rfl⟩
  ·refine ⟨.inr ?_,.inr h3⟩
   obtain ⟨y,hy,hc⟩:=memF_ne h3
   obtain ⟨z,hz,h4⟩:=has_change hc
   refine ⟨z,?_,?_⟩
   ·unfold flatK;exact List.mem_flatMap.2 ⟨y,hy,hz⟩
   ·rcases h4 with h4 | h4
    ·exact .inl h4
    ·exact .inr ⟨by omega,h4⟩
theorem startsK_zero {F:KnT} (hF:GoodK F):∃ r,startsK F=0 :: r:=by
 have h0:=(startsK_mem hF 0).2 (.inl rfl)
 have ha:=startsK_asc F
 cases hS:startsK F with
 | nil=>rw [hS] at h0;cases h0
 | cons a r =>
   rw [hS] at h0 ha
   rcases List.mem_cons.1 h0 with e | h
   ·exact ⟨r,by rw [← e]⟩
   ·have h1:=(List.pairwise_cons.1 ha).1 0 h
    have h2:=(startsK_mem hF a).1 (by rw [hS];simp)
    rcases h2 with e | ⟨e,_⟩ <;> omega
theorem startsK_top {F:KnT} (hF:GoodK F):∀ x ∈ startsK F,0≤x∧x≤UM:=fun x hx=>by
 have hU:UM=18446744073709551615:=rfl
 rcases (startsK_mem hF x).1 hx with rfl | ⟨h1,h2,_⟩ <;> omega
theorem mem_const {F:KnT} (hF:GoodK F):∀ (d:Nat) {s t:Int},t=s+d→0≤s→t≤UM→(∀ x ∈ startsK F,¬ (s<x∧x≤t))→memF F t=memF F s
 | 0,s,t,h,_,_,_=>by rw [show t=s by omega]
 | d+1,s,t,h,hs,ht,hno=>by
   have ih:=mem_const hF d (s:=s) (t:=t - 1) (by omega) hs (by omega) fun x hx hh=>hno x hx ⟨hh.1,by omega⟩
   rw [← ih]
   refine Decidable.byContradiction fun hne=>hno t ((startsK_mem hF t).2 (.inr ⟨by omega,ht,fun e=>hne e.symm⟩)) ⟨by omega,by omega⟩
theorem mem_const' {F:KnT} (hF:GoodK F) {s t:Int} (h0:0≤s) (h1:s≤t) (h2:t≤UM) (h:∀ x ∈ startsK F,¬ (s<x∧x≤t)):memF F t=memF F s:=mem_const hF (t - s).toNat (by omega) h0 h2 h
def pcs:List Int→List Iv
 | [] => []
 | [s] => [(s,UM)]
 | s :: s' :: r=>(s,s' - 1) :: pcs (s' :: r)
theorem pcs_len:∀ S:List Int,(pcs S).length=S.length
 | []=>rfl
 | [_]=>rfl
 | _ :: s' :: r=>by
   have:=pcs_len (s' :: r)
   unfold pcs
   rw [List.length_cons,this]
   rfl
theorem pcs_mem:∀ {S:List Int},S.Pairwise (· < ·)→(∀ x ∈ S,0≤x∧x≤UM)→∀ p ∈ pcs S,p.1 ∈ S∧p.1≤p.2∧p.2≤UM∧(∀ x ∈ S,¬ (p.1<x∧x≤p.2))∧(p.2=UM∨p.2+1 ∈ S)
 | [],_,_,p,hp=>by cases hp
 | [s],_,hb,p,hp=>by
   obtain rfl:=List.mem_singleton.1 hp
   exact ⟨by simp,(hb s (by simp)).2,Int.le_refl _,fun x hx hh=>(by obtain rfl:=List.mem_singleton.1 hx;exact absurd hh.1 (by simp)),.inl rfl⟩
 | s :: s' :: r,ha,hb,p,hp=>by
   obtain ⟨h1,h2⟩:=List.pairwise_cons.1 ha
   have hs:=hb s (by simp)
   have hs':=hb s' (by simp)
   have hlt:=h1 s' (by simp)
   rcases List.mem_cons.1 hp with rfl | hp
   ·refine ⟨by simp,by dsimp only;omega,by dsimp only;omega,fun x hx hh => ?_,.inr (by simp)⟩
    dsimp only at hh
    rcases List.mem_cons.1 hx with rfl | hx
    ·omega
    ·rcases List.mem_cons.1 hx with rfl | hx
     ·omega
     ·have:=(List.pairwise_cons.1 h2).1 x hx
      omega
   ·obtain ⟨k1,k2,k3,k4,k5⟩:=pcs_mem h2 (fun x hx=>hb x (List.mem_cons_of_mem _ hx)) p hp
    refine ⟨List.mem_cons_of_mem _ k1,k2,k3,fun x hx hh => ?_,k5.imp id (List.mem_cons_of_mem _)⟩
    rcases List.mem_cons.1 hx with rfl | hx
    ·have:=h1 p.1 k1;omega
    ·exact k4 x hx hh
theorem pcs_cover:∀ {S:List Int} {a t:Int},a≤t→t≤UM→∃ p ∈ pcs (a :: S),p.1≤t∧t≤p.2
 | [],a,t,h1,h2=>⟨(a,UM),by simp [pcs],h1,h2⟩
 | s' :: r,a,t,h1,h2=>by
   by_cases h:t<s'
   ·exact ⟨(a,s' - 1),by simp [pcs],h1,by dsimp only;omega⟩
   ·obtain ⟨p,hp,h3⟩:=pcs_cover (S:=r) (a:=s') (t:=t) (by omega) h2
    exact ⟨p,by unfold pcs;exact List.mem_cons_of_mem _ hp,h3⟩
theorem pcs_asc:∀ {S:List Int},S.Pairwise (· < ·)→(∀ x ∈ S,0≤x∧x≤UM)→(pcs S).Pairwise fun p q=>p.2<q.1
 | [],_,_=>List.Pairwise.nil
 | [_],_,_=>by simp [pcs]
 | s :: s' :: r,ha,hb=>by
   obtain ⟨h1,h2⟩:=List.pairwise_cons.1 ha
   have hb':∀ x ∈ s' :: r,0≤x∧x≤UM:=fun x hx=>hb x (List.mem_cons_of_mem _ hx)
   unfold pcs
   refine List.pairwise_cons.2 ⟨fun q hq => ?_,pcs_asc h2 hb'⟩
   have hq1:=(pcs_mem h2 hb' q hq).1
   dsimp only
   rcases List.mem_cons.1 hq1 with e | h
   ·omega
   ·have:=(List.pairwise_cons.1 h2).1 q.1 h;omega
def piecesK (F:KnT):List Iv:=(pcs (startsK F)).filter fun p=>anyF F p.1
theorem piecesK_mem {F:KnT} (hF:GoodK F) {p:Iv} (hp:p ∈ piecesK F):(p.1 ∈ startsK F∧p.1≤p.2∧p.2≤UM∧(∀ x ∈ startsK F,¬ (p.1<x∧x≤p.2))∧(p.2=UM∨p.2+1 ∈ startsK F))∧anyF F p.1=true:=by
 obtain ⟨h1,h2⟩:=List.mem_filter.1 hp
 exact ⟨pcs_mem (startsK_asc F) (startsK_top hF) p h1,h2⟩
theorem piece_const {F:KnT} (hF:GoodK F) {p:Iv} (hp:p ∈ piecesK F) {t:Int} (h1:p.1≤t) (h2:t≤p.2):memF F t=memF F p.1:=by
 obtain ⟨⟨k1,k2,k3,k4,_⟩,_⟩:=piecesK_mem hF hp
 exact mem_const' hF (startsK_top hF p.1 k1).1 h1 (by omega) fun x hx hh=>k4 x hx ⟨hh.1,by omega⟩
theorem piece_of {F:KnT} (hF:GoodK F) {t:Int} (h0:0≤t) (h1:t≤UM) (h:anyF F t=true):∃ p ∈ piecesK F,p.1≤t∧t≤p.2:=by
 obtain ⟨r,hr⟩:=startsK_zero hF
 obtain ⟨p,hp,h2,h3⟩:=pcs_cover (S:=r) (a:=0) h0 h1
 rw [← hr] at hp
 obtain ⟨k1,k2,k3,k4,_⟩:=pcs_mem (startsK_asc F) (startsK_top hF) p hp
 have hc:=mem_const' hF (startsK_top hF p.1 k1).1 h2 h1 fun x hx hh=>k4 x hx ⟨hh.1,by omega⟩
 exact ⟨p,List.mem_filter.2 ⟨hp,by rw [← anyF_mem hc];exact h⟩,h2,h3⟩
theorem piecesK_asc {F:KnT} (hF:GoodK F):(piecesK F).Pairwise fun p q=>p.2<q.1:=(pcs_asc (startsK_asc F) (startsK_top hF)).filter _
def refineK (F:KnT):KnT:=(piecesK F).map fun p=>([p],atK F p.1)
theorem refineK_good {F:KnT} (hF:GoodK F):GoodK (refineK F):=fun x hx=>by
 obtain ⟨p,hp,rfl⟩:=List.mem_map.1 hx
 obtain ⟨⟨k1,k2,k3,_⟩,_⟩:=piecesK_mem hF hp
 have hU:UM=18446744073709551615:=rfl
 exact ⟨good_one k2 (startsK_top hF p.1 k1).1 (by omega),(atK_good F [] goodV_nil hF).1⟩
theorem has_one (p:Iv) (t:Int):hasL [p] t=true↔p.1≤t∧t≤p.2:=by
 rw [hasL_iff]
 constructor
 ·rintro ⟨y,hy,h⟩;obtain rfl:=List.mem_singleton.1 hy;exact h
 ·intro h;exact ⟨p,by simp,h⟩
theorem hasK_refine {F:KnT} (hF:GoodK F) {t:Int} (h0:0≤t) (h1:t≤UM) (r:Int) {c:Int} (hc:0≤c):hasK (refineK F) t r c=hasK F t r c:=by
 rw [Bool.eq_iff_iff]
 constructor
 ·intro h
  unfold hasK refineK at h
  rw [List.any_map,List.any_eq_true] at h
  obtain ⟨p,hp,hh⟩:=h
  simp only [Function.comp_apply,Bool.and_eq_true] at hh
  obtain ⟨h2,h3⟩:=(has_one p t).1 hh.1
  rw [atK_hasK hF _ _ hc] at hh
  rw [hasK_mem (piece_const hF hp h2 h3)]
  exact hh.2
 ·intro h
  have ha:anyF F t=true:=by
   unfold hasK at h
   unfold anyF
   rw [List.any_eq_true] at h ⊢
   obtain ⟨x,hx,hh⟩:=h
   rw [Bool.and_eq_true] at hh
   exact ⟨x,hx,hh.1⟩
  obtain ⟨p,hp,h2,h3⟩:=piece_of hF h0 h1 ha
  unfold hasK refineK
  rw [List.any_map,List.any_eq_true]
  refine ⟨p,hp,?_⟩
  simp only [Function.comp_apply,Bool.and_eq_true]
  refine ⟨(has_one p t).2 ⟨h2,h3⟩,?_⟩
  rw [atK_hasK hF _ _ hc,← hasK_mem (piece_const hF hp h2 h3)]
  exact h
theorem asc_same:∀ {l m:List Int},l.Pairwise (· < ·)→m.Pairwise (· < ·)→(∀ x,x ∈ l↔x ∈ m)→l=m
 | [],[],_,_,_=>rfl
 | [],y :: m,_,_,h=>by have:=(h y).2 (by simp);cases this
 | x :: l,[],_,_,h=>by have:=(h x).1 (by simp);cases this
 | x :: l,y :: m,hl,hm,h=>by
   have h1:=List.pairwise_cons.1 hl
   have h2:=List.pairwise_cons.1 hm
   have hxy:x=y:=by
    rcases List.mem_cons.1 ((h x).1 (by simp)) with e | hx
    ·exact e
    ·rcases List.mem_cons.1 ((h y).2 (by simp)) with e | hy
     ·exact e.symm
     ·have a:=h1.1 y hy
      have b:=h2.1 x hx
      omega
   subst hxy
   rw [asc_same h1.2 h2.2 fun z => ?_]
   constructor
   ·intro hz
    rcases List.mem_cons.1 ((h z).1 (by simp [hz])) with e | hz'
    ·subst e;have:=h1.1 z hz;omega
    ·exact hz'
   ·intro hz
    rcases List.mem_cons.1 ((h z).2 (by simp [hz])) with e | hz'
    ·subst e;have:=h2.1 z hz;omega
    ·exact hz'
theorem vec_ext {A B:VcT} (gA:GoodV A) (cA:∀ y ∈ A,canonB y.2.1 y.2.2=true) (gB:GoodV B) (cB:∀ y ∈ B,canonB y.2.1 y.2.2=true) (h:∀ r c:Int,0≤c→hasV A r c=hasV B r c):A=B:=
 canV_eq gA cA gB cB fun r=>good_ext (knV_good gA r) (knV_good gB r) fun c hc=>by
  rw [← hasV_kn gA r hc,← hasV_kn gB r hc];exact h r c hc
theorem startsK_len (F:KnT):(startsK F).length≤1+2*(flatK F).length:=Nat.le_trans (List.length_filter_le _ _) (starts_len UM (flatK F))
theorem piecesK_len (F:KnT):(piecesK F).length≤1+2*(flatK F).length:=
 Nat.le_trans (List.length_filter_le _ _) (by rw [pcs_len];exact startsK_len F)
end
section
open Go.RowKit
def gIns (I:List Iv) (v:VcT):KnT→KnT
 | [] => [(I,v)]
 | y :: out=>if cmpL (numsV y.2) (numsV v)<0 then y :: gIns I v out else if cmpL (numsV y.2) (numsV v)=0 then (orL y.1 I,v) :: out else (I,v) :: y :: out
def gStep (out:KnT) (x:List Iv × VcT):KnT:=if canonV x.2 = []∨x.1 = [] then out else gIns x.1 (canonV x.2) out
def groupK (F:KnT):KnT:=F.foldl gStep []
theorem cmp_eq {A B:VcT} (h:cmpL (numsV A) (numsV B)=0):A=B:=by
 have:=cmp_same A B
 rw [decide_eq_true h] at this
 exact of_decide_eq_true this.symm
theorem cmp_lt {A B C:List Int} (h1:cmpL A B<0) (h2:cmpL B C<0):cmpL A C<0:=by
 have h3:=cmpL_trans (Int.le_of_lt h1) (Int.le_of_lt h2)
 by_cases h0:cmpL A C=0
 ·obtain rfl:=cmpL_zero h0
  have:=cmpL_neg A B
  omega
 ·omega
theorem gIns_good {I:List Iv} {v:VcT} (hI:GoodL I) (hv:GoodV v):∀ {out:KnT},GoodK out→GoodK (gIns I v out)
 | [],_=>fun x hx=>by obtain rfl:=List.mem_singleton.1 hx;exact ⟨hI,hv⟩
 | y :: out,h=>by
   have hy:=h y (by simp)
   have ho:GoodK out:=fun x hx=>h x (List.mem_cons_of_mem _ hx)
   unfold gIns
   split
   ·intro x hx
    rcases List.mem_cons.1 hx with rfl | hx
    ·exact hy
    ·exact gIns_good hI hv ho x hx
   ·split
    ·intro x hx
     rcases List.mem_cons.1 hx with rfl | hx
     ·exact ⟨orL_good hy.1 hI,hv⟩
     ·exact ho x hx
    ·intro x hx
     rcases List.mem_cons.1 hx with rfl | hx
     ·exact ⟨hI,hv⟩
     ·exact h x hx
theorem gStep_good {out:KnT} {x:List Iv × VcT} (h:GoodK out) (hx:GoodL x.1∧GoodV x.2):GoodK (gStep out x):=by
 unfold gStep
 split
 ·exact h
 ·exact gIns_good hx.1 (canonV_good hx.2).1 h
theorem gIns_has {I:List Iv} {v:VcT} (hI:GoodL I) (t r c:Int):∀ {out:KnT},GoodK out→hasK (gIns I v out) t r c=(hasK out t r c || (hasL I t && hasV v r c))
 | [],_=>by unfold gIns hasK;simp
 | y :: out,h=>by
   have hy:=h y (by simp)
   have ho:GoodK out:=fun x hx=>h x (List.mem_cons_of_mem _ hx)
   have e1:∀ (x:List Iv × VcT) (l:KnT),hasK (x :: l) t r c=((hasL x.1 t && hasV x.2 r c) || hasK l t r c):=fun x l=>by unfold hasK;rw [List.any_cons]
   unfold gIns
   split
   ·rw [e1,e1,gIns_has hI t r c ho,Bool.or_assoc]
   ·split
    ·rename_i h0
     obtain hv:=cmp_eq h0
     rw [e1,e1,or_has hy.1 hI,hv]
     cases hasL y.1 t <;> cases hasL I t <;> cases hasV v r c <;> cases hasK out t r c <;> rfl
    ·rw [e1,e1]
     cases (hasL I t && hasV v r c) <;> cases (hasL y.1 t && hasV y.2 r c) <;> cases hasK out t r c <;> rfl
theorem gStep_has {out:KnT} {x:List Iv × VcT} (h:GoodK out) (hx:GoodL x.1∧GoodV x.2) (t r:Int) {c:Int} (hc:0≤c):hasK (gStep out x) t r c=(hasK out t r c || (hasL x.1 t && hasV x.2 r c)):=by
 unfold gStep
 split
 ·rename_i h0
  rcases h0 with h0 | h0
  ·have:hasV x.2 r c=false:=by rw [← canonV_has hx.2 r hc,h0];rfl
   rw [this,Bool.and_false,Bool.or_false]
  ·rw [h0,show hasL ([]:List Iv) t=false from rfl,Bool.false_and,Bool.or_false]
 ·rw [gIns_has hx.1 t r c h,canonV_has hx.2 r hc]
theorem group_has (t r:Int) {c:Int} (hc:0≤c):∀ {F out:KnT},GoodK out→GoodK F→hasK (F.foldl gStep out) t r c=(hasK out t r c || hasK F t r c)
 | [],out,_,_=>by simp [hasK]
 | x :: F,out,h,hF=>by
   have hx:=hF x (by simp)
   rw [List.foldl_cons,group_has t r hc (gStep_good h hx) (fun y hy=>hF y (List.mem_cons_of_mem _ hy)),gStep_has h hx t r hc,Bool.or_assoc]
   congr 1
theorem hasK_group {F:KnT} (hF:GoodK F) (t r:Int) {c:Int} (hc:0≤c):hasK (groupK F) t r c=hasK F t r c:=by
 unfold groupK
 rw [group_has t r hc (fun x hx=>by cases hx) hF]
 rfl
structure IsGr (G:KnT):Prop where
 asc:G.Pairwise fun a b=>cmpL (numsV a.2) (numsV b.2)<0
 el:∀ x ∈ G,(GoodL x.1∧x.1 ≠ [])∧GoodV x.2∧(∀ y ∈ x.2,canonB y.2.1 y.2.2=true)∧x.2 ≠ []
theorem or_ne {a b:List Iv} (ha:GoodL a) (hb:GoodL b) (h:a ≠ []):orL a b ≠ []:=fun e=>by
 cases a with
 | nil=>exact h rfl
 | cons z a =>
   have h1:hasL (z :: a) z.1=true:=(hasL_iff _ _).2 ⟨z,by simp,Int.le_refl _,canon_ok _ ha.can z (by simp)⟩
   have h2:=or_has ha hb z.1
   rw [e,h1,Bool.true_or] at h2
   cases h2
theorem gIns_gr {I:List Iv} {v:VcT} (hI:GoodL I∧I ≠ []) (hv:GoodV v∧(∀ y ∈ v,canonB y.2.1 y.2.2=true)∧v ≠ []):∀ {out:KnT},IsGr out→IsGr (gIns I v out)∧∀ x ∈ gIns I v out,x.2=v∨∃ y ∈ out,y.2=x.2
 | [],_=>⟨⟨by simp [gIns],fun x hx=>(by obtain rfl:=List.mem_singleton.1 hx;exact ⟨hI,hv⟩)⟩,fun x hx=>(by obtain rfl:=List.mem_singleton.1 hx;exact .inl rfl)⟩
 | y :: out,h=>by
   obtain ⟨h1,h2⟩:=List.pairwise_cons.1 h.asc
   have hy:=h.el y (by simp)
   have ho:IsGr out:=⟨h2,fun x hx=>h.el x (List.mem_cons_of_mem _ hx)⟩
   unfold gIns
   split
   ·rename_i hlt
    obtain ⟨k1,k2⟩:=gIns_gr hI hv ho
    refine ⟨⟨List.pairwise_cons.2 ⟨fun x hx => ?_,k1.asc⟩,fun x hx => ?_⟩,fun x hx => ?_⟩
    ·rcases k2 x hx with e | ⟨z,hz,e⟩
     ·rw [e];exact hlt
     ·rw [← e];exact h1 z hz
    ·rcases List.mem_cons.1 hx with rfl | hx
     ·exact hy
     ·exact k1.el x hx
    ·rcases List.mem_cons.1 hx with rfl | hx
     ·exact .inr ⟨x,by simp,rfl⟩
     ·rcases k2 x hx with e | ⟨z,hz,e⟩
      ·exact .inl e
      ·exact .inr ⟨z,List.mem_cons_of_mem _ hz,e⟩
   ·split
    ·rename_i h0
     have hyv:=cmp_eq h0
     refine ⟨⟨List.pairwise_cons.2 ⟨fun x hx => ?_,h2⟩,fun x hx => ?_⟩,fun x hx => ?_⟩
     ·have:=h1 x hx
      rw [hyv] at this
      exact this
     ·rcases List.mem_cons.1 hx with rfl | hx
      ·exact ⟨⟨orL_good hy.1.1 hI.1,or_ne hy.1.1 hI.1 hy.1.2⟩,hv⟩
      ·exact ho.el x hx
     ·rcases List.mem_cons.1 hx with rfl | hx
      ·exact .inl rfl
      ·exact .inr ⟨x,List.mem_cons_of_mem _ hx,rfl⟩
    ·rename_i hlt h0
     have hgt:cmpL (numsV v) (numsV y.2)<0:=by
      have:=cmpL_neg (numsV v) (numsV y.2)
      omega
     refine ⟨⟨List.pairwise_cons.2 ⟨fun x hx => ?_,h.asc⟩,fun x hx => ?_⟩,fun x hx => ?_⟩
     ·rcases List.mem_cons.1 hx with rfl | hx
      ·exact hgt
      ·exact cmp_lt hgt (h1 x hx)
     ·rcases List.mem_cons.1 hx with rfl | hx
      ·exact ⟨hI,hv⟩
      ·exact h.el x hx
     ·rcases List.mem_cons.1 hx with rfl | hx
      ·exact .inl rfl
      ·exact .inr ⟨x,hx,rfl⟩
theorem group_gr:∀ {F out:KnT},IsGr out→GoodK F→IsGr (F.foldl gStep out)
 | [],_,h,_=>h
 | x :: F,out,h,hF=>by
   have hx:=hF x (by simp)
   refine group_gr (F:=F) ?_ fun y hy=>hF y (List.mem_cons_of_mem _ hy)
   unfold gStep
   split
   ·exact h
   ·rename_i h0
    exact (gIns_gr ⟨hx.1,fun e=>h0 (.inr e)⟩ ⟨(canonV_good hx.2).1,(canonV_good hx.2).2,fun e=>h0 (.inl e)⟩ h).1
theorem groupK_gr {F:KnT} (hF:GoodK F):IsGr (groupK F):=group_gr ⟨List.Pairwise.nil,fun x hx=>by cases hx⟩ hF
theorem canonV_self {V:VcT} (gV:GoodV V) (cV:∀ y ∈ V,canonB y.2.1 y.2.2=true):canonV V=V:=
 vec_ext (canonV_good gV).1 (canonV_good gV).2 gV cV fun r _ hc=>canonV_has gV r hc
def cntF (t:Int) (F:KnT):Nat:=F.countP fun x=>hasL x.1 t
theorem gIns_cnt {I:List Iv} {v:VcT} (hI:GoodL I) (t:Int):∀ {out:KnT},GoodK out→cntF t (gIns I v out)≤cntF t out+if hasL I t=true then 1 else 0
 | [],_=>by unfold gIns cntF;rw [List.countP_cons];simp
 | y :: out,h=>by
   have hy:=h y (by simp)
   have ih:=gIns_cnt (v:=v) hI t (out:=out) fun x hx=>h x (List.mem_cons_of_mem _ hx)
   unfold cntF at ih ⊢
   unfold gIns
   split
   ·rw [List.countP_cons,List.countP_cons];omega
   ·split
    ·rw [List.countP_cons,List.countP_cons,or_has hy.1 hI]
     cases hasL y.1 t <;> cases hasL I t <;> simp
    ·rw [List.countP_cons,List.countP_cons]
     dsimp only
     omega
theorem group_cnt (t:Int):∀ {F out:KnT},GoodK out→GoodK F→cntF t (F.foldl gStep out)≤cntF t out+cntF t F
 | [],out,_,_=>by simp [cntF]
 | x :: F,out,h,hF=>by
   have hx:=hF x (by simp)
   have ih:=group_cnt t (F:=F) (gStep_good h hx) fun y hy=>hF y (List.mem_cons_of_mem _ hy)
   have h1:cntF t (gStep out x)≤cntF t out+if hasL x.1 t=true then 1 else 0:=by
    unfold gStep
    split
    ·omega
    ·exact gIns_cnt hx.1 t h
   have h2:cntF t (x :: F)=cntF t F+if hasL x.1 t=true then 1 else 0:=by unfold cntF;rw [List.countP_cons]
   rw [List.foldl_cons,h2]
   omega
def apartK (F:KnT):Prop:=∀ t,cntF t F≤1
theorem apart_group {F:KnT} (hF:GoodK F) (h:apartK F):apartK (groupK F):=fun t=>by
 have:=group_cnt t (F:=F) (out := []) (fun x hx=>by cases hx) hF
 have h1:=h t
 unfold groupK
 have h2:cntF t []=0:=rfl
 omega
theorem apart_refine {F:KnT} (hF:GoodK F):apartK (refineK F):=fun t=>by
 unfold cntF refineK
 rw [List.countP_map]
 have key:∀ {l:List Iv},l.Pairwise (fun p q=>p.2<q.1)→l.countP ((fun x:List Iv × VcT=>hasL x.1 t) ∘ fun p=>([p],atK F p.1))≤1:=by
  intro l hl
  induction l with
  | nil=>simp
  | cons p l ih =>
    obtain ⟨h1,h2⟩:=List.pairwise_cons.1 hl
    rw [List.countP_cons]
    by_cases hp:hasL [p] t=true
    ·have:l.countP ((fun x:List Iv × VcT=>hasL x.1 t) ∘ fun p=>([p],atK F p.1))=0:=by
      rw [List.countP_eq_zero]
      intro q hq hh
      have a:=(has_one p t).1 hp
      have b:=(has_one q t).1 hh
      have:=h1 q hq
      omega
     rw [this]
     split <;> omega
    ·have e:((fun x:List Iv × VcT=>hasL x.1 t) ∘ fun p=>([p],atK F p.1)) p=hasL [p] t:=rfl
     rw [e,if_neg hp]
     exact ih h2
 exact key (piecesK_asc hF)
theorem apart_iff:∀ {F:KnT},GoodK F→(apartK F↔F.Pairwise fun x y=>andL y.1 x.1 = [])
 | [],_=>⟨fun _=>List.Pairwise.nil,fun _ t=>by simp [cntF]⟩
 | x :: F,h=>by
   have hx:=h x (by simp)
   have hF:GoodK F:=fun y hy=>h y (List.mem_cons_of_mem _ hy)
   have ih:=apart_iff hF
   have hc:∀ t,cntF t (x :: F)=cntF t F+if hasL x.1 t=true then 1 else 0:=fun t=>by unfold cntF;rw [List.countP_cons]
   rw [List.pairwise_cons]
   constructor
   ·intro ha
    refine ⟨fun y hy => ?_,ih.1 fun t=>by have:=ha t;rw [hc] at this;omega⟩
    have gy:=(hF y hy).1
    refine good_eq (andL_good gy hx.1) good_nil fun t => ?_
    rw [and_has gy hx.1]
    cases h1:hasL y.1 t with
    | false=>rfl
    | true =>
      cases h2:hasL x.1 t with
      | false=>rfl
      | true =>
        exfalso
        have:=ha t
        rw [hc,if_pos h2] at this
        have hp:0<cntF t F:=by unfold cntF;exact List.countP_pos_iff.2 ⟨y,hy,h1⟩
        omega
   ·rintro ⟨h1,h2⟩ t
    have h3:=ih.2 h2 t
    rw [hc]
    by_cases hxt:hasL x.1 t=true
    ·rw [if_pos hxt]
     have:cntF t F=0:=by
      unfold cntF
      rw [List.countP_eq_zero]
      intro y hy hh
      have e:=and_has (hF y hy).1 hx.1 t
      rw [h1 y hy,hh,hxt] at e
      cases e
     omega
    ·rw [if_neg hxt];omega
end
end Go.Proofs.YtgcakgegboicjaaGreatDoor
