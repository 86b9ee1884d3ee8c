/- The starts and the pieces of knowledge, its refinement. Plain mathematics; no conditions of its own. -/
import Derived.Test.YtchndljcahjldaaGreatDoorMQAlive
namespace Go.Proofs.YtchndljcahjldaaGreatDoor
section
open Go.RowKit
variable {F out:t8} {s t c:Int} {p:Iv} {A B:v6} {x:List Iv × v6}
def zi9 (F:t8) (t:Int):List Bool:=F.map fun x=>y9 x.1 t
theorem xq4 (h:zi9 F s≠zi9 F t):∃ x ∈ F,y9 x.1 s≠y9 x.1 t:=by
 refine Decidable.byContradiction fun hn=>h ?_
 exact List.map_congr_left fun x hx=>Decidable.byContradiction fun e=>hn ⟨x,hx,e⟩
theorem zm6 {s t:Int}:∀ {F:t8},zi9 F s=zi9 F t→∀ x ∈ F,y9 x.1 s=y9 x.1 t
 | [],_,x,hx=>by cases hx
 | y :: F,h,x,hx=>by
   unfold zi9 at h
   rw [List.map_cons,List.map_cons,List.cons.injEq] at h
   rcases List.mem_cons.1 hx with rfl | hx
   ·exact h.1
   ·exact zm6 (F:=F) h.2 x hx
theorem x48 (h:zi9 F s=zi9 F t) (r c:Int):z32 F s r c=z32 F t r c:=by
 unfold z32
 rw [Bool.eq_iff_iff,List.any_eq_true,List.any_eq_true]
 constructor
 ·rintro ⟨x,hx,hh⟩;exact ⟨x,hx,by rw [← zm6 h x hx];exact hh⟩
 ·rintro ⟨x,hx,hh⟩;exact ⟨x,hx,by rw [zm6 h x hx];exact hh⟩
def zb7 (F:t8) (t:Int):Bool:=F.any fun x=>y9 x.1 t
theorem w99 (h:zi9 F s=zi9 F t):zb7 F s=zb7 F t:=by
 unfold zb7
 rw [Bool.eq_iff_iff,List.any_eq_true,List.any_eq_true]
 constructor
 ·rintro ⟨x,hx,hh⟩;exact ⟨x,hx,by rw [← zm6 h x hx];exact hh⟩
 ·rintro ⟨x,hx,hh⟩;exact ⟨x,hx,by rw [zm6 h x hx];exact hh⟩
theorem yf9 {l:List Iv} {x:Int} (h:y9 l (x - 1)≠y9 l x):∃ z ∈ l,x=z.1∨x=z.2+1:=by grind [y9,t7]
def r8 (F:t8):List Int:=(r6 UM (flatK F)).filter fun s=>decide (s=0) || !decide (zi9 F (s - 1)=zi9 F s)
theorem a8 (F:t8):(r8 F).Pairwise (· < ·):=(zg1 UM (flatK F)).filter _
theorem xi0 (hF:x9 F):m9 (flatK F):=fun y hy=>by
 obtain ⟨x,hx,hyx⟩:=ze3 hy
 exact (hF x hx).1.all y hyx
theorem zb8 (hF:x9 F) (x:Int):x ∈ r8 F↔x=0∨(0<x∧x≤UM∧zi9 F (x - 1)≠zi9 F x):=by
 unfold r8
 rw [List.mem_filter,zb1]
 simp only [Bool.or_eq_true,decide_eq_true_eq,Bool.not_eq_true',decide_eq_false_iff_not]
 constructor
 ·rintro ⟨h1,h2 | h2⟩
  ·exact .inl h2
  ·by_cases h0:x=0
   ·exact .inl h0
   ·right
    rcases h1 with h1 | ⟨z,hz,h1⟩
    ·exact absurd h1 h0
    ·have hz64:=xi0 hF z hz
     have hU:UM=18446744073709551615:=rfl
     have hb:=hz64.1;have hb2:=hz64.2
     rcases h1 with h1 | ⟨h3,h1⟩
     ·exact ⟨by omega,by omega,h2⟩
     ·exact ⟨by omega,by omega,h2⟩
 ·rintro (rfl | ⟨h1,h2,h3⟩)
  ·exact ⟨.inl rfl,.inl rfl⟩
  ·refine ⟨.inr ?_,.inr h3⟩
   obtain ⟨y,hy,hc⟩:=xq4 h3
   obtain ⟨z,hz,h4⟩:=yf9 hc
   refine ⟨z,?_,?_⟩
   ·unfold flatK;exact List.mem_flatMap.2 ⟨y,hy,hz⟩
   ·rcases h4 with h4 | h4
    ·exact .inl h4
    ·exact .inr ⟨by omega,h4⟩
theorem zz3 (hF:x9 F):∃ r,r8 F=0 :: r:=by
 have h0:=(zb8 hF 0).2 (.inl rfl)
 have ha:=a8 F
 cases hS:r8 F with
 | nil=>rw [hS] at h0;cases h0
 | cons a r =>
   rw [hS] at h0 ha
   rcases List.mem_cons.1 h0 with e | h
   ·grind
   ·have h1:=(List.pairwise_cons.1 ha).1 0 h
    have h2:=(zb8 hF a).1 (by rw [hS];simp)
    omega
theorem c9 (hF:x9 F):∀ x ∈ r8 F,0≤x∧x≤UM:=fun x hx=>by grind [UM,zb8]
theorem yq7 {F:t8} (hF:x9 F):∀ (d:Nat) {s t:Int},t=s+d→0≤s→t≤UM→(∀ x ∈ r8 F,¬ (s<x∧x≤t))→zi9 F t=zi9 F s
 | 0,s,t,h,_,_,_=>by rw [show t=s by omega]
 | d+1,s,t,h,hs,ht,hno=>by
   have ih:=yq7 hF d (s:=s) (t:=t - 1) (by omega) hs (by omega) fun x hx hh=>hno x hx ⟨hh.1,by omega⟩
   rw [← ih]
   refine Decidable.byContradiction fun hne=>hno t ((zb8 hF t).2 (.inr ⟨by omega,ht,fun e=>hne e.symm⟩)) ⟨by omega,by omega⟩
theorem yg0 (hF:x9 F) (h0:0≤s) (h1:s≤t) (h2:t≤UM) (h:∀ x ∈ r8 F,¬ (s<x∧x≤t)):zi9 F t=zi9 F s:=yq7 hF (t - s).toNat (by omega) h0 h2 h
def pcs:List Int→List Iv
 | [] => []
 | [s] => [(s,UM)]
 | s :: s' :: r=>(s,s' - 1) :: pcs (s' :: r)
theorem zh2:∀ S:List Int,(pcs S).length=S.length
 | []=>rfl
 | [_]=>rfl
 | _ :: s' :: r=>by
   have:=zh2 (s' :: r)
   grind [pcs,List.length_cons]
theorem wa0:∀ (S:List Int) (k:Nat),k<S.length→(pcs S)[k]? = some (b8 UM S k)
 | [],k,h=>by simp at h
 | [s],0,_=>by simp [pcs,b8,g8]
 | [s],k+1,h=>by simp at h
 | s :: s' :: r,0,_=>by simp [pcs,b8,g8]
 | s :: s' :: r,k+1,h=>by
   have ih:=wa0 (s' :: r) k (by simpa using h)
   grind [pcs,List.getElem?_cons_succ,b8,g8]
theorem zz4:∀ {S:List Int},S.Pairwise (· < ·)→(∀ x ∈ S,0≤x∧x≤UM)→∀ p ∈ pcs S,p.1 ∈ S∧p.1≤p.2∧p.2≤UM∧(∀ x ∈ S,¬ (p.1<x∧x≤p.2))∧(p.2=UM∨p.2+1 ∈ S)
 | [],_,_,p,hp=>by cases hp
 | [s],_,hb,p,hp=>by
   obtain rfl:=List.mem_singleton.1 hp
   grind
 | s :: s' :: r,ha,hb,p,hp=>by
   obtain ⟨h1,h2⟩:=List.pairwise_cons.1 ha
   have hs:=hb s (by simp)
   have hs':=hb s' (by simp)
   have hlt:=h1 s' (by simp)
   rcases List.mem_cons.1 hp with rfl | hp
   ·grind [List.pairwise_cons]
   ·obtain ⟨k1,k2,k3,k4,k5⟩:=zz4 h2 (fun x hx=>hb x (List.mem_cons_of_mem _ hx)) p hp
    grind
theorem yq8:∀ {S:List Int} {a t:Int},a≤t→t≤UM→∃ p ∈ pcs (a :: S),p.1≤t∧t≤p.2
 | [],a,t,h1,h2=>⟨(a,UM),by simp [pcs],h1,h2⟩
 | s' :: r,a,t,h1,h2=>by
   by_cases h:t<s'
   ·exact ⟨(a,s' - 1),by simp [pcs],h1,by dsimp only;omega⟩
   ·obtain ⟨p,hp,h3⟩:=yq8 (S:=r) (a:=s') (t:=t) (by omega) h2
    grind [pcs,List.mem_cons_of_mem]
theorem yw4:∀ {S:List Int},S.Pairwise (· < ·)→(∀ x ∈ S,0≤x∧x≤UM)→(pcs S).Pairwise fun p q=>p.2<q.1
 | [],_,_=>List.Pairwise.nil
 | [_],_,_=>by simp [pcs]
 | s :: s' :: r,ha,hb=>by
   obtain ⟨h1,h2⟩:=List.pairwise_cons.1 ha
   have hb':∀ x ∈ s' :: r,0≤x∧x≤UM:=fun x hx=>hb x (List.mem_cons_of_mem _ hx)
   unfold pcs
   refine List.pairwise_cons.2 ⟨fun q hq => ?_,yw4 h2 hb'⟩
   have hq1:=(zz4 h2 hb' q hq).1
   dsimp only
   rcases List.mem_cons.1 hq1 with e | h
   ·omega
   ·have:=(List.pairwise_cons.1 h2).1 q.1 h;omega
def r7 (F:t8):List Iv:=(pcs (r8 F)).filter fun p=>zb7 F p.1
theorem zp9 (hF:x9 F) (hp:p ∈ r7 F):(p.1 ∈ r8 F∧p.1≤p.2∧p.2≤UM∧(∀ x ∈ r8 F,¬ (p.1<x∧x≤p.2))∧(p.2=UM∨p.2+1 ∈ r8 F))∧zb7 F p.1=true:=by
 obtain ⟨h1,h2⟩:=List.mem_filter.1 hp
 exact ⟨zz4 (a8 F) (c9 hF) p h1,h2⟩
theorem y89 (hF:x9 F) (hp:p ∈ r7 F) (h1:p.1≤t) (h2:t≤p.2):zi9 F t=zi9 F p.1:=by grind [zp9,yg0,c9]
theorem x49 (hF:x9 F) (h0:0≤t) (h1:t≤UM) (h:zb7 F t=true):∃ p ∈ r7 F,p.1≤t∧t≤p.2:=by
 obtain ⟨r,hr⟩:=zz3 hF
 obtain ⟨p,hp,h2,h3⟩:=yq8 (S:=r) (a:=0) h0 h1
 rw [← hr] at hp
 obtain ⟨k1,k2,k3,k4,_⟩:=zz4 (a8 F) (c9 hF) p hp
 have hc:=yg0 hF (c9 hF p.1 k1).1 h2 h1 fun x hx hh=>k4 x hx ⟨hh.1,by omega⟩
 exact ⟨p,List.mem_filter.2 ⟨hp,by rw [← w99 hc];exact h⟩,h2,h3⟩
theorem y90 (hF:x9 F):(r7 F).Pairwise fun p q=>p.2<q.1:=(yw4 (a8 F) (c9 hF)).filter _
def s5 (F:t8):t8:=(r7 F).map fun p=>([p],atK F p.1)
theorem z11 (hF:x9 F):x9 (s5 F):=fun x hx=>by
 obtain ⟨p,hp,rfl⟩:=List.mem_map.1 hx
 obtain ⟨⟨k1,k2,k3,_⟩,_⟩:=zp9 hF hp
 have hU:UM=18446744073709551615:=rfl
 exact ⟨z20 k2 (c9 hF p.1 k1).1 (by omega),(zl0 F [] z10 hF).1⟩
theorem yd0 (p:Iv) (t:Int):y9 [p] t=true↔p.1≤t∧t≤p.2:=by grind [t7,List.mem_singleton]
theorem x50 (hF:x9 F) (h0:0≤t) (h1:t≤UM) (r:Int) (hc:0≤c):z32 (s5 F) t r c=z32 F t r c:=by
 rw [Bool.eq_iff_iff]
 constructor
 ·intro h
  unfold z32 s5 at h
  rw [List.any_map,List.any_eq_true] at h
  obtain ⟨p,hp,hh⟩:=h
  simp only [Function.comp_apply,Bool.and_eq_true] at hh
  grind [yd0,zr7,x48,y89]
 ·intro h
  have ha:zb7 F t=true:=by
   unfold z32 at h
   unfold zb7
   grind
  obtain ⟨p,hp,h2,h3⟩:=x49 hF h0 h1 ha
  unfold z32 s5
  rw [List.any_map,List.any_eq_true]
  refine ⟨p,hp,?_⟩
  simp only [Function.comp_apply,Bool.and_eq_true]
  grind [yd0,zr7,x48,y89]
theorem x51:∀ {l m:List Int},l.Pairwise (· < ·)→m.Pairwise (· < ·)→(∀ x,x ∈ l↔x ∈ m)→l=m
 | [],[],_,_,_=>rfl
 | [],y :: m,_,_,h=>by have:=(h y).2 (by simp);cases this
 | x :: l,[],_,_,h=>by have:=(h x).1 (by simp);cases this
 | x :: l,y :: m,hl,hm,h=>by
   have h1:=List.pairwise_cons.1 hl
   have h2:=List.pairwise_cons.1 hm
   have hxy:x=y:=by
    rcases List.mem_cons.1 ((h x).1 (by simp)) with e | hx
    ·exact e
    ·rcases List.mem_cons.1 ((h y).2 (by simp)) with e | hy
     all_goals grind
   subst hxy
   rw [x51 h1.2 h2.2 fun z => ?_]
   grind
theorem zz5 (gA:s8 A) (cA:∀ y ∈ A,o5 y.2.1 y.2.2=true) (gB:s8 B) (cB:∀ y ∈ B,o5 y.2.1 y.2.2=true) (h:∀ r c:Int,0≤c→z27 A r c=z27 B r c):A=B:=
 xs8 gA cA gB cB fun r=>yh4 (m8 gA r) (m8 gB r) fun c hc=>by
  rw [← zd4 gA r hc,← zd4 gB r hc];exact h r c hc
theorem zb9 (F:t8):(r8 F).length≤1+2*(flatK F).length:=Nat.le_trans (List.length_filter_le _ _) (zg6 UM (flatK F))
theorem y91 (F:t8):(r7 F).length≤1+2*(flatK F).length:=
 Nat.le_trans (List.length_filter_le _ _) (by rw [zh2];exact zb9 F)
def z49 (I:List Iv) (v:v6):t8→t8
 | [] => [(I,v)]
 | y :: out=>if g9 (r3 y.2) (r3 v)<0 then y :: z49 I v out else if g9 (r3 y.2) (r3 v)=0 then (orL y.1 I,v) :: out else (I,v) :: y :: out
def z01 (out:t8) (x:List Iv × v6):t8:=if j8 x.2 = []∨x.1 = [] then out else z49 x.1 (j8 x.2) out
def q6 (F:t8):t8:=F.foldl z01 []
theorem yw5 (h:g9 (r3 A) (r3 B)=0):A=B:=by grind [we9]
theorem xi1 {A B C:List Int} (h1:g9 A B<0) (h2:g9 B C<0):g9 A C<0:=by grind [zx4,Int.le_of_lt,g9,y50,zf5]
theorem yq9 {I:List Iv} {v:v6} (hI:t6 I) (hv:s8 v):∀ {out:t8},x9 out→x9 (z49 I v out)
 | [],_=>fun x hx=>by obtain rfl:=List.mem_singleton.1 hx;exact ⟨hI,hv⟩
 | y :: out,h=>by
   have hy:=h y (by simp)
   have ho:x9 out:=fun x hx=>h x (List.mem_cons_of_mem _ hx)
   unfold z49
   split
   ·intro x hx
    rcases List.mem_cons.1 hx with rfl | hx
    ·exact hy
    ·exact yq9 hI hv ho x hx
   ·split
    ·intro x hx
     rcases List.mem_cons.1 hx with rfl | hx
     ·exact ⟨z03 hy.1 hI,hv⟩
     ·exact ho x hx
    ·intro x hx
     rcases List.mem_cons.1 hx with rfl | hx
     ·exact ⟨hI,hv⟩
     ·exact h x hx
theorem ze8 (h:x9 out) (hx:t6 x.1∧s8 x.2):x9 (z01 out x):=by grind [z01,yq9,z57]
theorem x52 {I:List Iv} {v:v6} (hI:t6 I) (t r c:Int):∀ {out:t8},x9 out→z32 (z49 I v out) t r c=(z32 out t r c || (y9 I t && z27 v r c))
 | [],_=>by unfold z49 z32;simp
 | y :: out,h=>by
   have hy:=h y (by simp)
   have ho:x9 out:=fun x hx=>h x (List.mem_cons_of_mem _ hx)
   have e1:∀ (x:List Iv × v6) (l:t8),z32 (x :: l) t r c=((y9 x.1 t && z27 x.2 r c) || z32 l t r c):=fun x l=>by unfold z32;rw [List.any_cons]
   unfold z49
   split
   ·rw [e1,e1,x52 hI t r c ho,Bool.or_assoc]
   grind [yw5,zn1,y9,z27,z32]
theorem xy6 (h:x9 out) (hx:t6 x.1∧s8 x.2) (t r:Int) (hc:0≤c):z32 (z01 out x) t r c=(z32 out t r c || (y9 x.1 t && z27 x.2 r c)):=by
 unfold z01
 split
 ·rename_i h0
  rcases h0 with h0 | h0
  ·have:z27 x.2 r c=false:=by rw [← zx3 hx.2 r hc,h0];rfl
   grind
  ·rw [h0,show y9 ([]:List Iv) t=false from rfl,Bool.false_and,Bool.or_false]
 grind [x52,zx3]
theorem yr0 (t r:Int) {c:Int} (hc:0≤c):∀ {F out:t8},x9 out→x9 F→z32 (F.foldl z01 out) t r c=(z32 out t r c || z32 F t r c)
 | [],out,_,_=>by simp [z32]
 | x :: F,out,h,hF=>by
   have hx:=hF x (by simp)
   rw [List.foldl_cons,yr0 t r hc (ze8 h hx) (fun y hy=>hF y (List.mem_cons_of_mem _ hy)),xy6 h hx t r hc,Bool.or_assoc]
   congr 1
theorem yg1 (hF:x9 F) (t r:Int) (hc:0≤c):z32 (q6 F) t r c=z32 F t r c:=by
 unfold q6
 rw [yr0 t r hc (fun x hx=>by cases hx) hF]
 rfl
structure zp5 (G:t8):Prop where
 asc:G.Pairwise fun a b=>g9 (r3 a.2) (r3 b.2)<0
 el:∀ x ∈ G,(t6 x.1∧x.1 ≠ [])∧s8 x.2∧(∀ y ∈ x.2,o5 y.2.1 y.2.2=true)∧x.2 ≠ []
theorem v52 {a b:List Iv} (ha:t6 a) (hb:t6 b) (h:a ≠ []):orL a b ≠ []:=fun e=>by
 cases a with
 | nil=>exact h rfl
 | cons z a =>
   have h1:y9 (z :: a) z.1=true:=(t7 _ _).2 ⟨z,by simp,Int.le_refl _,z13 _ ha.can z (by simp)⟩
   have h2:=zn1 ha hb z.1
   rw [e,h1,Bool.true_or] at h2
   cases h2
theorem xq5 {I:List Iv} {v:v6} (hI:t6 I∧I ≠ []) (hv:s8 v∧(∀ y ∈ v,o5 y.2.1 y.2.2=true)∧v ≠ []):∀ {out:t8},zp5 out→zp5 (z49 I v out)∧∀ x ∈ z49 I v out,x.2=v∨∃ y ∈ out,y.2=x.2
 | [],_=>⟨⟨by simp [z49],fun x hx=>(by obtain rfl:=List.mem_singleton.1 hx;exact ⟨hI,hv⟩)⟩,fun x hx=>(by obtain rfl:=List.mem_singleton.1 hx;exact .inl rfl)⟩
 | y :: out,h=>by
   obtain ⟨h1,h2⟩:=List.pairwise_cons.1 h.asc
   have hy:=h.el y (by simp)
   have ho:zp5 out:=⟨h2,fun x hx=>h.el x (List.mem_cons_of_mem _ hx)⟩
   unfold z49
   split
   ·rename_i hlt
    obtain ⟨k1,k2⟩:=xq5 hI hv ho
    refine ⟨⟨List.pairwise_cons.2 ⟨fun x hx => ?_,k1.asc⟩,fun x hx => ?_⟩,fun x hx => ?_⟩
    ·grind
    ·rcases List.mem_cons.1 hx with rfl | hx
     ·exact hy
     ·exact k1.el x hx
    grind
   ·split
    ·rename_i h0
     have hyv:=yw5 h0
     refine ⟨⟨List.pairwise_cons.2 ⟨fun x hx => ?_,h2⟩,fun x hx => ?_⟩,fun x hx => ?_⟩
     ·grind
     ·rcases List.mem_cons.1 hx with rfl | hx
      ·grind [z03,v52]
      ·exact ho.el x hx
     grind
    ·rename_i hlt h0
     have hgt:g9 (r3 v) (r3 y.2)<0:=by grind [zf5,r3]
     refine ⟨⟨List.pairwise_cons.2 ⟨fun x hx => ?_,h.asc⟩,fun x hx => ?_⟩,fun x hx => ?_⟩
     ·rcases List.mem_cons.1 hx with rfl | hx
      ·exact hgt
      ·exact xi1 hgt (h1 x hx)
     ·rcases List.mem_cons.1 hx with rfl | hx
      ·exact ⟨hI,hv⟩
      ·exact h.el x hx
     grind
theorem x53:∀ {F out:t8},zp5 out→x9 F→zp5 (F.foldl z01 out)
 | [],_,h,_=>h
 | x :: F,out,h,hF=>by
   have hx:=hF x (by simp)
   refine x53 (F:=F) ?_ fun y hy=>hF y (List.mem_cons_of_mem _ hy)
   grind [z01,xq5,z57]
theorem ze1 (hF:x9 F):zp5 (q6 F):=x53 ⟨List.Pairwise.nil,fun x hx=>by cases hx⟩ hF
theorem x54 {I:List Iv} {v:v6}:∀ {out:t8},(∀ y ∈ out,g9 (r3 y.2) (r3 v)<0)→z49 I v out=out ++ [(I,v)]
 | [],_=>rfl
 | y :: out,h=>by
   unfold z49
   rw [if_pos (h y (by simp)),x54 fun z hz=>h z (List.mem_cons_of_mem _ hz)]
   rfl
theorem y92 {V:v6} (gV:s8 V) (cV:∀ y ∈ V,o5 y.2.1 y.2.2=true):j8 V=V:=
 zz5 (z57 gV).1 (z57 gV).2 gV cV fun r _ hc=>zx3 gV r hc
theorem x55:∀ {G P:t8},zp5 (P++G)→G.foldl z01 P=P++G
 | [],P,_=>by simp
 | x :: G,P,h=>by
   obtain ⟨⟨h1,h2⟩,h3,h4,h5⟩:=h.el x (by simp)
   have hc:=y92 h3 h4
   have hs:z01 P x=P ++ [x]:=by
    unfold z01
    rw [if_neg (by rw [hc];exact fun e=>e.elim h5 h2),hc]
    exact x54 fun y hy=>(List.pairwise_append.1 h.asc).2.2 y hy x (by simp)
   rw [List.foldl_cons,hs,x55 (G:=G) (P:=P ++ [x]) (by simpa using h)]
   simp
theorem x56 (hF:x9 F):q6 (q6 F)=q6 F:=by
 have:=x55 (G:=q6 F) (P := []) (by simpa using ze1 hF)
 simpa [q6] using this
def zj0 (t:Int) (F:t8):Nat:=F.countP fun x=>y9 x.1 t
theorem x57 {I:List Iv} {v:v6} (hI:t6 I) (t:Int):∀ {out:t8},x9 out→zj0 t (z49 I v out)≤zj0 t out+if y9 I t=true then 1 else 0
 | [],_=>by unfold z49 zj0;rw [List.countP_cons];simp
 | y :: out,h=>by
   have hy:=h y (by simp)
   have ih:=x57 (v:=v) hI t (out:=out) fun x hx=>h x (List.mem_cons_of_mem _ hx)
   grind [zj0,z49,zn1,y9]
theorem yr1 (t:Int):∀ {F out:t8},x9 out→x9 F→zj0 t (F.foldl z01 out)≤zj0 t out+zj0 t F
 | [],out,_,_=>by simp [zj0]
 | x :: F,out,h,hF=>by
   have hx:=hF x (by simp)
   have ih:=yr1 t (F:=F) (ze8 h hx) fun y hy=>hF y (List.mem_cons_of_mem _ hy)
   grind [zj0,z01,y9,x57]
def ze9 (F:t8):Prop:=∀ t,zj0 t F≤1
theorem zq0 (hF:x9 F) (h:ze9 F):ze9 (q6 F):=fun t=>by
 have:=yr1 t (F:=F) (out := []) (fun x hx=>by cases hx) hF
 have h1:=h t
 grind [q6,zj0]
theorem zz6 (hF:x9 F):ze9 (s5 F):=fun t=>by
 unfold zj0 s5
 rw [List.countP_map]
 have key:∀ {l:List Iv},l.Pairwise (fun p q=>p.2<q.1)→l.countP ((fun x:List Iv × v6=>y9 x.1 t) ∘ fun p=>([p],atK F p.1))≤1:=by
  intro l hl
  induction l with
  | nil=>simp
  | cons p l ih =>
    obtain ⟨h1,h2⟩:=List.pairwise_cons.1 hl
    rw [List.countP_cons]
    by_cases hp:y9 [p] t=true
    ·have:l.countP ((fun x:List Iv × v6=>y9 x.1 t) ∘ fun p=>([p],atK F p.1))=0:=by grind [List.countP_eq_zero,yd0]
     grind
    grind
 exact key (y90 hF)
theorem ze2:∀ {F:t8},x9 F→(ze9 F↔F.Pairwise fun x y=>xk1 y.1 x.1 = [])
 | [],_=>⟨fun _=>List.Pairwise.nil,fun _ t=>by simp [zj0]⟩
 | x :: F,h=>by
   have hx:=h x (by simp)
   have hF:x9 F:=fun y hy=>h y (List.mem_cons_of_mem _ hy)
   have ih:=ze2 hF
   have hc:∀ t,zj0 t (x :: F)=zj0 t F+if y9 x.1 t=true then 1 else 0:=fun t=>by unfold zj0;rw [List.countP_cons]
   rw [List.pairwise_cons]
   constructor
   ·intro ha
    refine ⟨fun y hy => ?_,ih.1 fun t=>by have:=ha t;rw [hc] at this;omega⟩
    have gy:=(hF y hy).1
    refine zn2 (zt6 gy hx.1) z34 fun t => ?_
    rw [y06 gy hx.1]
    cases h1:y9 y.1 t with
    | false=>rfl
    | true =>
      cases h2:y9 x.1 t with
      | false=>rfl
      | true =>
        exfalso
        have:=ha t
        grind [zj0,List.countP_pos_iff]
   ·rintro ⟨h1,h2⟩ t
    have h3:=ih.2 h2 t
    rw [hc]
    by_cases hxt:y9 x.1 t=true
    ·rw [if_pos hxt]
     have:zj0 t F=0:=by
      unfold zj0
      rw [List.countP_eq_zero]
      intro y hy hh
      have e:=y06 (hF y hy).1 hx.1 t
      rw [h1 y hy,hh,hxt] at e
      cases e
     omega
    grind
end
end Go.Proofs.YtchndljcahjldaaGreatDoor
