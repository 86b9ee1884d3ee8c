/- Vectors: correct ones, their canonical form, the order of lists of numbers. Plain mathematics; no conditions of its own. -/
import Derived.Test.YtgcakgegboicjaaGreatDoorKPOpen
namespace Go.Proofs.YtgcakgegboicjaaGreatDoor
section
open Go.RowKit
structure GoodV (V:VcT):Prop where
 ent:∀ x ∈ V,GoodE x.2.1 x.2.2
 asc:V.Pairwise fun x y=>x.1<y.1
theorem asc_of {V:VcT} (h:∀ (j:Nat) x y,V[j]? = some x→V[j+1]? = some y→x.1<y.1):V.Pairwise fun x y=>x.1<y.1:=by
 have key:∀ (d i:Nat) x y,V[i]? = some x→V[i+(d+1)]? = some y→x.1<y.1:=by
  intro d
  induction d with
  | zero=>intro i x y hx hy;exact h i x y hx hy
  | succ d ih =>
    intro i x y hx hy
    have hlt:i+(d+1+1)<V.length:=(List.getElem?_eq_some_iff.1 hy).1
    have hz:V[i+(d+1)]? = some V[i+(d+1)]:=by simp [show i+(d+1)<V.length by omega]
    have h1:=ih i x _ hx hz
    have h2:=h (i+(d+1)) _ y hz (by rw [show i+(d+1)+1=i+(d+1+1) from by omega];exact hy)
    omega
 rw [List.pairwise_iff_getElem]
 intro i j hi hj hij
 obtain ⟨d,rfl⟩:∃ d,j=i+(d+1):=⟨j - i - 1,by omega⟩
 exact key d i _ _ (by simp [hi]) (by simp [hj])
theorem badV_all {V:VcT} (h:rightV V=true):∀ j,j<V.length→badV V j=0:=by
 unfold rightV chkVec at h
 rw [Option.isNone_iff_eq_none,List.findSome?_eq_none_iff] at h
 intro j hj
 have:=h j (List.mem_range.2 hj)
 by_cases hb:badV V j=0
 ·exact hb
 ·rw [if_neg hb] at this;cases this
theorem good_of_right {V:VcT} (h64:∀ x ∈ V,All64 x.2.2∧0≤x.2.1∧x.2.1≤UM) (h:rightV V=true):GoodV V:=by
 have hb:=badV_all h
 have hc:∀ (j:Nat) x,V[j]? = some x→codeE (chkN x.2.1 x.2.2)=0:=by
  intro j x hx
  have hj:j<V.length:=(List.getElem?_eq_some_iff.1 hx).1
  by_cases h0:codeE (chkN x.2.1 x.2.2)=0
  ·exact h0
  ·have:=hb j hj
   rw [badV_code (r:=x.1) (m:=x.2.1) (H:=x.2.2) hx h0] at this
   exact absurd this h0
 refine ⟨fun x hx => ?_,asc_of fun j x y hx hy => ?_⟩
 ·obtain ⟨j,hj⟩:=List.mem_iff_getElem?.1 hx
  have h0:=hc j x hj
  have ho:okN x.2.1 x.2.2=true:=by rw [← okN_code,h0];rfl
  exact (okN_iff (h64 x hx).1 (h64 x hx).2).1 ho
 ·have h0:=hb (j+1) (List.getElem?_eq_some_iff.1 hy).1
  rw [badV_next (r:=y.1) (m:=y.2.1) (H:=y.2.2) (r':=x.1) (m':=x.2.1) (H':=x.2.2) hy hx (hc (j+1) y hy)] at h0
  by_cases hle:y.1≤x.1
  ·rw [if_pos hle] at h0;cases h0
  ·omega
theorem code_good {m:Int} {H:List Iv} (h:GoodE m H):codeE (chkN m H)=0:=by
 have:=okN_good h
 rw [← okN_code] at this
 simpa using this
theorem right_of_good {V:VcT} (h:GoodV V):rightV V=true:=by
 unfold rightV
 rw [chkVec_none]
 ·rfl
 intro j hj
 have hx:V[j]? = some V[j]:=by simp [hj]
 have hc:=code_good (h.ent V[j] (List.getElem_mem hj))
 cases j with
 | zero=>exact badV_first (r:=(V[0]).1) (m:=(V[0]).2.1) (H:=(V[0]).2.2) hx hc
 | succ j =>
   have hy:V[j]? = some V[j]:=by simp [show j<V.length by omega]
   rw [badV_next (r:=(V[j+1]).1) (m:=(V[j+1]).2.1) (H:=(V[j+1]).2.2) (r':=(V[j]).1) (m':=(V[j]).2.1) (H':=(V[j]).2.2) hx hy hc]
   have:=List.pairwise_iff_getElem.1 h.asc j (j+1) (by omega) hj (by omega)
   rw [if_neg (by omega)]
def canE (x:Int × Int × List Iv):Option (Int × Int × List Iv):=if knownL x.2.1 x.2.2 = [] then none else some (x.1,topL (knownL x.2.1 x.2.2),holesL (knownL x.2.1 x.2.2))
def canonV (V:VcT):VcT:=V.filterMap canE
theorem canE_some {x y:Int × Int × List Iv} (h:GoodE x.2.1 x.2.2) (hy:canE x=some y):y.1=x.1∧GoodE y.2.1 y.2.2∧canonB y.2.1 y.2.2=true∧knownL y.2.1 y.2.2=knownL x.2.1 x.2.2:=by
 unfold canE at hy
 by_cases hk:knownL x.2.1 x.2.2 = []
 ·rw [if_pos hk] at hy;cases hy
 ·rw [if_neg hk] at hy
  obtain rfl:=Option.some.inj hy
  have hg:=known_good h
  exact ⟨rfl,of_good hg hk,of_canon hg hk,of_known hg hk⟩
theorem canonV_good {V:VcT} (h:GoodV V):GoodV (canonV V)∧∀ y ∈ canonV V,canonB y.2.1 y.2.2=true:=by
 refine ⟨⟨fun y hy => ?_,?_⟩,fun y hy => ?_⟩
 ·obtain ⟨x,hx,e⟩:=List.mem_filterMap.1 hy
  exact (canE_some (h.ent x hx) e).2.1
 ·have key:∀ l:VcT,(∀ x ∈ l,GoodE x.2.1 x.2.2)→l.Pairwise (fun x y=>x.1<y.1)→(l.filterMap canE).Pairwise fun x y=>x.1<y.1:=by
   intro l
   induction l with
   | nil=>intro _ _;exact List.Pairwise.nil
   | cons a l ih =>
     intro hg hp
     have hp':=List.pairwise_cons.1 hp
     have hr:=ih (fun x hx=>hg x (by simp [hx])) hp'.2
     cases ha:canE a with
     | none=>rw [List.filterMap_cons_none ha];exact hr
     | some b =>
       rw [List.filterMap_cons_some ha,List.pairwise_cons]
       refine ⟨fun y hy => ?_,hr⟩
       obtain ⟨x,hx,e⟩:=List.mem_filterMap.1 hy
       have h1:=(canE_some (hg a (by simp)) ha).1
       have h2:=(canE_some (hg x (by simp [hx])) e).1
       have:=hp'.1 x hx
       omega
  exact key V h.ent h.asc
 ·obtain ⟨x,hx,e⟩:=List.mem_filterMap.1 hy
  exact (canE_some (h.ent x hx) e).2.2.1
theorem canV_of {V:VcT} (h:GoodV V) (hc:∀ y ∈ V,canonB y.2.1 y.2.2=true):canV V=true:=by
 unfold canV
 rw [List.all_eq_true]
 intro x hx
 rw [okN_good (h.ent x hx),hc x hx];rfl
theorem canonV_len (V:VcT):(canonV V).length≤V.length:=List.length_filterMap_le _ _
theorem hasV_iff {V:VcT} (h:V.Pairwise fun x y=>x.1<y.1) (r c:Int):hasV V r c=true↔∃ x ∈ V,x.1=r∧hasE x.2.1 x.2.2 c=true:=by
 unfold hasV
 cases hf:V.findIdx? (fun x=>decide (x.1=r)) with
 | none =>
   rw [List.findIdx?_eq_none_iff] at hf
   constructor
   ·intro e;cases e
   ·intro ⟨x,hx,hr,_⟩
    have:=hf x hx
    simp [hr] at this
 | some k =>
   rw [List.findIdx?_eq_some_iff_getElem] at hf
   obtain ⟨hk,hd,_⟩:=hf
   have hx:V[k]? = some V[k]:=by simp [hk]
   have hr:(V[k]).1=r:=by simpa using hd
   simp only [hx]
   constructor
   ·intro e;exact ⟨V[k],List.getElem_mem hk,hr,e⟩
   intro ⟨y,hy,hyr,hyc⟩
   obtain ⟨j,hj,ej⟩:=List.mem_iff_getElem.1 hy
   have hp:=List.pairwise_iff_getElem.1 h
   have:j=k:=by
    rcases Nat.lt_trichotomy j k with hlt | he | hgt
    ·have:=hp j k hj hk hlt;rw [ej,hyr,hr] at this;omega
    ·exact he
    ·have:=hp k j hk hj hgt;rw [ej,hyr,hr] at this;omega
   subst this
   rw [ej];exact hyc
theorem canonV_has {V:VcT} (h:GoodV V) (r:Int) {c:Int} (hc:0≤c):hasV (canonV V) r c=hasV V r c:=by
 rw [Bool.eq_iff_iff,hasV_iff (canonV_good h).1.asc,hasV_iff h.asc]
 constructor
 ·rintro ⟨y,hy,hr,hh⟩
  obtain ⟨x,hx,e⟩:=List.mem_filterMap.1 hy
  obtain ⟨h1,h2,_,h4⟩:=canE_some (h.ent x hx) e
  refine ⟨x,hx,by omega,?_⟩
  rw [← known_has (h.ent x hx) hc,← h4,known_has h2 hc];exact hh
 ·rintro ⟨x,hx,hr,hh⟩
  have hne:knownL x.2.1 x.2.2 ≠ []:=fun e=>by
   rw [← known_has (h.ent x hx) hc,e] at hh;cases hh
  have e:canE x=some (x.1,topL (knownL x.2.1 x.2.2),holesL (knownL x.2.1 x.2.2)):=by unfold canE;rw [if_neg hne]
  obtain ⟨h1,h2,_,h4⟩:=canE_some (h.ent x hx) e
  refine ⟨_,List.mem_filterMap.2 ⟨x,hx,e⟩,hr,?_⟩
  rw [← known_has h2 hc,h4,known_has (h.ent x hx) hc];exact hh
theorem cmpL_self:∀ A:List Int,cmpL A A=0
 | []=>rfl
 | x :: a=>by unfold cmpL;rw [if_neg (by omega),if_neg (by omega)];exact cmpL_self a
theorem cmpL_neg:∀ A B:List Int,cmpL B A = - cmpL A B
 | [],[]=>rfl
 | [],_ :: _=>rfl
 | _ :: _,[]=>rfl
 | x :: a,y :: b=>by
   unfold cmpL
   have:=cmpL_neg a b
   by_cases h1:x<y
   ·rw [if_neg (by omega),if_pos h1,if_pos h1];rfl
   ·by_cases h2:y<x
    ·rw [if_pos h2,if_neg h1,if_pos h2]
    ·rw [if_neg h2,if_neg h1,if_neg h1,if_neg h2];exact this
theorem cmpL_zero:∀ {A B:List Int},cmpL A B=0→A=B
 | [],[],_=>rfl
 | x :: a,y :: b,h=>by
   unfold cmpL at h
   by_cases h1:x<y
   ·rw [if_pos h1] at h;cases h
   ·rw [if_neg h1] at h
    by_cases h2:y<x
    ·rw [if_pos h2] at h;cases h
    ·rw [if_neg h2] at h
     rw [cmpL_zero h,show x=y by omega]
theorem cmpL_trans:∀ {A B C:List Int},cmpL A B≤0→cmpL B C≤0→cmpL A C≤0
 | [],_,[],_,_=>by decide
 | [],_,_ :: _,_,_=>by show (-1:Int)≤0;decide
 | _ :: _,[],_,h,_=>absurd (show (1:Int)≤0 from h) (by decide)
 | _ :: _,_ :: _,[],_,h=>absurd (show (1:Int)≤0 from h) (by decide)
 | x :: a,y :: b,z :: c,h,h'=>by
   unfold cmpL at h h' ⊢
   by_cases h1:x<y
   ·by_cases h3:y<z
    ·rw [if_pos (by omega)];decide
    ·rw [if_neg h3] at h'
     by_cases h4:z<y
     ·rw [if_pos h4] at h';exact absurd h' (by decide)
     ·rw [if_pos (by omega)];decide
   ·rw [if_neg h1] at h
    by_cases h2:y<x
    ·rw [if_pos h2] at h;exact absurd h (by decide)
    ·rw [if_neg h2] at h
     by_cases h3:y<z
     ·rw [if_pos (by omega)];decide
     ·rw [if_neg h3] at h'
      by_cases h4:z<y
      ·rw [if_pos h4] at h';exact absurd h' (by decide)
      ·rw [if_neg h4] at h'
       rw [if_neg (by omega),if_neg (by omega)]
       exact cmpL_trans h h'
theorem ivN_inj:∀ {H H':List Iv},ivN H=ivN H'→H=H'
 | [],[],_=>rfl
 | [],y :: H',h=>by have:=congrArg List.length h;rw [ivN_len,ivN_len] at this;simp at this
 | y :: H,[],h=>by have:=congrArg List.length h;rw [ivN_len,ivN_len] at this;simp at this
 | y :: H,y' :: H',h=>by
   unfold ivN at h
   rw [List.flatMap_cons,List.flatMap_cons] at h
   obtain ⟨h1,h2⟩:=List.append_inj h rfl
   rw [ivN_inj (show ivN H=ivN H' from h2)]
   have a1:=(List.cons.inj h1).1
   have a2:=(List.cons.inj (List.cons.inj h1).2).1
   rw [show y=y' from Prod.ext a1 a2]
theorem ent_inj:∀ {V V':VcT},V.length=V'.length→V.flatMap entN=V'.flatMap entN→V=V'
 | [],[],_,_=>rfl
 | [],_ :: _,h,_=>by simp at h
 | _ :: _,[],h,_=>by simp at h
 | x :: V,x' :: V',hl,h=>by
   rw [List.flatMap_cons,List.flatMap_cons] at h
   unfold entN at h
   simp only [List.cons_append,List.nil_append,List.cons.injEq] at h
   obtain ⟨h1,h2,h3,h4⟩:=h
   have hll:(ivN x.2.2).length=(ivN x'.2.2).length:=by rw [ivN_len,ivN_len];omega
   obtain ⟨h5,h6⟩:=List.append_inj h4 hll
   have h7:=ivN_inj h5
   rw [ent_inj (V:=V) (V':=V') (by simpa using hl) h6,show x=x' from Prod.ext h1 (Prod.ext h2 h7)]
theorem nums_inj {V V':VcT} (h:numsV V=numsV V'):V=V':=by
 unfold numsV at h
 obtain ⟨h1,h2⟩:=List.cons.inj h
 exact ent_inj (by omega) h2
theorem cmp_same (V V':VcT):decide (cmpL (numsV V) (numsV V')=0)=decide (V=V'):=by
 by_cases h:V=V'
 ·subst h;simp [cmpL_self]
 ·have:cmpL (numsV V) (numsV V')≠0:=fun e=>h (nums_inj (cmpL_zero e))
  simp [h,this]
end
section
open Go.RowKit
def entC (es:List (Int × Int × Value)):List Value:=es.flatMap fun e => [.int .u64 e.1,.int .u64 e.2.1,e.2.2]
theorem entC_app (a b:List (Int × Int × Value)):entC (a++b)=entC a++entC b:=by unfold entC;rw [List.flatMap_append]
theorem entC_at:∀ (es:List (Int × Int × Value)) (i:Nat) (e:Int × Int × Value),es[i]? = some e→(entC es)[i*3]? = some (.int .u64 e.1)∧(entC es)[i*3+1]? = some (.int .u64 e.2.1)∧(entC es)[i*3+2]? = some e.2.2
 | [],i,e,h=>by simp at h
 | x :: es,0,e,h=>by
   obtain rfl:x=e:=by simpa using h
   exact ⟨rfl,rfl,rfl⟩
 | x :: es,i+1,e,h=>by
   have:=entC_at es i e (by simpa using h)
   have hc:∀ j,(entC (x :: es))[j+3]? = (entC es)[j]? := fun j=>by
    unfold entC
    rw [List.flatMap_cons,List.getElem?_append_right (by simp)]
    simp
   refine ⟨?_,?_,?_⟩
   ·rw [show (i+1)*3=i*3+3 from by omega,hc];exact this.1
   ·rw [show (i+1)*3+1=(i*3+1)+3 from by omega,hc];exact this.2.1
   ·rw [show (i+1)*3+2=(i*3+2)+3 from by omega,hc];exact this.2.2
structure HolE (w:World) (B:Nat) (g:Option Nat) (s:Value) (H:List Iv):Prop where
 ivs:IvsAt w s H
 soft:SoftE w B s H.length
 apart:0<H.length→s.ownBlock≠g
theorem HolE.call {w w':World} {B:Nat} {g:Option Nat} {s:Value} {H:List Iv} (h:HolE w B g s H) (hb:Below w.heap.size w w'):HolE w' B g s H:=⟨h.ivs.call hb,h.soft.call hb,h.apart⟩
theorem HolE.grown {w w':World} {B:Nat} {g g':Option Nat} {s:Value} {H:List Iv} (h:HolE w B g s H) (hg:w.grownBy w' g) (hat:g'=g∨g'=some w.heap.size):HolE w' B g' s H:=by
 obtain ⟨⟨p,cap,h1,h2,h3⟩,⟨p',cap',k1,k2,k3⟩,h5⟩:=h
 rw [h1] at k1
 cases k1
 by_cases hH:H = []
 ·subst hH
  exact ⟨⟨p,cap,h1,h2,fun e=>absurd rfl e⟩,⟨p,cap,h1,k2,fun e=>absurd e (Nat.lt_irrefl 0)⟩,fun e=>absurd e (Nat.lt_irrefl 0)⟩
 ·have hpos:=List.length_pos_iff.2 hH
  obtain ⟨b,o,rfl,h6⟩:=h3 hH
  obtain ⟨b',o',e,hB,h7⟩:=k3 hpos
  cases e
  have hs:s.ownBlock=some b:=by rw [h1];rfl
  have hne:some b≠g:=by rw [← hs];exact h5 hpos
  have hlt:b<w.heap.size:=by
   obtain ⟨⟨⟨z,hz⟩,_⟩,_⟩:=h7 0 hpos
   exact World.block_lt_of_cell? w _ hz
  have hblk:=hg.block b hlt hne
  have hc:∀ i,w'.cell? ⟨b,i,none⟩=w.cell? ⟨b,i,none⟩:=fun i=>World.cell?_of_block hblk
  have hf:∀ i,w'.frozen? ⟨b,i,none⟩=w.frozen? ⟨b,i,none⟩:=fun i=>World.frozen?_of_block hblk
  refine ⟨⟨_,cap,h1,h2,fun _=>⟨b,o,rfl,fun i x hx => ?_⟩⟩,⟨_,cap,h1,k2,fun _=>⟨b,o,rfl,hB,fun i hi => ?_⟩⟩,fun _ => ?_⟩
  ·rw [hc,hc];exact h6 i x hx
  ·rw [hc,hc,hf,hf];exact h7 i hi
  ·rw [hs]
   rcases hat with rfl | rfl
   ·exact hne
   ·intro e;have:=Option.some.inj e;omega
def OutV (w:World) (B:Nat) (v:Value) (V:VcT):Prop:=
 ∃ es:List (Int × Int × Value),es.length=V.length∧w.ownsRow B 82 3 v es.length (entC es)∧∀ (i:Nat) (e:Int × Int × Value) (x:Int × Int × List Iv),es[i]? = some e→V[i]? = some x→e.1=x.1∧e.2.1=x.2.1∧HolE w B v.ownBlock e.2.2 x.2.2
theorem OutV.nil (w:World) (B:Nat):OutV w B (.slice none 0 0) []:=⟨[],rfl,World.ownsRow_nil w B _ 3,fun i e x h=>by simp at h⟩
theorem OutV.shape {w:World} {B:Nat} {v:Value} {V:VcT} (h:OutV w B v V):∃ p cap,v = .slice p V.length cap:=by
 obtain ⟨es,h1,h2,_⟩:=h
 obtain ⟨p,cap,e,_⟩:=own_shape h2
 exact ⟨p,cap,by rw [e,h1]⟩
theorem OutV.call {w w':World} {B:Nat} {v:Value} {V:VcT} (h:OutV w B v V) (hb:Below w.heap.size w w'):OutV w' B v V:=by
 obtain ⟨es,h1,h2,h3⟩:=h
 exact ⟨es,h1,own_below h2 hb,fun i e x he hx=>⟨(h3 i e x he hx).1,(h3 i e x he hx).2.1,(h3 i e x he hx).2.2.call hb⟩⟩
theorem own_apart {w w':World} {B sz n k:Nat} {t:TypeId} {v s:Value} {xs:List Value} (h:w.ownsRow B t sz v n xs) (hs:SoftE w' w.heap.size s k) (hk:0<k):s.ownBlock≠v.ownBlock:=by
 obtain ⟨p,cap,rfl,_,h3⟩:=hs
 obtain ⟨g,o,rfl,hg,_⟩:=h3 hk
 intro e
 have e':some g=v.ownBlock:=e
 have:=(h.lt g e'.symm).2
 omega
theorem OutV.push {w w2:World} {B:Nat} {v v2:Value} {es:List (Int × Int × Value)} {V:VcT} {r m:Int} {s:Value} {H:List Iv} (hel:es.length=V.length)
 (hall:∀ (i:Nat) (e:Int × Int × Value) (x:Int × Int × List Iv),es[i]? = some e→V[i]? = some x→e.1=x.1∧e.2.1=x.2.1∧HolE w B v.ownBlock e.2.2 x.2.2)
 (hrow:w2.ownsRow B 82 3 v2 (es.length+1) (entC es ++ [.int .u64 r,.int .u64 m,s])) (hg:w.grownBy w2 v.ownBlock) (hat:v2.ownBlock=v.ownBlock∨v2.ownBlock=some w.heap.size) (hx:HolE w B v.ownBlock s H):OutV w2 B v2 (V ++ [(r,m,H)]):=by
 refine ⟨es ++ [(r,m,s)],by rw [List.length_append,List.length_append,hel];rfl,?_,fun i e x he hx' => ?_⟩
 ·rw [List.length_append,entC_app];exact hrow
 ·by_cases hi:i<es.length
  ·rw [List.getElem?_append_left hi] at he
   rw [List.getElem?_append_left (by omega)] at hx'
   obtain ⟨h1,h2,h3⟩:=hall i e x he hx'
   exact ⟨h1,h2,h3.grown hg hat⟩
  ·rw [List.getElem?_append_right (by omega)] at he
   rw [List.getElem?_append_right (by omega)] at hx'
   have h0:i - es.length=0:=by
    have:=(List.getElem?_eq_some_iff.1 he).1
    simpa using this
   have h0':i - V.length=0:=by omega
   rw [h0] at he;rw [h0'] at hx'
   obtain rfl:(r,m,s)=e:=by simpa using he
   obtain rfl:(r,m,H)=x:=by simpa using hx'
   exact ⟨rfl,rfl,hx.grown hg hat⟩
theorem own_cells3 {w:World} {B n g cap:Nat} {t:TypeId} {es:List (Int × Int × Value)} (h:w.ownsRow B t 3 (.slice (some ⟨g,0,none⟩) n cap) n (entC es)) (hn:n=es.length) (i:Nat) (e:Int × Int × Value) (he:es[i]? = some e) :
 w.cell? ⟨g,0+i*3,none⟩=some (.int .u64 e.1)∧w.cell? ⟨g,0+i*3+1,none⟩=some (.int .u64 e.2.1)∧w.cell? ⟨g,0+i*3+2,none⟩=some e.2.2:=by
 have hi:=(List.getElem?_eq_some_iff.1 he).1
 obtain ⟨c0,c1,c2⟩:=entC_at es i e he
 subst hn
 rw [Nat.zero_add]
 exact ⟨by rw [h.cellAt (i*3) (by omega)];exact c0,by rw [h.cellAt (i*3+1) (by omega)];exact c1,by rw [h.cellAt (i*3+2) (by omega)];exact c2⟩
theorem OutV.vecAt {w:World} {B:Nat} {t:TypeId} {v:Value} {es:List (Int × Int × Value)} (h2:w.ownsRow B t 3 v es.length (entC es)):VecAt w v es:=by
 have h3:=h2
 rcases h2.2 with ⟨rfl,h0⟩ | ⟨g,cap,cur,rfl,hbg,hg,hnc,hcm,_⟩
 ·exact ⟨none,0,by rw [h0],by omega,fun e=>absurd (List.eq_nil_of_length_eq_zero h0) e⟩
 ·exact ⟨_,cap,rfl,Nat.le_trans hnc hcm,fun _=>⟨g,0,rfl,fun i e he=>own_cells3 h3 rfl i e he⟩⟩
theorem OutV.vec {w:World} {B:Nat} {v:Value} {V:VcT} (h:OutV w B v V) (hl:V.length≤100000):VecI w v V:=by
 obtain ⟨es,h1,h2,h3⟩:=h
 exact ⟨⟨es,OutV.vecAt h2,h1,fun i e x he hx=>⟨(h3 i e x he hx).1,(h3 i e x he hx).2.1,(h3 i e x he hx).2.2.ivs⟩⟩,hl⟩
end
section
open Go.RowKit
theorem infoE:(Tryz.prog.info? 82).map (fun i=>(i.zero,i.size,i.bytes))=some (some (.agg #[.int .u64 0,.int .u64 0,.slice none 0 0]),3,40):=by kernel_rfl
theorem cell_three9 (w:World) (x y z:Value) (t:TypeId) (k:Nat) (hk:k=w.heap.size):∀ j u,[x,y,z][j]? = some u→(w.alloc (.cells #[x,y,z] t)).cell? ((⟨k,0,none⟩:Addr).add j)=some u:=by
 subst hk
 intro j u h
 match j,h with
 | 0,h=>simp at h;subst h;simp [Addr.add]
 | 1,h=>simp at h;subst h;simp [Addr.add]
 | 2,h=>simp at h;subst h;simp [Addr.add]
theorem some9_of {L:List Iv} (h:L ≠ []):someE L=true:=by unfold someE;cases L <;> simp at *
theorem canonV_snoc {V:VcT} {k:Nat} {r m:Int} {H:List Iv} (h:V[k]? = some (r,m,H)) :
 canonV (V.take (k+1))=if knownL m H = [] then canonV (V.take k) else canonV (V.take k) ++ [(repE r (knownL m H),topL (knownL m H),holesL (knownL m H))]:=by
 unfold canonV
 rw [take_snoc9 h,List.filterMap_append]
 by_cases hk:knownL m H = []
 ·rw [if_pos hk]
  have:canE (r,m,H)=none:=by unfold canE;rw [if_pos hk]
  rw [List.filterMap_cons_none this];simp
 ·rw [if_neg hk]
  have:canE (r,m,H)=some (r,topL (knownL m H),holesL (knownL m H)):=by unfold canE;rw [if_neg hk]
  rw [List.filterMap_cons_some this]
  unfold repE
  rw [if_neg hk];rfl
end
section
open Go.RowKit
def NumR (w:World) (v:Value) (L:List Int):Prop:=
 ∃ p cap,v = .slice p L.length cap∧L.length≤maxLen∧(L ≠ []→∃ b o,p=some ⟨b,o,none⟩∧∀ (i:Nat) (x:Int),L[i]? = some x→w.cell? ⟨b,o+i,none⟩=some (.int .u64 x))
theorem NumR.call {w w':World} {v:Value} {L:List Int} (h:NumR w v L) (hb:Below w.heap.size w w'):NumR w' v L:=by
 obtain ⟨p,cap,h1,h2,h3⟩:=h
 refine ⟨p,cap,h1,h2,fun hne => ?_⟩
 obtain ⟨b,o,h5,h6⟩:=h3 hne
 exact ⟨b,o,h5,fun i x hi=>keep_cell (h6 i x hi) hb⟩
theorem own_numR {w:World} {B:Nat} {v:Value} {L:List Int} (h:OwnN w B v L):NumR w v L:=by
 have hrow:w.ownsRow B 36 1 v L.length (nmC L):=h
 have h3:=hrow
 rcases hrow.2 with ⟨rfl,h0⟩ | ⟨g,cap,cur,rfl,hbg,hg,hnc,hcm,_⟩
 ·exact ⟨none,0,by rw [h0],by omega,fun e=>absurd (List.eq_nil_of_length_eq_zero h0) e⟩
 ·exact ⟨_,cap,rfl,Nat.le_trans hnc hcm,fun _=>⟨g,0,rfl,fun i x hx=>by
   rw [Nat.zero_add,h3.cellAt i (by have:=(List.getElem?_eq_some_iff.1 hx).1;omega)]
   exact nm_at hx⟩⟩
structure VecS (w:World) (v:Value) (V:VcT):Prop where
 m:VecM w v V
 sane:SaneE v
 rng:∀ x ∈ V,0≤x.1∧x.1≤18446744073709551615
theorem VecS.call {w w':World} {v:Value} {V:VcT} (h:VecS w v V) (hb:Below w.heap.size w w'):VecS w' v V:=⟨h.m.call hb,h.sane,h.rng⟩
def SoftW (w:World) (B:Nat) (v:Value) (ns:List Nat):Prop:=
 ∃ p cap,v = .slice p ns.length cap∧ns.length≤maxLen∧(ns ≠ []→∃ b o,p=some ⟨b,o,none⟩∧B≤b∧∀ (i:Nat) (n:Nat),ns[i]? = some n →
  (∃ z:Int,w.cell? ⟨b,o+i*3,none⟩=some (.int .u64 z))∧(∃ z:Int,w.cell? ⟨b,o+i*3+1,none⟩=some (.int .u64 z))∧w.frozen? ⟨b,o+i*3,none⟩=false∧w.frozen? ⟨b,o+i*3+1,none⟩=false ∧
  ∃ s,w.cell? ⟨b,o+i*3+2,none⟩=some s∧SoftE w B s n)
def nsV (V:VcT):List Nat:=V.map fun x=>x.2.2.length
def IsVN (V:VcT) (w:World) (e:Ending) (w':World):Prop:=∃ u,e = .returned u∧VecS w' u V∧SoftW w' w.heap.size u (nsV V)∧Below w.heap.size w w'
def chkE9 (V:VcT):Option (Int × Option Int):=(chkVec V).map fun x=>(x.1,some (x.2:Int))
end
section
open Go.RowKit
def knV (V:VcT) (r:Int):List Iv:=match V.findIdx? (fun x=>decide (x.1=r)) with
 | none => []
 | some k=>match V[k]? with
   | none => []
   | some x=>knownL x.2.1 x.2.2
theorem knV_none {V:VcT} {r:Int} (h:∀ x ∈ V,x.1≠r):knV V r = []:=by
 unfold knV
 have:V.findIdx? (fun x=>decide (x.1=r))=none:=by
  rw [List.findIdx?_eq_none_iff]
  intro x hx
  simpa using h x hx
 rw [this]
theorem asc_inj {V:VcT} (h:V.Pairwise fun x y=>x.1<y.1) {x y:Int × Int × List Iv} (hx:x ∈ V) (hy:y ∈ V) (e:x.1=y.1):x=y:=by
 obtain ⟨i,hi,ei⟩:=List.mem_iff_getElem.1 hx
 obtain ⟨j,hj,ej⟩:=List.mem_iff_getElem.1 hy
 have hp:=List.pairwise_iff_getElem.1 h
 have:i=j:=by
  rcases Nat.lt_trichotomy i j with hlt | he | hgt
  ·have:=hp i j hi hj hlt;rw [ei,ej] at this;omega
  ·exact he
  ·have:=hp j i hj hi hgt;rw [ei,ej] at this;omega
 subst this
 rw [← ei,← ej]
theorem knV_mem {V:VcT} (h:V.Pairwise fun x y=>x.1<y.1) {x:Int × Int × List Iv} (hx:x ∈ V):knV V x.1=knownL x.2.1 x.2.2:=by
 unfold knV
 cases hf:V.findIdx? (fun y=>decide (y.1=x.1)) with
 | none =>
   rw [List.findIdx?_eq_none_iff] at hf
   have:=hf x hx
   simp at this
 | some k =>
   rw [List.findIdx?_eq_some_iff_getElem] at hf
   obtain ⟨hk,hd,_⟩:=hf
   have hx':V[k]? = some V[k]:=by simp [hk]
   have hr:(V[k]).1=x.1:=by simpa using hd
   simp only [hx']
   rw [asc_inj h (List.getElem_mem hk) hx hr]
theorem knV_cases {V:VcT} (h:V.Pairwise fun x y=>x.1<y.1) (r:Int):(∃ x ∈ V,x.1=r∧knV V r=knownL x.2.1 x.2.2)∨((∀ x ∈ V,x.1≠r)∧knV V r = []):=by
 by_cases he:∃ x ∈ V,x.1=r
 ·obtain ⟨x,hx,rfl⟩:=he
  exact .inl ⟨x,hx,rfl,knV_mem h hx⟩
 ·have hn:∀ x ∈ V,x.1≠r:=fun x hx e=>he ⟨x,hx,e⟩
  exact .inr ⟨hn,knV_none hn⟩
theorem knV_good {V:VcT} (h:GoodV V) (r:Int):GoodL (knV V r):=by
 rcases knV_cases h.asc r with ⟨x,hx,_,e⟩ | ⟨_,e⟩
 ·rw [e];exact known_good (h.ent x hx)
 ·rw [e];exact good_nil
theorem hasV_kn {V:VcT} (h:GoodV V) (r:Int) {c:Int} (hc:0≤c):hasV V r c=hasL (knV V r) c:=by
 rw [Bool.eq_iff_iff,hasV_iff h.asc]
 rcases knV_cases h.asc r with ⟨x,hx,hr,e⟩ | ⟨hn,e⟩
 ·rw [e,known_has (h.ent x hx) hc]
  constructor
  ·rintro ⟨y,hy,hyr,hh⟩
   rwa [asc_inj h.asc hx hy (hr.trans hyr.symm)]
  ·intro hh;exact ⟨x,hx,hr,hh⟩
 ·rw [e]
  constructor
  ·rintro ⟨y,hy,hyr,_⟩;exact absurd hyr (hn y hy)
  ·intro hh;cases hh
theorem asc_eq:∀ {l m:VcT},l.Pairwise (fun x y=>x.1<y.1)→m.Pairwise (fun x y=>x.1<y.1)→(∀ x,x ∈ l↔x ∈ m)→l=m
 | [],[],_,_,_=>rfl
 | [],y :: m,_,_,h=>by have:=(h y).2 (by simp);cases this
 | x :: l,[],_,_,h=>by have:=(h x).1 (by simp);cases this
 | x :: l,y :: m,hl,hm,h=>by
   have h1:=List.pairwise_cons.1 hl
   have h2:=List.pairwise_cons.1 hm
   have hxy:x=y:=by
    rcases List.mem_cons.1 ((h x).1 (by simp)) with e | hx
    ·exact e
    ·rcases List.mem_cons.1 ((h y).2 (by simp)) with e | hy
     ·exact e.symm
     ·have a:=h1.1 y hy
      have b:=h2.1 x hx
      omega
   subst hxy
   rw [asc_eq h1.2 h2.2 fun z => ?_]
   constructor
   ·intro hz
    rcases List.mem_cons.1 ((h z).1 (by simp [hz])) with e | hz'
    ·subst e;have:=h1.1 z hz;omega
    ·exact hz'
   ·intro hz
    rcases List.mem_cons.1 ((h z).2 (by simp [hz])) with e | hz'
    ·subst e;have:=h2.1 z hz;omega
    ·exact hz'
theorem canV_eq {V W:VcT} (hV:GoodV V) (cV:∀ y ∈ V,canonB y.2.1 y.2.2=true) (hW:GoodV W) (cW:∀ y ∈ W,canonB y.2.1 y.2.2=true) (h:∀ r,knV V r=knV W r):V=W:=by
 have key:∀ {V W:VcT},GoodV V→(∀ y ∈ V,canonB y.2.1 y.2.2=true)→GoodV W→(∀ y ∈ W,canonB y.2.1 y.2.2=true)→(∀ r,knV V r=knV W r)→∀ x,x ∈ V→x ∈ W:=by
  intro V W hV cV hW cW h x hx
  obtain ⟨hne,ht,hh⟩:=canon_of (hV.ent x hx) (cV x hx)
  have e:=h x.1
  rw [knV_mem hV.asc hx] at e
  rcases knV_cases hW.asc x.1 with ⟨y,hy,hyr,e2⟩ | ⟨_,e2⟩
  ·obtain ⟨_,ht',hh'⟩:=canon_of (hW.ent y hy) (cW y hy)
   rw [e2] at e
   have:y=x:=Prod.ext hyr (Prod.ext (by rw [← ht',← ht,e]) (by rw [← hh',← hh,e]))
   rw [← this];exact hy
  ·rw [e2] at e;exact absurd e hne
 exact asc_eq hV.asc hW.asc fun x=>⟨key hV cV hW cW h x,key hW cW hV cV (fun r=>(h r).symm) x⟩
def repsV (A B:VcT):List Int:=(A.map (·.1)++B.map (·.1)).foldl insI []
theorem reps_asc (A B:VcT):(repsV A B).Pairwise (· < ·):=(fold_ins _ _ List.Pairwise.nil).1
theorem reps_mem (A B:VcT) (r:Int):r ∈ repsV A B↔(∃ x ∈ A,x.1=r)∨∃ x ∈ B,x.1=r:=by
 unfold repsV
 rw [(fold_ins _ _ List.Pairwise.nil).2 r]
 simp
def opE (f:List Iv→List Iv→List Iv) (A B:VcT) (r:Int):Option (Int × Int × List Iv):=
 if f (knV A r) (knV B r) = [] then none else some (r,topL (f (knV A r) (knV B r)),holesL (f (knV A r) (knV B r)))
def opV (f:List Iv→List Iv→List Iv) (A B:VcT):VcT:=(repsV A B).filterMap (opE f A B)
theorem opE_some {f:List Iv→List Iv→List Iv} {A B:VcT} {r:Int} {y:Int × Int × List Iv} (h:opE f A B r=some y):y.1=r∧f (knV A r) (knV B r) ≠ []∧y=(r,topL (f (knV A r) (knV B r)),holesL (f (knV A r) (knV B r))):=by
 unfold opE at h
 by_cases hk:f (knV A r) (knV B r) = []
 ·rw [if_pos hk] at h;cases h
 ·rw [if_neg hk] at h
  have e:=(Option.some.inj h).symm
  exact ⟨by rw [e],hk,e⟩
theorem filterMap_asc {g:Int→Option (Int × Int × List Iv)} (hg:∀ r y,g r=some y→y.1=r):∀ {l:List Int},l.Pairwise (· < ·)→(l.filterMap g).Pairwise fun x y=>x.1<y.1
 | [],_=>List.Pairwise.nil
 | a :: l,h=>by
   have h':=List.pairwise_cons.1 h
   have ih:=filterMap_asc hg h'.2
   cases ha:g a with
   | none=>rw [List.filterMap_cons_none ha];exact ih
   | some b =>
     rw [List.filterMap_cons_some ha,List.pairwise_cons]
     refine ⟨fun y hy => ?_,ih⟩
     obtain ⟨x,hx,e⟩:=List.mem_filterMap.1 hy
     have h1:=hg a b ha
     have h2:=hg x y e
     have:=h'.1 x hx
     omega
theorem opV_good {f:List Iv→List Iv→List Iv} (hf:∀ K L,GoodL K→GoodL L→GoodL (f K L)) {A B:VcT} (hA:GoodV A) (hB:GoodV B):GoodV (opV f A B)∧∀ y ∈ opV f A B,canonB y.2.1 y.2.2=true:=by
 have hk:∀ r,GoodL (f (knV A r) (knV B r)):=fun r=>hf _ _ (knV_good hA r) (knV_good hB r)
 refine ⟨⟨fun y hy => ?_,filterMap_asc (fun r y h=>(opE_some h).1) (reps_asc A B)⟩,fun y hy => ?_⟩
 ·obtain ⟨r,_,e⟩:=List.mem_filterMap.1 hy
  obtain ⟨_,hne,e2⟩:=opE_some e
  rw [e2];exact of_good (hk r) hne
 ·obtain ⟨r,_,e⟩:=List.mem_filterMap.1 hy
  obtain ⟨_,hne,e2⟩:=opE_some e
  rw [e2];exact of_canon (hk r) hne
theorem opV_kn {f:List Iv→List Iv→List Iv} (hf:∀ K L,GoodL K→GoodL L→GoodL (f K L)) (h0:f [] [] = []) {A B:VcT} (hA:GoodV A) (hB:GoodV B) (r:Int):knV (opV f A B) r=f (knV A r) (knV B r):=by
 have hk:=hf _ _ (knV_good hA r) (knV_good hB r)
 have hg:=(opV_good hf hA hB).1
 by_cases hne:f (knV A r) (knV B r) = []
 ·rw [hne]
  refine knV_none fun y hy e => ?_
  obtain ⟨r',_,e'⟩:=List.mem_filterMap.1 hy
  obtain ⟨h1,h2,_⟩:=opE_some e'
  rw [← h1,e] at h2
  exact h2 hne
 ·have hr:r ∈ repsV A B:=by
   rw [reps_mem]
   rcases knV_cases hA.asc r with ⟨x,hx,hxr,_⟩ | ⟨_,ea⟩
   ·exact .inl ⟨x,hx,hxr⟩
   ·rcases knV_cases hB.asc r with ⟨x,hx,hxr,_⟩ | ⟨_,eb⟩
    ·exact .inr ⟨x,hx,hxr⟩
    ·rw [ea,eb] at hne;exact absurd h0 hne
  have he:opE f A B r=some (r,topL (f (knV A r) (knV B r)),holesL (f (knV A r) (knV B r))):=by unfold opE;rw [if_neg hne]
  have hm:(r,topL (f (knV A r) (knV B r)),holesL (f (knV A r) (knV B r))) ∈ opV f A B:=List.mem_filterMap.2 ⟨r,hr,he⟩
  have:=knV_mem hg.asc hm
  rw [of_known hk hne] at this
  exact this
theorem opV_len (f:List Iv→List Iv→List Iv) (A B:VcT):(opV f A B).length≤A.length+B.length:=by
 refine Nat.le_trans (List.length_filterMap_le _ _) ?_
 unfold repsV
 refine Nat.le_trans (fold_len _ _) ?_
 simp
end
section
open Go.RowKit
theorem vec_nil9 (w:World):VecS w (.slice none 0 0) []:=
 ⟨⟨⟨[],⟨none,0,rfl,Nat.zero_le _,fun h=>absurd rfl h⟩,rfl,fun i e x h=>by simp at h⟩,Nat.zero_le _⟩,sane_nil,fun x hx=>by cases hx⟩
theorem vec_one9 {w:World} {b:Nat} {r m:Int} {s:Value} {H:List Iv} (c0:w.cell? ⟨b,0,none⟩=some (.int .u64 r)) (c1:w.cell? ⟨b,1,none⟩=some (.int .u64 m)) (c2:w.cell? ⟨b,2,none⟩=some s) (ha:AnyAt w s m H) (hr:0≤r∧r≤18446744073709551615):VecS w (.slice (some ⟨b,0,none⟩) 1 1) [(r,m,H)]:=by
 refine ⟨⟨⟨[(r,m,s)],⟨_,_,rfl,(by show (1:Nat)≤maxLen;decide),fun _=>⟨b,0,rfl,fun i e he => ?_⟩⟩,rfl,fun i e x he hx => ?_⟩,by simp⟩,sane_lit _ _ _ (Nat.le_refl _),fun x hx=>by rw [List.mem_singleton.1 hx];exact hr⟩
 ·match i,he with
  | 0,he=>simp at he;subst he;exact ⟨c0,c1,c2⟩
 ·match i,he,hx with
  | 0,he,hx=>simp at he hx;subst he;subst hx;exact ⟨rfl,rfl,ha⟩
end
section
open Go.RowKit
theorem HolesAt.call {lim:Nat} {w w':World} {s:Value} (h:HolesAt lim w s) (hb:Below w.heap.size w w'):HolesAt lim w' s:=by
 rcases h with h | ⟨l,h1,h2,h3⟩
 ·exact .inl h
 ·exact .inr ⟨l,h1,h2,h3.call hb⟩
theorem EntIn.call {lim:Nat} {w w':World} {e:Int × Int × Value} (h:EntIn lim w e) (hb:Below w.heap.size w w'):EntIn lim w' e:=⟨h.1,h.2.1,h.2.2.1,h.2.2.2.call hb⟩
def vecArg (w:World) (v:Value):Prop:=SaneE v∧∃ es,VecAt w v es∧∀ e ∈ es,EntIn 30 w e
theorem vecArg.few {w:World} {v:Value} (h:vecArg w v):(∃ p n c,v = .slice p n c)∧∃ b,(∀ W,Below w.heap.size w W→Calls Tryz.prog 37 #[v] W (IsEnd b W))∧(b=true→∃ V,VecS w v V∧V.length≤20∧∀ x ∈ V,x.2.2.length≤30):=by
 obtain ⟨hs,es,hv,hi⟩:=h
 refine ⟨?_,fewB es,fun W hb=>few_any v es W (hv.call hb) (fun e he=>(hi e he).call hb),fun hf => ?_⟩
 ·obtain ⟨p,cap,e,_⟩:=hv;exact ⟨p,_,cap,e⟩
 ·obtain ⟨V,h1,h2,h3⟩:=few_vec hv hi hf
  exact ⟨V,⟨h1,hs,fun x hx=>(h3 x hx).2⟩,h2,fun x hx=>(h3 x hx).1⟩
theorem VecM.all64 {w:World} {v:Value} {V:VcT} (h:VecM w v V):∀ x ∈ V,All64 x.2.2∧0≤x.2.1∧x.2.1≤UM:=by
 intro x hx
 obtain ⟨i,hi⟩:=List.mem_iff_getElem?.1 hx
 obtain ⟨_,_,_,_,_,_,_,_,_,_,ha⟩:=h.elem (r:=x.1) (m:=x.2.1) (H:=x.2.2) hi
 exact ⟨ha.all,ha.low,by unfold UM;exact ha.top⟩
end
end Go.Proofs.YtgcakgegboicjaaGreatDoor
