/- Vectors: correct ones, their canonical form, the order of lists of numbers. Plain mathematics; no conditions of its own. -/
import Derived.Test.YtchndljcahjldaaGreatDoorKPOpen
namespace Go.Proofs.YtchndljcahjldaaGreatDoor
section
open Go.RowKit
structure t6 (V:x6):Prop where
 ent:∀ x ∈ V,z15 x.2.1 x.2.2
 asc:V.Pairwise fun x y=>x.1<y.1
theorem wz4 {V:x6} (h:∀ (j:Nat) x y,V[j]? = some x→V[j+1]? = some y→x.1<y.1):V.Pairwise fun x y=>x.1<y.1:=by
 have key:∀ (d i:Nat) x y,V[i]? = some x→V[i+(d+1)]? = some y→x.1<y.1:=by
  intro d
  induction d with
  | zero=>intro i x y hx hy;exact h i x y hx hy
  | succ d ih =>
    intro i x y hx hy
    have hlt:i+(d+1+1)<V.length:=(List.getElem?_eq_some_iff.1 hy).1
    have hz:V[i+(d+1)]? = some V[i+(d+1)]:=by simp [show i+(d+1)<V.length by omega]
    have h1:=ih i x _ hx hz
    have h2:=h (i+(d+1)) _ y hz (by rw [show i+(d+1)+1=i+(d+1+1) from by omega];exact hy)
    omega
 rw [List.pairwise_iff_getElem]
 intro i j hi hj hij
 obtain ⟨d,rfl⟩:∃ d,j=i+(d+1):=⟨j - i - 1,by omega⟩
 exact key d i _ _ (by simp [hi]) (by simp [hj])
theorem wf1 {V:x6} (h:e8 V=true):∀ j,j<V.length→zd4 V j=0:=by
 unfold e8 z58 at h
 rw [Option.isNone_iff_eq_none,List.findSome?_eq_none_iff] at h
 intro j hj
 have:=h j (List.mem_range.2 hj)
 by_cases hb:zd4 V j=0
 ·exact hb
 ·rw [if_neg hb] at this;cases this
theorem yp3 {V:x6} (h64:∀ x ∈ V,o6 x.2.2∧0≤x.2.1∧x.2.1≤UM) (h:e8 V=true):t6 V:=by
 have hb:=wf1 h
 have hc:∀ (j:Nat) x,V[j]? = some x→o9 (z09 x.2.1 x.2.2)=0:=by
  intro j x hx
  have hj:j<V.length:=(List.getElem?_eq_some_iff.1 hx).1
  by_cases h0:o9 (z09 x.2.1 x.2.2)=0
  ·exact h0
  ·have:=hb j hj
   rw [y56 (r:=x.1) (m:=x.2.1) (H:=x.2.2) hx h0] at this
   exact absurd this h0
 refine ⟨fun x hx => ?_,wz4 fun j x y hx hy => ?_⟩
 ·obtain ⟨j,hj⟩:=List.mem_iff_getElem?.1 hx
  have h0:=hc j x hj
  have ho:okN x.2.1 x.2.2=true:=by rw [← yh6,h0];rfl
  exact (xr4 (h64 x hx).1 (h64 x hx).2).1 ho
 ·have h0:=hb (j+1) (List.getElem?_eq_some_iff.1 hy).1
  rw [zu0 (r:=y.1) (m:=y.2.1) (H:=y.2.2) (r':=x.1) (m':=x.2.1) (H':=x.2.2) hy hx (hc (j+1) y hy)] at h0
  by_cases hle:y.1≤x.1
  ·rw [if_pos hle] at h0;cases h0
  ·omega
theorem w27 {m:Int} {H:List Iv} (h:z15 m H):o9 (z09 m H)=0:=by
 have:=x80 h
 rw [← yh6] at this
 simpa using this
theorem zh8 {V:x6} (h:t6 V):e8 V=true:=by
 unfold e8
 rw [zq7]
 ·rfl
 intro j hj
 have hx:V[j]? = some V[j]:=by simp [hj]
 have hc:=w27 (h.ent V[j] (List.getElem_mem hj))
 cases j with
 | zero=>exact zy5 (r:=(V[0]).1) (m:=(V[0]).2.1) (H:=(V[0]).2.2) hx hc
 | succ j =>
   have hy:V[j]? = some V[j]:=by simp [show j<V.length by omega]
   rw [zu0 (r:=(V[j+1]).1) (m:=(V[j+1]).2.1) (H:=(V[j+1]).2.2) (r':=(V[j]).1) (m':=(V[j]).2.1) (H':=(V[j]).2.2) hx hy hc]
   have:=List.pairwise_iff_getElem.1 h.asc j (j+1) (by omega) hj (by omega)
   rw [if_neg (by omega)]
def yc1 (x:Int × Int × List Iv):Option (Int × Int × List Iv):=if x9 x.2.1 x.2.2 = [] then none else some (x.1,z04 (x9 x.2.1 x.2.2),r9 (x9 x.2.1 x.2.2))
def i8 (V:x6):x6:=V.filterMap yc1
theorem za4 {x y:Int × Int × List Iv} (h:z15 x.2.1 x.2.2) (hy:yc1 x=some y):y.1=x.1∧z15 y.2.1 y.2.2∧r7 y.2.1 y.2.2=true∧x9 y.2.1 y.2.2=x9 x.2.1 x.2.2:=by
 unfold yc1 at hy
 by_cases hk:x9 x.2.1 x.2.2 = []
 ·rw [if_pos hk] at hy;cases hy
 ·rw [if_neg hk] at hy
  obtain rfl:=Option.some.inj hy
  have hg:=z12 h
  exact ⟨rfl,xr8 hg hk,x84 hg hk,x85 hg hk⟩
theorem z44 {V:x6} (h:t6 V):t6 (i8 V)∧∀ y ∈ i8 V,r7 y.2.1 y.2.2=true:=by
 refine ⟨⟨fun y hy => ?_,?_⟩,fun y hy => ?_⟩
 ·obtain ⟨x,hx,e⟩:=List.mem_filterMap.1 hy
  exact (za4 (h.ent x hx) e).2.1
 ·have key:∀ l:x6,(∀ x ∈ l,z15 x.2.1 x.2.2)→l.Pairwise (fun x y=>x.1<y.1)→(l.filterMap yc1).Pairwise fun x y=>x.1<y.1:=by
   intro l
   induction l with
   | nil=>intro _ _;exact List.Pairwise.nil
   | cons a l ih =>
     intro hg hp
     have hp':=List.pairwise_cons.1 hp
     have hr:=ih (fun x hx=>hg x (by simp [hx])) hp'.2
     cases ha:yc1 a with
     | none=>rw [List.filterMap_cons_none ha];exact hr
     | some b =>
       rw [List.filterMap_cons_some ha,List.pairwise_cons]
       refine ⟨fun y hy => ?_,hr⟩
       obtain ⟨x,hx,e⟩:=List.mem_filterMap.1 hy
       have h1:=(za4 (hg a (by simp)) ha).1
       have h2:=(za4 (hg x (by simp [hx])) e).1
       have:=hp'.1 x hx
       omega
  exact key V h.ent h.asc
 ·obtain ⟨x,hx,e⟩:=List.mem_filterMap.1 hy
  exact (za4 (h.ent x hx) e).2.2.1
theorem xs5 {V:x6} (h:t6 V) (hc:∀ y ∈ V,r7 y.2.1 y.2.2=true):zd5 V=true:=by
 unfold zd5
 rw [List.all_eq_true]
 intro x hx
 rw [x80 (h.ent x hx),hc x hx];rfl
theorem yi8 (V:x6):(i8 V).length≤V.length:=List.length_filterMap_le _ _
theorem yi9 {V:x6} (h:V.Pairwise fun x y=>x.1<y.1) (r c:Int):i7 V r c=true↔∃ x ∈ V,x.1=r∧ze9 x.2.1 x.2.2 c=true:=by
 unfold i7
 cases hf:V.findIdx? (fun x=>decide (x.1=r)) with
 | none =>
   rw [List.findIdx?_eq_none_iff] at hf
   constructor
   ·intro e;cases e
   ·intro ⟨x,hx,hr,_⟩
    have:=hf x hx
    simp [hr] at this
 | some k =>
   rw [List.findIdx?_eq_some_iff_getElem] at hf
   obtain ⟨hk,hd,_⟩:=hf
   have hx:V[k]? = some V[k]:=by simp [hk]
   have hr:(V[k]).1=r:=by simpa using hd
   simp only [hx]
   constructor
   ·intro e;exact ⟨V[k],List.getElem_mem hk,hr,e⟩
   intro ⟨y,hy,hyr,hyc⟩
   obtain ⟨j,hj,ej⟩:=List.mem_iff_getElem.1 hy
   have hp:=List.pairwise_iff_getElem.1 h
   have:j=k:=by
    rcases Nat.lt_trichotomy j k with hlt | he | hgt
    ·have:=hp j k hj hk hlt;rw [ej,hyr,hr] at this;omega
    ·exact he
    ·have:=hp k j hk hj hgt;rw [ej,hyr,hr] at this;omega
   subst this
   rw [ej];exact hyc
theorem zy3 {V:x6} (h:t6 V) (r:Int) {c:Int} (hc:0≤c):i7 (i8 V) r c=i7 V r c:=by
 rw [Bool.eq_iff_iff,yi9 (z44 h).1.asc,yi9 h.asc]
 constructor
 ·rintro ⟨y,hy,hr,hh⟩
  obtain ⟨x,hx,e⟩:=List.mem_filterMap.1 hy
  obtain ⟨h1,h2,_,h4⟩:=za4 (h.ent x hx) e
  refine ⟨x,hx,by omega,?_⟩
  rw [← z07 (h.ent x hx) hc,← h4,z07 h2 hc];exact hh
 ·rintro ⟨x,hx,hr,hh⟩
  have hne:x9 x.2.1 x.2.2 ≠ []:=fun e=>by
   rw [← z07 (h.ent x hx) hc,e] at hh;cases hh
  have e:yc1 x=some (x.1,z04 (x9 x.2.1 x.2.2),r9 (x9 x.2.1 x.2.2)):=by unfold yc1;rw [if_neg hne]
  obtain ⟨h1,h2,_,h4⟩:=za4 (h.ent x hx) e
  refine ⟨_,List.mem_filterMap.2 ⟨x,hx,e⟩,hr,?_⟩
  rw [← z07 h2 hc,h4,z07 (h.ent x hx) hc];exact hh
theorem zj3:∀ A:List Int,z01 A A=0
 | []=>rfl
 | x :: a=>by unfold z01;rw [if_neg (by omega),if_neg (by omega)];exact zj3 a
theorem zf1:∀ A B:List Int,z01 B A = - z01 A B
 | [],[]=>rfl
 | [],_ :: _=>rfl
 | _ :: _,[]=>rfl
 | x :: a,y :: b=>by
   unfold z01
   have:=zf1 a b
   by_cases h1:x<y
   ·rw [if_neg (by omega),if_pos h1,if_pos h1];rfl
   ·by_cases h2:y<x
    ·rw [if_pos h2,if_neg h1,if_pos h2]
    ·rw [if_neg h2,if_neg h1,if_neg h1,if_neg h2];exact this
theorem y55:∀ {A B:List Int},z01 A B=0→A=B
 | [],[],_=>rfl
 | x :: a,y :: b,h=>by
   unfold z01 at h
   by_cases h1:x<y
   ·rw [if_pos h1] at h;cases h
   ·rw [if_neg h1] at h
    by_cases h2:y<x
    ·rw [if_pos h2] at h;cases h
    ·rw [if_neg h2] at h
     rw [y55 h,show x=y by omega]
theorem zy4:∀ {A B C:List Int},z01 A B≤0→z01 B C≤0→z01 A C≤0
 | [],_,[],_,_=>by decide
 | [],_,_ :: _,_,_=>by show (-1:Int)≤0;decide
 | _ :: _,[],_,h,_=>absurd (show (1:Int)≤0 from h) (by decide)
 | _ :: _,_ :: _,[],_,h=>absurd (show (1:Int)≤0 from h) (by decide)
 | x :: a,y :: b,z :: c,h,h'=>by
   unfold z01 at h h' ⊢
   by_cases h1:x<y
   ·by_cases h3:y<z
    ·rw [if_pos (by omega)];decide
    ·rw [if_neg h3] at h'
     by_cases h4:z<y
     ·rw [if_pos h4] at h';exact absurd h' (by decide)
     ·rw [if_pos (by omega)];decide
   ·rw [if_neg h1] at h
    by_cases h2:y<x
    ·rw [if_pos h2] at h;exact absurd h (by decide)
    ·rw [if_neg h2] at h
     by_cases h3:y<z
     ·rw [if_pos (by omega)];decide
     ·rw [if_neg h3] at h'
      by_cases h4:z<y
      ·rw [if_pos h4] at h';exact absurd h' (by decide)
      ·rw [if_neg h4] at h'
       rw [if_neg (by omega),if_neg (by omega)]
       exact zy4 h h'
theorem xs6:∀ {H H':List Iv},ivN H=ivN H'→H=H'
 | [],[],_=>rfl
 | [],y :: H',h=>by have:=congrArg List.length h;rw [zh0,zh0] at this;simp at this
 | y :: H,[],h=>by have:=congrArg List.length h;rw [zh0,zh0] at this;simp at this
 | y :: H,y' :: H',h=>by
   unfold ivN at h
   rw [List.flatMap_cons,List.flatMap_cons] at h
   obtain ⟨h1,h2⟩:=List.append_inj h rfl
   rw [xs6 (show ivN H=ivN H' from h2)]
   have a1:=(List.cons.inj h1).1
   have a2:=(List.cons.inj (List.cons.inj h1).2).1
   rw [show y=y' from Prod.ext a1 a2]
theorem xs7:∀ {V V':x6},V.length=V'.length→V.flatMap zv3=V'.flatMap zv3→V=V'
 | [],[],_,_=>rfl
 | [],_ :: _,h,_=>by simp at h
 | _ :: _,[],h,_=>by simp at h
 | x :: V,x' :: V',hl,h=>by
   rw [List.flatMap_cons,List.flatMap_cons] at h
   unfold zv3 at h
   simp only [List.cons_append,List.nil_append,List.cons.injEq] at h
   obtain ⟨h1,h2,h3,h4⟩:=h
   have hll:(ivN x.2.2).length=(ivN x'.2.2).length:=by rw [zh0,zh0];omega
   obtain ⟨h5,h6⟩:=List.append_inj h4 hll
   have h7:=xs6 h5
   rw [xs7 (V:=V) (V':=V') (by simpa using hl) h6,show x=x' from Prod.ext h1 (Prod.ext h2 h7)]
theorem wf2 {V V':x6} (h:r4 V=r4 V'):V=V':=by
 unfold r4 at h
 obtain ⟨h1,h2⟩:=List.cons.inj h
 exact xs7 (by omega) h2
theorem wf3 (V V':x6):decide (z01 (r4 V) (r4 V')=0)=decide (V=V'):=by
 by_cases h:V=V'
 ·subst h;simp [zj3]
 ·have:z01 (r4 V) (r4 V')≠0:=fun e=>h (wf2 (y55 e))
  simp [h,this]
end
section
open Go.RowKit
def zo1 (es:List (Int × Int × Value)):List Value:=es.flatMap fun e => [.int .u64 e.1,.int .u64 e.2.1,e.2.2]
theorem x99 (a b:List (Int × Int × Value)):zo1 (a++b)=zo1 a++zo1 b:=by unfold zo1;rw [List.flatMap_append]
theorem xs8:∀ (es:List (Int × Int × Value)) (i:Nat) (e:Int × Int × Value),es[i]? = some e→(zo1 es)[i*3]? = some (.int .u64 e.1)∧(zo1 es)[i*3+1]? = some (.int .u64 e.2.1)∧(zo1 es)[i*3+2]? = some e.2.2
 | [],i,e,h=>by simp at h
 | x :: es,0,e,h=>by
   obtain rfl:x=e:=by simpa using h
   exact ⟨rfl,rfl,rfl⟩
 | x :: es,i+1,e,h=>by
   have:=xs8 es i e (by simpa using h)
   have hc:∀ j,(zo1 (x :: es))[j+3]? = (zo1 es)[j]? := fun j=>by
    unfold zo1
    rw [List.flatMap_cons,List.getElem?_append_right (by simp)]
    simp
   refine ⟨?_,?_,?_⟩
   ·rw [show (i+1)*3=i*3+3 from by omega,hc];exact this.1
   ·rw [show (i+1)*3+1=(i*3+1)+3 from by omega,hc];exact this.2.1
   ·rw [show (i+1)*3+2=(i*3+2)+3 from by omega,hc];exact this.2.2
structure y19 (w:World) (B:Nat) (g:Option Nat) (s:Value) (H:List Iv):Prop where
 ivs:u7 w s H
 soft:b8 w B s H.length
 apart:0<H.length→s.ownBlock≠g
theorem y19.call {w w':World} {B:Nat} {g:Option Nat} {s:Value} {H:List Iv} (h:y19 w B g s H) (hb:Below w.heap.size w w'):y19 w' B g s H:=⟨h.ivs.call hb,h.soft.call hb,h.apart⟩
theorem y19.grown {w w':World} {B:Nat} {g g':Option Nat} {s:Value} {H:List Iv} (h:y19 w B g s H) (hg:w.grownBy w' g) (hat:g'=g∨g'=some w.heap.size):y19 w' B g' s H:=by
 obtain ⟨⟨p,cap,h1,h2,h3⟩,⟨p',cap',k1,k2,k3⟩,h5⟩:=h
 rw [h1] at k1
 cases k1
 by_cases hH:H = []
 ·subst hH
  exact ⟨⟨p,cap,h1,h2,fun e=>absurd rfl e⟩,⟨p,cap,h1,k2,fun e=>absurd e (Nat.lt_irrefl 0)⟩,fun e=>absurd e (Nat.lt_irrefl 0)⟩
 ·have hpos:=List.length_pos_iff.2 hH
  obtain ⟨b,o,rfl,h6⟩:=h3 hH
  obtain ⟨b',o',e,hB,h7⟩:=k3 hpos
  cases e
  have hs:s.ownBlock=some b:=by rw [h1];rfl
  have hne:some b≠g:=by rw [← hs];exact h5 hpos
  have hlt:b<w.heap.size:=by
   obtain ⟨⟨⟨z,hz⟩,_⟩,_⟩:=h7 0 hpos
   exact World.block_lt_of_cell? w _ hz
  have hblk:=hg.block b hlt hne
  have hc:∀ i,w'.cell? ⟨b,i,none⟩=w.cell? ⟨b,i,none⟩:=fun i=>World.cell?_of_block hblk
  have hf:∀ i,w'.frozen? ⟨b,i,none⟩=w.frozen? ⟨b,i,none⟩:=fun i=>World.frozen?_of_block hblk
  refine ⟨⟨_,cap,h1,h2,fun _=>⟨b,o,rfl,fun i x hx => ?_⟩⟩,⟨_,cap,h1,k2,fun _=>⟨b,o,rfl,hB,fun i hi => ?_⟩⟩,fun _ => ?_⟩
  ·rw [hc,hc];exact h6 i x hx
  ·rw [hc,hc,hf,hf];exact h7 i hi
  ·rw [hs]
   rcases hat with rfl | rfl
   ·exact hne
   ·intro e;have:=Option.some.inj e;omega
def zq3 (w:World) (B:Nat) (v:Value) (V:x6):Prop:=
 ∃ es:List (Int × Int × Value),es.length=V.length∧w.ownsRow B 63 3 v es.length (zo1 es)∧∀ (i:Nat) (e:Int × Int × Value) (x:Int × Int × List Iv),es[i]? = some e→V[i]? = some x→e.1=x.1∧e.2.1=x.2.1∧y19 w B v.ownBlock e.2.2 x.2.2
theorem zq3.nil (w:World) (B:Nat):zq3 w B (.slice none 0 0) []:=⟨[],rfl,World.ownsRow_nil w B _ 3,fun i e x h=>by simp at h⟩
theorem zq3.shape {w:World} {B:Nat} {v:Value} {V:x6} (h:zq3 w B v V):∃ p cap,v = .slice p V.length cap:=by
 obtain ⟨es,h1,h2,_⟩:=h
 obtain ⟨p,cap,e,_⟩:=x8 h2
 exact ⟨p,cap,by rw [e,h1]⟩
theorem zq3.call {w w':World} {B:Nat} {v:Value} {V:x6} (h:zq3 w B v V) (hb:Below w.heap.size w w'):zq3 w' B v V:=by
 obtain ⟨es,h1,h2,h3⟩:=h
 exact ⟨es,h1,y7 h2 hb,fun i e x he hx=>⟨(h3 i e x he hx).1,(h3 i e x he hx).2.1,(h3 i e x he hx).2.2.call hb⟩⟩
theorem yt7 {w w':World} {B sz n k:Nat} {t:TypeId} {v s:Value} {xs:List Value} (h:w.ownsRow B t sz v n xs) (hs:b8 w' w.heap.size s k) (hk:0<k):s.ownBlock≠v.ownBlock:=by
 obtain ⟨p,cap,rfl,_,h3⟩:=hs
 obtain ⟨g,o,rfl,hg,_⟩:=h3 hk
 intro e
 have e':some g=v.ownBlock:=e
 have:=(h.lt g e'.symm).2
 omega
theorem zq3.push {w w2:World} {B:Nat} {v v2:Value} {es:List (Int × Int × Value)} {V:x6} {r m:Int} {s:Value} {H:List Iv} (hel:es.length=V.length)
 (hall:∀ (i:Nat) (e:Int × Int × Value) (x:Int × Int × List Iv),es[i]? = some e→V[i]? = some x→e.1=x.1∧e.2.1=x.2.1∧y19 w B v.ownBlock e.2.2 x.2.2)
 (hrow:w2.ownsRow B 63 3 v2 (es.length+1) (zo1 es ++ [.int .u64 r,.int .u64 m,s])) (hg:w.grownBy w2 v.ownBlock) (hat:v2.ownBlock=v.ownBlock∨v2.ownBlock=some w.heap.size) (hx:y19 w B v.ownBlock s H):zq3 w2 B v2 (V ++ [(r,m,H)]):=by
 refine ⟨es ++ [(r,m,s)],by rw [List.length_append,List.length_append,hel];rfl,?_,fun i e x he hx' => ?_⟩
 ·rw [List.length_append,x99];exact hrow
 ·by_cases hi:i<es.length
  ·rw [List.getElem?_append_left hi] at he
   rw [List.getElem?_append_left (by omega)] at hx'
   obtain ⟨h1,h2,h3⟩:=hall i e x he hx'
   exact ⟨h1,h2,h3.grown hg hat⟩
  ·rw [List.getElem?_append_right (by omega)] at he
   rw [List.getElem?_append_right (by omega)] at hx'
   have h0:i - es.length=0:=by
    have:=(List.getElem?_eq_some_iff.1 he).1
    simpa using this
   have h0':i - V.length=0:=by omega
   rw [h0] at he;rw [h0'] at hx'
   obtain rfl:(r,m,s)=e:=by simpa using he
   obtain rfl:(r,m,H)=x:=by simpa using hx'
   exact ⟨rfl,rfl,hx.grown hg hat⟩
theorem yj0 {w:World} {B n g cap:Nat} {t:TypeId} {es:List (Int × Int × Value)} (h:w.ownsRow B t 3 (.slice (some ⟨g,0,none⟩) n cap) n (zo1 es)) (hn:n=es.length) (i:Nat) (e:Int × Int × Value) (he:es[i]? = some e) :
 w.cell? ⟨g,0+i*3,none⟩=some (.int .u64 e.1)∧w.cell? ⟨g,0+i*3+1,none⟩=some (.int .u64 e.2.1)∧w.cell? ⟨g,0+i*3+2,none⟩=some e.2.2:=by
 have hi:=(List.getElem?_eq_some_iff.1 he).1
 obtain ⟨c0,c1,c2⟩:=xs8 es i e he
 subst hn
 rw [Nat.zero_add]
 exact ⟨by rw [h.cellAt (i*3) (by omega)];exact c0,by rw [h.cellAt (i*3+1) (by omega)];exact c1,by rw [h.cellAt (i*3+2) (by omega)];exact c2⟩
theorem zq3.vecAt {w:World} {B:Nat} {t:TypeId} {v:Value} {es:List (Int × Int × Value)} (h2:w.ownsRow B t 3 v es.length (zo1 es)):zn4 w v es:=by
 have h3:=h2
 rcases h2.2 with ⟨rfl,h0⟩ | ⟨g,cap,cur,rfl,hbg,hg,hnc,hcm,_⟩
 ·exact ⟨none,0,by rw [h0],by omega,fun e=>absurd (List.eq_nil_of_length_eq_zero h0) e⟩
 ·exact ⟨_,cap,rfl,Nat.le_trans hnc hcm,fun _=>⟨g,0,rfl,fun i e he=>yj0 h3 rfl i e he⟩⟩
theorem zq3.vec {w:World} {B:Nat} {v:Value} {V:x6} (h:zq3 w B v V) (hl:V.length≤100000):zl9 w v V:=by
 obtain ⟨es,h1,h2,h3⟩:=h
 exact ⟨⟨es,zq3.vecAt h2,h1,fun i e x he hx=>⟨(h3 i e x he hx).1,(h3 i e x he hx).2.1,(h3 i e x he hx).2.2.ivs⟩⟩,hl⟩
end
section
open Go.RowKit
theorem ww5:(Tryz.prog.info? 63).map (fun i=>(i.zero,i.size,i.bytes))=some (some (.agg #[.int .u64 0,.int .u64 0,.slice none 0 0]),3,40):=by kernel_rfl
theorem ya0 (w:World) (x y z:Value) (t:TypeId) (k:Nat) (hk:k=w.heap.size):∀ j u,[x,y,z][j]? = some u→(w.alloc (.cells #[x,y,z] t)).cell? ((⟨k,0,none⟩:Addr).add j)=some u:=by
 subst hk
 intro j u h
 match j,h with
 | 0,h=>simp at h;subst h;simp [Addr.add]
 | 1,h=>simp at h;subst h;simp [Addr.add]
 | 2,h=>simp at h;subst h;simp [Addr.add]
theorem xa0 {L:List Iv} (h:L ≠ []):ze8 L=true:=by unfold ze8;cases L <;> simp at *
theorem xa1 {V:x6} {k:Nat} {r m:Int} {H:List Iv} (h:V[k]? = some (r,m,H)) :
 i8 (V.take (k+1))=if x9 m H = [] then i8 (V.take k) else i8 (V.take k) ++ [(zi7 r (x9 m H),z04 (x9 m H),r9 (x9 m H))]:=by
 unfold i8
 rw [zy7 h,List.filterMap_append]
 by_cases hk:x9 m H = []
 ·rw [if_pos hk]
  have:yc1 (r,m,H)=none:=by unfold yc1;rw [if_pos hk]
  rw [List.filterMap_cons_none this];simp
 ·rw [if_neg hk]
  have:yc1 (r,m,H)=some (r,z04 (x9 m H),r9 (x9 m H)):=by unfold yc1;rw [if_neg hk]
  rw [List.filterMap_cons_some this]
  unfold zi7
  rw [if_neg hk];rfl
end
section
open Go.RowKit
def yz4 (w:World) (v:Value) (L:List Int):Prop:=
 ∃ p cap,v = .slice p L.length cap∧L.length≤maxLen∧(L ≠ []→∃ b o,p=some ⟨b,o,none⟩∧∀ (i:Nat) (x:Int),L[i]? = some x→w.cell? ⟨b,o+i,none⟩=some (.int .u64 x))
theorem yz4.call {w w':World} {v:Value} {L:List Int} (h:yz4 w v L) (hb:Below w.heap.size w w'):yz4 w' v L:=by
 obtain ⟨p,cap,h1,h2,h3⟩:=h
 refine ⟨p,cap,h1,h2,fun hne => ?_⟩
 obtain ⟨b,o,h5,h6⟩:=h3 hne
 exact ⟨b,o,h5,fun i x hi=>z6 (h6 i x hi) hb⟩
theorem xa2 {w:World} {B:Nat} {v:Value} {L:List Int} (h:z26 w B v L):yz4 w v L:=by
 have hrow:w.ownsRow B 36 1 v L.length (nmC L):=h
 have h3:=hrow
 rcases hrow.2 with ⟨rfl,h0⟩ | ⟨g,cap,cur,rfl,hbg,hg,hnc,hcm,_⟩
 ·exact ⟨none,0,by rw [h0],by omega,fun e=>absurd (List.eq_nil_of_length_eq_zero h0) e⟩
 ·exact ⟨_,cap,rfl,Nat.le_trans hnc hcm,fun _=>⟨g,0,rfl,fun i x hx=>by
   rw [Nat.zero_add,h3.cellAt i (by have:=(List.getElem?_eq_some_iff.1 hx).1;omega)]
   exact xt1 hx⟩⟩
structure z23 (w:World) (v:Value) (V:x6):Prop where
 m:z71 w v V
 sane:z03 v
 rng:∀ x ∈ V,0≤x.1∧x.1≤18446744073709551615
theorem z23.call {w w':World} {v:Value} {V:x6} (h:z23 w v V) (hb:Below w.heap.size w w'):z23 w' v V:=⟨h.m.call hb,h.sane,h.rng⟩
def z05 (w:World) (B:Nat) (v:Value) (ns:List Nat):Prop:=
 ∃ p cap,v = .slice p ns.length cap∧ns.length≤maxLen∧(ns ≠ []→∃ b o,p=some ⟨b,o,none⟩∧B≤b∧∀ (i:Nat) (n:Nat),ns[i]? = some n →
  (∃ z:Int,w.cell? ⟨b,o+i*3,none⟩=some (.int .u64 z))∧(∃ z:Int,w.cell? ⟨b,o+i*3+1,none⟩=some (.int .u64 z))∧w.frozen? ⟨b,o+i*3,none⟩=false∧w.frozen? ⟨b,o+i*3+1,none⟩=false ∧
  ∃ s,w.cell? ⟨b,o+i*3+2,none⟩=some s∧b8 w B s n)
def nsV (V:x6):List Nat:=V.map fun x=>x.2.2.length
def wq4 (V:x6) (w:World) (e:Ending) (w':World):Prop:=∃ u,e = .returned u∧z23 w' u V∧z05 w' w.heap.size u (nsV V)∧Below w.heap.size w w'
def zg9 (V:x6):Option (Int × Option Int):=(z58 V).map fun x=>(x.1,some (x.2:Int))
end
section
open Go.RowKit
def knV (V:x6) (r:Int):List Iv:=match V.findIdx? (fun x=>decide (x.1=r)) with
 | none => []
 | some k=>match V[k]? with
   | none => []
   | some x=>x9 x.2.1 x.2.2
theorem zq4 {V:x6} {r:Int} (h:∀ x ∈ V,x.1≠r):knV V r = []:=by
 unfold knV
 have:V.findIdx? (fun x=>decide (x.1=r))=none:=by
  rw [List.findIdx?_eq_none_iff]
  intro x hx
  simpa using h x hx
 rw [this]
theorem xs9 {V:x6} (h:V.Pairwise fun x y=>x.1<y.1) {x y:Int × Int × List Iv} (hx:x ∈ V) (hy:y ∈ V) (e:x.1=y.1):x=y:=by
 obtain ⟨i,hi,ei⟩:=List.mem_iff_getElem.1 hx
 obtain ⟨j,hj,ej⟩:=List.mem_iff_getElem.1 hy
 have hp:=List.pairwise_iff_getElem.1 h
 have:i=j:=by
  rcases Nat.lt_trichotomy i j with hlt | he | hgt
  ·have:=hp i j hi hj hlt;rw [ei,ej] at this;omega
  ·exact he
  ·have:=hp j i hj hi hgt;rw [ei,ej] at this;omega
 subst this
 rw [← ei,← ej]
theorem y20 {V:x6} (h:V.Pairwise fun x y=>x.1<y.1) {x:Int × Int × List Iv} (hx:x ∈ V):knV V x.1=x9 x.2.1 x.2.2:=by
 unfold knV
 cases hf:V.findIdx? (fun y=>decide (y.1=x.1)) with
 | none =>
   rw [List.findIdx?_eq_none_iff] at hf
   have:=hf x hx
   simp at this
 | some k =>
   rw [List.findIdx?_eq_some_iff_getElem] at hf
   obtain ⟨hk,hd,_⟩:=hf
   have hx':V[k]? = some V[k]:=by simp [hk]
   have hr:(V[k]).1=x.1:=by simpa using hd
   simp only [hx']
   rw [xs9 h (List.getElem_mem hk) hx hr]
theorem z75 {V:x6} (h:V.Pairwise fun x y=>x.1<y.1) (r:Int):(∃ x ∈ V,x.1=r∧knV V r=x9 x.2.1 x.2.2)∨((∀ x ∈ V,x.1≠r)∧knV V r = []):=by
 by_cases he:∃ x ∈ V,x.1=r
 ·obtain ⟨x,hx,rfl⟩:=he
  exact .inl ⟨x,hx,rfl,y20 h hx⟩
 ·have hn:∀ x ∈ V,x.1≠r:=fun x hx e=>he ⟨x,hx,e⟩
  exact .inr ⟨hn,zq4 hn⟩
theorem o5 {V:x6} (h:t6 V) (r:Int):v7 (knV V r):=by
 rcases z75 h.asc r with ⟨x,hx,_,e⟩ | ⟨_,e⟩
 ·rw [e];exact z12 (h.ent x hx)
 ·rw [e];exact z17
theorem z49 {V:x6} (h:t6 V) (r:Int) {c:Int} (hc:0≤c):i7 V r c=y8 (knV V r) c:=by
 rw [Bool.eq_iff_iff,yi9 h.asc]
 rcases z75 h.asc r with ⟨x,hx,hr,e⟩ | ⟨hn,e⟩
 ·rw [e,z07 (h.ent x hx) hc]
  constructor
  ·rintro ⟨y,hy,hyr,hh⟩
   rwa [xs9 h.asc hx hy (hr.trans hyr.symm)]
  ·intro hh;exact ⟨x,hx,hr,hh⟩
 ·rw [e]
  constructor
  ·rintro ⟨y,hy,hyr,_⟩;exact absurd hyr (hn y hy)
  ·intro hh;cases hh
theorem wf4:∀ {l m:x6},l.Pairwise (fun x y=>x.1<y.1)→m.Pairwise (fun x y=>x.1<y.1)→(∀ x,x ∈ l↔x ∈ m)→l=m
 | [],[],_,_,_=>rfl
 | [],y :: m,_,_,h=>by have:=(h y).2 (by simp);cases this
 | x :: l,[],_,_,h=>by have:=(h x).1 (by simp);cases this
 | x :: l,y :: m,hl,hm,h=>by
   have h1:=List.pairwise_cons.1 hl
   have h2:=List.pairwise_cons.1 hm
   have hxy:x=y:=by
    rcases List.mem_cons.1 ((h x).1 (by simp)) with e | hx
    ·exact e
    ·rcases List.mem_cons.1 ((h y).2 (by simp)) with e | hy
     ·exact e.symm
     ·have a:=h1.1 y hy
      have b:=h2.1 x hx
      omega
   subst hxy
   rw [wf4 h1.2 h2.2 fun z => ?_]
   constructor
   ·intro hz
    rcases List.mem_cons.1 ((h z).1 (by simp [hz])) with e | hz'
    ·subst e;have:=h1.1 z hz;omega
    ·exact hz'
   ·intro hz
    rcases List.mem_cons.1 ((h z).2 (by simp [hz])) with e | hz'
    ·subst e;have:=h2.1 z hz;omega
    ·exact hz'
theorem xt0 {V W:x6} (hV:t6 V) (cV:∀ y ∈ V,r7 y.2.1 y.2.2=true) (hW:t6 W) (cW:∀ y ∈ W,r7 y.2.1 y.2.2=true) (h:∀ r,knV V r=knV W r):V=W:=by
 have key:∀ {V W:x6},t6 V→(∀ y ∈ V,r7 y.2.1 y.2.2=true)→t6 W→(∀ y ∈ W,r7 y.2.1 y.2.2=true)→(∀ r,knV V r=knV W r)→∀ x,x ∈ V→x ∈ W:=by
  intro V W hV cV hW cW h x hx
  obtain ⟨hne,ht,hh⟩:=yh7 (hV.ent x hx) (cV x hx)
  have e:=h x.1
  rw [y20 hV.asc hx] at e
  rcases z75 hW.asc x.1 with ⟨y,hy,hyr,e2⟩ | ⟨_,e2⟩
  ·obtain ⟨_,ht',hh'⟩:=yh7 (hW.ent y hy) (cW y hy)
   rw [e2] at e
   have:y=x:=Prod.ext hyr (Prod.ext (by rw [← ht',← ht,e]) (by rw [← hh',← hh,e]))
   rw [← this];exact hy
  ·rw [e2] at e;exact absurd e hne
 exact wf4 hV.asc hW.asc fun x=>⟨key hV cV hW cW h x,key hW cW hV cV (fun r=>(h r).symm) x⟩
def zw1 (A B:x6):List Int:=(A.map (·.1)++B.map (·.1)).foldl zb8 []
theorem yj2 (A B:x6):(zw1 A B).Pairwise (· < ·):=(zk0 _ _ List.Pairwise.nil).1
theorem zq5 (A B:x6) (r:Int):r ∈ zw1 A B↔(∃ x ∈ A,x.1=r)∨∃ x ∈ B,x.1=r:=by
 unfold zw1
 rw [(zk0 _ _ List.Pairwise.nil).2 r]
 simp
def opE (f:List Iv→List Iv→List Iv) (A B:x6) (r:Int):Option (Int × Int × List Iv):=
 if f (knV A r) (knV B r) = [] then none else some (r,z04 (f (knV A r) (knV B r)),r9 (f (knV A r) (knV B r)))
def opV (f:List Iv→List Iv→List Iv) (A B:x6):x6:=(zw1 A B).filterMap (opE f A B)
theorem zj4 {f:List Iv→List Iv→List Iv} {A B:x6} {r:Int} {y:Int × Int × List Iv} (h:opE f A B r=some y):y.1=r∧f (knV A r) (knV B r) ≠ []∧y=(r,z04 (f (knV A r) (knV B r)),r9 (f (knV A r) (knV B r))):=by
 unfold opE at h
 by_cases hk:f (knV A r) (knV B r) = []
 ·rw [if_pos hk] at h;cases h
 ·rw [if_neg hk] at h
  have e:=(Option.some.inj h).symm
  exact ⟨by rw [e],hk,e⟩
theorem zw2 {g:Int→Option (Int × Int × List Iv)} (hg:∀ r y,g r=some y→y.1=r):∀ {l:List Int},l.Pairwise (· < ·)→(l.filterMap g).Pairwise fun x y=>x.1<y.1
 | [],_=>List.Pairwise.nil
 | a :: l,h=>by
   have h':=List.pairwise_cons.1 h
   have ih:=zw2 hg h'.2
   cases ha:g a with
   | none=>rw [List.filterMap_cons_none ha];exact ih
   | some b =>
     rw [List.filterMap_cons_some ha,List.pairwise_cons]
     refine ⟨fun y hy => ?_,ih⟩
     obtain ⟨x,hx,e⟩:=List.mem_filterMap.1 hy
     have h1:=hg a b ha
     have h2:=hg x y e
     have:=h'.1 x hx
     omega
theorem zj5 {f:List Iv→List Iv→List Iv} (hf:∀ K L,v7 K→v7 L→v7 (f K L)) {A B:x6} (hA:t6 A) (hB:t6 B):t6 (opV f A B)∧∀ y ∈ opV f A B,r7 y.2.1 y.2.2=true:=by
 have hk:∀ r,v7 (f (knV A r) (knV B r)):=fun r=>hf _ _ (o5 hA r) (o5 hB r)
 refine ⟨⟨fun y hy => ?_,zw2 (fun r y h=>(zj4 h).1) (yj2 A B)⟩,fun y hy => ?_⟩
 ·obtain ⟨r,_,e⟩:=List.mem_filterMap.1 hy
  obtain ⟨_,hne,e2⟩:=zj4 e
  rw [e2];exact xr8 (hk r) hne
 ·obtain ⟨r,_,e⟩:=List.mem_filterMap.1 hy
  obtain ⟨_,hne,e2⟩:=zj4 e
  rw [e2];exact x84 (hk r) hne
theorem wz5 {f:List Iv→List Iv→List Iv} (hf:∀ K L,v7 K→v7 L→v7 (f K L)) (h0:f [] [] = []) {A B:x6} (hA:t6 A) (hB:t6 B) (r:Int):knV (opV f A B) r=f (knV A r) (knV B r):=by
 have hk:=hf _ _ (o5 hA r) (o5 hB r)
 have hg:=(zj5 hf hA hB).1
 by_cases hne:f (knV A r) (knV B r) = []
 ·rw [hne]
  refine zq4 fun y hy e => ?_
  obtain ⟨r',_,e'⟩:=List.mem_filterMap.1 hy
  obtain ⟨h1,h2,_⟩:=zj4 e'
  rw [← h1,e] at h2
  exact h2 hne
 ·have hr:r ∈ zw1 A B:=by
   rw [zq5]
   rcases z75 hA.asc r with ⟨x,hx,hxr,_⟩ | ⟨_,ea⟩
   ·exact .inl ⟨x,hx,hxr⟩
   ·rcases z75 hB.asc r with ⟨x,hx,hxr,_⟩ | ⟨_,eb⟩
    ·exact .inr ⟨x,hx,hxr⟩
    ·rw [ea,eb] at hne;exact absurd h0 hne
  have he:opE f A B r=some (r,z04 (f (knV A r) (knV B r)),r9 (f (knV A r) (knV B r))):=by unfold opE;rw [if_neg hne]
  have hm:(r,z04 (f (knV A r) (knV B r)),r9 (f (knV A r) (knV B r))) ∈ opV f A B:=List.mem_filterMap.2 ⟨r,hr,he⟩
  have:=y20 hg.asc hm
  rw [x85 hk hne] at this
  exact this
theorem wq5 (f:List Iv→List Iv→List Iv) (A B:x6):(opV f A B).length≤A.length+B.length:=by
 refine Nat.le_trans (List.length_filterMap_le _ _) ?_
 unfold zw1
 refine Nat.le_trans (y31 _ _) ?_
 simp
end
section
open Go.RowKit
theorem yj3 (w:World):z23 w (.slice none 0 0) []:=
 ⟨⟨⟨[],⟨none,0,rfl,Nat.zero_le _,fun h=>absurd rfl h⟩,rfl,fun i e x h=>by simp at h⟩,Nat.zero_le _⟩,zb5,fun x hx=>by cases hx⟩
theorem wf5 {w:World} {b:Nat} {r m:Int} {s:Value} {H:List Iv} (c0:w.cell? ⟨b,0,none⟩=some (.int .u64 r)) (c1:w.cell? ⟨b,1,none⟩=some (.int .u64 m)) (c2:w.cell? ⟨b,2,none⟩=some s) (ha:zi8 w s m H) (hr:0≤r∧r≤18446744073709551615):z23 w (.slice (some ⟨b,0,none⟩) 1 1) [(r,m,H)]:=by
 refine ⟨⟨⟨[(r,m,s)],⟨_,_,rfl,(by show (1:Nat)≤maxLen;decide),fun _=>⟨b,0,rfl,fun i e he => ?_⟩⟩,rfl,fun i e x he hx => ?_⟩,by simp⟩,a8 _ _ _ (Nat.le_refl _),fun x hx=>by rw [List.mem_singleton.1 hx];exact hr⟩
 ·match i,he with
  | 0,he=>simp at he;subst he;exact ⟨c0,c1,c2⟩
 ·match i,he,hx with
  | 0,he,hx=>simp at he hx;subst he;subst hx;exact ⟨rfl,rfl,ha⟩
end
section
open Go.RowKit
theorem zt9.call {lim:Nat} {w w':World} {s:Value} (h:zt9 lim w s) (hb:Below w.heap.size w w'):zt9 lim w' s:=by
 rcases h with h | ⟨l,h1,h2,h3⟩
 ·exact .inl h
 ·exact .inr ⟨l,h1,h2,h3.call hb⟩
theorem zn5.call {lim:Nat} {w w':World} {e:Int × Int × Value} (h:zn5 lim w e) (hb:Below w.heap.size w w'):zn5 lim w' e:=⟨h.1,h.2.1,h.2.2.1,h.2.2.2.call hb⟩
def xk6 (w:World) (v:Value):Prop:=z03 v∧∃ es,zn4 w v es∧∀ e ∈ es,zn5 30 w e
theorem xk6.few {w:World} {v:Value} (h:xk6 w v):(∃ p n c,v = .slice p n c)∧∃ b,(∀ W,Below w.heap.size w W→Calls Tryz.prog 31 #[v] W (t7 b W))∧(b=true→∃ V,z23 w v V∧V.length≤20∧∀ x ∈ V,x.2.2.length≤30):=by
 obtain ⟨hs,es,hv,hi⟩:=h
 refine ⟨?_,xa3 es,fun W hb=>wq7 v es W (hv.call hb) (fun e he=>(hi e he).call hb),fun hf => ?_⟩
 ·obtain ⟨p,cap,e,_⟩:=hv;exact ⟨p,_,cap,e⟩
 ·obtain ⟨V,h1,h2,h3⟩:=wq6 hv hi hf
  exact ⟨V,⟨h1,hs,fun x hx=>(h3 x hx).2⟩,h2,fun x hx=>(h3 x hx).1⟩
theorem z71.all64 {w:World} {v:Value} {V:x6} (h:z71 w v V):∀ x ∈ V,o6 x.2.2∧0≤x.2.1∧x.2.1≤UM:=by
 intro x hx
 obtain ⟨i,hi⟩:=List.mem_iff_getElem?.1 hx
 obtain ⟨_,_,_,_,_,_,_,_,_,_,ha⟩:=h.elem (r:=x.1) (m:=x.2.1) (H:=x.2.2) hi
 exact ⟨ha.all,ha.low,by unfold UM;exact ha.top⟩
end
end Go.Proofs.YtchndljcahjldaaGreatDoor
