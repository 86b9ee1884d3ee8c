/- Vectors: correct ones, their canonical form, the order of lists of numbers. Plain mathematics; no conditions of its own. -/
import Derived.Test.YtchndljcahjldaaGreatDoorMPOpen
namespace Go.Proofs.YtchndljcahjldaaGreatDoor
section
open Go.RowKit
variable {V A:v6} {H:List Iv} {x y:Int × Int × List Iv} {c r:Int} {w w':World} {B n k lim:Nat} {g:Option Nat} {s v:Value} {t:TypeId} {es:List (Int × Int × Value)} {L:List Int}
structure s8 (V:v6):Prop where
 ent:∀ x ∈ V,z04 x.2.1 x.2.2
 asc:V.Pairwise fun x y=>x.1<y.1
theorem wz3 (h:∀ (j:Nat) x y,V[j]? = some x→V[j+1]? = some y→x.1<y.1):V.Pairwise fun x y=>x.1<y.1:=by
 have key:∀ (d i:Nat) x y,V[i]? = some x→V[i+(d+1)]? = some y→x.1<y.1:=by
  intro d
  induction d with
  | zero=>intro i x y hx hy;exact h i x y hx hy
  | succ d ih =>
    grind
 rw [List.pairwise_iff_getElem]
 intro i j hi hj hij
 obtain ⟨d,rfl⟩:∃ d,j=i+(d+1):=⟨j - i - 1,by omega⟩
 exact key d i _ _ (by simp [hi]) (by simp [hj])
theorem we7 (h:z31 V=true):∀ j,j<V.length→zd7 V j=0:=by grind [z31,z84,Option.isNone_iff_eq_none,List.findSome?_eq_none_iff,zd7]
theorem yo5 (h64:∀ x ∈ V,m9 x.2.2∧0≤x.2.1∧x.2.1≤UM) (h:z31 V=true):s8 V:=by
 have hb:=we7 h
 have hc:∀ (j:Nat) x,V[j]? = some x→c5 (z18 x.2.1 x.2.2)=0:=by grind [List.getElem?_eq_some_iff,c5,z18,y52]
 refine ⟨fun x hx => ?_,wz3 fun j x y hx hy => ?_⟩
 ·grind [List.mem_iff_getElem?,okN,x78,xr2]
 ·have h0:=hb (j+1) (List.getElem?_eq_some_iff.1 hy).1
  rw [zu0 (r:=y.1) (m:=y.2.1) (H:=y.2.2) (r':=x.1) (m':=x.2.1) (H':=x.2.2) hy hx (hc (j+1) y hy)] at h0
  omega
theorem w08 {m:Int} (h:z04 m H):c5 (z18 m H)=0:=by grind [x77,x78]
theorem zj2 (h:s8 V):z31 V=true:=by
 unfold z31
 rw [zr1]
 ·rfl
 intro j hj
 have hx:V[j]? = some V[j]:=by simp [hj]
 have hc:=w08 (h.ent V[j] (List.getElem_mem hj))
 cases j with
 | zero=>exact zx5 (r:=(V[0]).1) (m:=(V[0]).2.1) (H:=(V[0]).2.2) hx hc
 | succ j =>
   have hy:V[j]? = some V[j]:=by simp [show j<V.length by omega]
   rw [zu0 (r:=(V[j+1]).1) (m:=(V[j+1]).2.1) (H:=(V[j+1]).2.2) (r':=(V[j]).1) (m':=(V[j]).2.1) (H':=(V[j]).2.2) hx hy hc]
   have:=List.pairwise_iff_getElem.1 h.asc j (j+1) (by omega) hj (by omega)
   omega
def yc4 (x:Int × Int × List Iv):Option (Int × Int × List Iv):=if x7 x.2.1 x.2.2 = [] then none else some (x.1,i8 (x7 x.2.1 x.2.2),r5 (x7 x.2.1 x.2.2))
def j8 (V:v6):v6:=V.filterMap yc4
theorem za9 (h:z04 x.2.1 x.2.2) (hy:yc4 x=some y):y.1=x.1∧z04 y.2.1 y.2.2∧o5 y.2.1 y.2.2=true∧x7 y.2.1 y.2.2=x7 x.2.1 x.2.2:=by grind [yc4,x7,Option.some.inj,z14,xr5,x81,x82]
theorem z57 (h:s8 V):s8 (j8 V)∧∀ y ∈ j8 V,o5 y.2.1 y.2.2=true:=by
 refine ⟨⟨fun y hy => ?_,?_⟩,fun y hy => ?_⟩
 ·obtain ⟨x,hx,e⟩:=List.mem_filterMap.1 hy
  exact (za9 (h.ent x hx) e).2.1
 ·have key:∀ l:v6,(∀ x ∈ l,z04 x.2.1 x.2.2)→l.Pairwise (fun x y=>x.1<y.1)→(l.filterMap yc4).Pairwise fun x y=>x.1<y.1:=by grind [List.Pairwise.nil,List.pairwise_cons,yc4,List.filterMap_cons_none,List.filterMap_cons_some,za9]
  exact key V h.ent h.asc
 ·obtain ⟨x,hx,e⟩:=List.mem_filterMap.1 hy
  exact (za9 (h.ent x hx) e).2.2.1
theorem xs2 (h:s8 V) (hc:∀ y ∈ V,o5 y.2.1 y.2.2=true):zx6 V=true:=by
 unfold zx6
 rw [List.all_eq_true]
 intro x hx
 rw [x77 (h.ent x hx),hc x hx];rfl
theorem zn4 (V:v6):(j8 V).length≤V.length:=List.length_filterMap_le _ _
theorem yi3 (h:V.Pairwise fun x y=>x.1<y.1) (r c:Int):z27 V r c=true↔∃ x ∈ V,x.1=r∧yy2 x.2.1 x.2.2 c=true:=by grind [z27,List.findIdx?_eq_none_iff,List.findIdx?_eq_some_iff_getElem,List.getElem_mem,List.mem_iff_getElem,List.pairwise_iff_getElem,Nat.lt_trichotomy]
theorem zx3 (h:s8 V) (r:Int) (hc:0≤c):z27 (j8 V) r c=z27 V r c:=by
 rw [Bool.eq_iff_iff,yi3 (z57 h).1.asc,yi3 h.asc]
 constructor
 ·rintro ⟨y,hy,hr,hh⟩
  obtain ⟨x,hx,e⟩:=List.mem_filterMap.1 hy
  obtain ⟨h1,h2,_,h4⟩:=za9 (h.ent x hx) e
  refine ⟨x,hx,by omega,?_⟩
  rw [← z21 (h.ent x hx) hc,← h4,z21 h2 hc];exact hh
 ·rintro ⟨x,hx,hr,hh⟩
  have hne:x7 x.2.1 x.2.2 ≠ []:=fun e=>by
   rw [← z21 (h.ent x hx) hc,e] at hh;cases hh
  have e:yc4 x=some (x.1,i8 (x7 x.2.1 x.2.2),r5 (x7 x.2.1 x.2.2)):=by unfold yc4;rw [if_neg hne]
  obtain ⟨h1,h2,_,h4⟩:=za9 (h.ent x hx) e
  refine ⟨_,List.mem_filterMap.2 ⟨x,hx,e⟩,hr,?_⟩
  rw [← z21 h2 hc,h4,z21 (h.ent x hx) hc];exact hh
theorem zk4:∀ A:List Int,g9 A A=0
 | []=>rfl
 | x :: a=>by unfold g9;rw [if_neg (by omega),if_neg (by omega)];exact zk4 a
theorem zf5:∀ A B:List Int,g9 B A = - g9 A B
 | [],[]=>rfl
 | [],_ :: _=>rfl
 | _ :: _,[]=>rfl
 | x :: a,y :: b=>by
   unfold g9
   have:=zf5 a b
   omega
theorem y50:∀ {A B:List Int},g9 A B=0→A=B
 | [],[],_=>rfl
 | x :: a,y :: b,h=>by
   unfold g9 at h
   by_cases h1:x<y
   ·omega
   ·rw [if_neg h1] at h
    by_cases h2:y<x
    ·omega
    ·rw [if_neg h2] at h
     rw [y50 h,show x=y by omega]
theorem zx4:∀ {A B C:List Int},g9 A B≤0→g9 B C≤0→g9 A C≤0
 | [],_,[],_,_=>by decide
 | [],_,_ :: _,_,_=>by show (-1:Int)≤0;decide
 | _ :: _,[],_,h,_=>absurd (show (1:Int)≤0 from h) (by decide)
 | _ :: _,_ :: _,[],_,h=>absurd (show (1:Int)≤0 from h) (by decide)
 | x :: a,y :: b,z :: c,h,h'=>by
   unfold g9 at h h' ⊢
   by_cases h1:x<y
   ·omega
   ·rw [if_neg h1] at h
    by_cases h2:y<x
    ·omega
    ·rw [if_neg h2] at h
     by_cases h3:y<z
     ·omega
     ·rw [if_neg h3] at h'
      by_cases h4:z<y
      ·omega
      ·rw [if_neg h4] at h'
       rw [if_neg (by omega),if_neg (by omega)]
       exact zx4 h h'
theorem xs3:∀ {H H':List Iv},ivN H=ivN H'→H=H'
 | [],[],_=>rfl
 | [],y :: H',h=>by have:=congrArg List.length h;rw [zi0,zi0] at this;simp at this
 | y :: H,[],h=>by have:=congrArg List.length h;rw [zi0,zi0] at this;simp at this
 | y :: H,y' :: H',h=>by
   unfold ivN at h
   rw [List.flatMap_cons,List.flatMap_cons] at h
   obtain ⟨h1,h2⟩:=List.append_inj h rfl
   rw [xs3 (show ivN H=ivN H' from h2)]
   grind
theorem xs4:∀ {V V':v6},V.length=V'.length→V.flatMap zv1=V'.flatMap zv1→V=V'
 | [],[],_,_=>rfl
 | [],_ :: _,h,_=>by simp at h
 | _ :: _,[],h,_=>by simp at h
 | x :: V,x' :: V',hl,h=>by
   rw [List.flatMap_cons,List.flatMap_cons] at h
   unfold zv1 at h
   simp only [List.cons_append,List.nil_append,List.cons.injEq] at h
   obtain ⟨h1,h2,h3,h4⟩:=h
   have hll:(ivN x.2.2).length=(ivN x'.2.2).length:=by rw [zi0,zi0];omega
   obtain ⟨h5,h6⟩:=List.append_inj h4 hll
   have h7:=xs3 h5
   rw [xs4 (V:=V) (V':=V') (by simpa using hl) h6,show x=x' from Prod.ext h1 (Prod.ext h2 h7)]
theorem we8 {V':v6} (h:r3 V=r3 V'):V=V':=by grind [r3,List.cons.inj,xs4]
theorem we9 (V V':v6):decide (g9 (r3 V) (r3 V')=0)=decide (V=V'):=by grind [zk4,g9,r3,we8,y50]
def zk5 (es:List (Int × Int × Value)):List Value:=es.flatMap fun e => [.int .u64 e.1,.int .u64 e.2.1,e.2.2]
theorem x94 (a b:List (Int × Int × Value)):zk5 (a++b)=zk5 a++zk5 b:=by unfold zk5;rw [List.flatMap_append]
theorem xs5:∀ (es:List (Int × Int × Value)) (i:Nat) (e:Int × Int × Value),es[i]? = some e→(zk5 es)[i*3]? = some (.int .u64 e.1)∧(zk5 es)[i*3+1]? = some (.int .u64 e.2.1)∧(zk5 es)[i*3+2]? = some e.2.2
 | [],i,e,h=>by simp at h
 | x :: es,0,e,h=>by
   obtain rfl:x=e:=by simpa using h
   exact ⟨rfl,rfl,rfl⟩
 | x :: es,i+1,e,h=>by
   have:=xs5 es i e (by simpa using h)
   have hc:∀ j,(zk5 (x :: es))[j+3]? = (zk5 es)[j]? := fun j=>by
    unfold zk5
    rw [List.flatMap_cons,List.getElem?_append_right (by simp)]
    simp
   refine ⟨?_,?_,?_⟩
   ·rw [show (i+1)*3=i*3+3 from by omega,hc];exact this.1
   ·rw [show (i+1)*3+1=(i*3+1)+3 from by omega,hc];exact this.2.1
   ·rw [show (i+1)*3+2=(i*3+2)+3 from by omega,hc];exact this.2.2
structure zu9 (w:World) (B:Nat) (g:Option Nat) (s:Value) (H:List Iv):Prop where
 ivs:v7 w s H
 soft:i7 w B s H.length
 apart:0<H.length→s.ownBlock≠g
theorem zu9.call (h:zu9 w B g s H) (hb:Below w.heap.size w w'):zu9 w' B g s H:=⟨h.ivs.call hb,h.soft.call hb,h.apart⟩
theorem zu9.grown {g':Option Nat} (h:zu9 w B g s H) (hg:w.grownBy w' g) (hat:g'=g∨g'=some w.heap.size):zu9 w' B g' s H:=by
 obtain ⟨⟨p,cap,h1,h2,h3⟩,⟨p',cap',k1,k2,k3⟩,h5⟩:=h
 rw [h1] at k1
 cases k1
 by_cases hH:H = []
 ·subst hH
  exact ⟨⟨p,cap,h1,h2,fun e=>absurd rfl e⟩,⟨p,cap,h1,k2,fun e=>absurd e (Nat.lt_irrefl 0)⟩,fun e=>absurd e (Nat.lt_irrefl 0)⟩
 ·have hpos:=List.length_pos_iff.2 hH
  obtain ⟨b,o,rfl,h6⟩:=h3 hH
  obtain ⟨b',o',e,hB,h7⟩:=k3 hpos
  cases e
  have hs:s.ownBlock=some b:=by rw [h1];rfl
  have hne:some b≠g:=by rw [← hs];exact h5 hpos
  have hlt:b<w.heap.size:=by
   obtain ⟨⟨⟨z,hz⟩,_⟩,_⟩:=h7 0 hpos
   exact World.block_lt_of_cell? w _ hz
  have hblk:=hg.block b hlt hne
  have hc:∀ i,w'.cell? ⟨b,i,none⟩=w.cell? ⟨b,i,none⟩:=fun i=>World.cell?_of_block hblk
  have hf:∀ i,w'.frozen? ⟨b,i,none⟩=w.frozen? ⟨b,i,none⟩:=fun i=>World.frozen?_of_block hblk
  refine ⟨⟨_,cap,h1,h2,fun _=>⟨b,o,rfl,fun i x hx => ?_⟩⟩,⟨_,cap,h1,k2,fun _=>⟨b,o,rfl,hB,fun i hi => ?_⟩⟩,fun _ => ?_⟩
  ·rw [hc,hc];exact h6 i x hx
  ·rw [hc,hc,hf,hf];exact h7 i hi
  ·rw [hs]
   rcases hat with rfl | rfl
   ·exact hne
   ·intro e;have:=Option.some.inj e;omega
def z83 (w:World) (B:Nat) (v:Value) (V:v6):Prop:=
 ∃ es:List (Int × Int × Value),es.length=V.length∧w.ownsRow B 63 3 v es.length (zk5 es)∧∀ (i:Nat) (e:Int × Int × Value) (x:Int × Int × List Iv),es[i]? = some e→V[i]? = some x→e.1=x.1∧e.2.1=x.2.1∧zu9 w B v.ownBlock e.2.2 x.2.2
theorem z83.nil (w:World) (B:Nat):z83 w B (.slice none 0 0) []:=⟨[],rfl,World.ownsRow_nil w B _ 3,fun i e x h=>by simp at h⟩
theorem z83.shape (h:z83 w B v V):∃ p cap,v = .slice p V.length cap:=by
 obtain ⟨es,h1,h2,_⟩:=h
 obtain ⟨p,cap,e,_⟩:=y8 h2
 exact ⟨p,cap,by rw [e,h1]⟩
theorem z83.call (h:z83 w B v V) (hb:Below w.heap.size w w'):z83 w' B v V:=by
 obtain ⟨es,h1,h2,h3⟩:=h
 exact ⟨es,h1,y6 h2 hb,fun i e x he hx=>⟨(h3 i e x he hx).1,(h3 i e x he hx).2.1,(h3 i e x he hx).2.2.call hb⟩⟩
theorem zt8 {sz:Nat} {xs:List Value} (h:w.ownsRow B t sz v n xs) (hs:i7 w' w.heap.size s k) (hk:0<k):s.ownBlock≠v.ownBlock:=by
 obtain ⟨p,cap,rfl,_,h3⟩:=hs
 obtain ⟨g,o,rfl,hg,_⟩:=h3 hk
 intro e
 have e':some g=v.ownBlock:=e
 have:=(h.lt g e'.symm).2
 omega
theorem z83.push {w2:World} {v2:Value} {r m:Int} (hel:es.length=V.length)
 (hall:∀ (i:Nat) (e:Int × Int × Value) (x:Int × Int × List Iv),es[i]? = some e→V[i]? = some x→e.1=x.1∧e.2.1=x.2.1∧zu9 w B v.ownBlock e.2.2 x.2.2)
 (hrow:w2.ownsRow B 63 3 v2 (es.length+1) (zk5 es ++ [.int .u64 r,.int .u64 m,s])) (hg:w.grownBy w2 v.ownBlock) (hat:v2.ownBlock=v.ownBlock∨v2.ownBlock=some w.heap.size) (hx:zu9 w B v.ownBlock s H):z83 w2 B v2 (V ++ [(r,m,H)]):=by
 refine ⟨es ++ [(r,m,s)],by rw [List.length_append,List.length_append,hel];rfl,?_,fun i e x he hx' => ?_⟩
 ·rw [List.length_append,x94];exact hrow
 ·by_cases hi:i<es.length
  ·rw [List.getElem?_append_left hi] at he
   rw [List.getElem?_append_left (by omega)] at hx'
   obtain ⟨h1,h2,h3⟩:=hall i e x he hx'
   exact ⟨h1,h2,h3.grown hg hat⟩
  ·rw [List.getElem?_append_right (by omega)] at he
   rw [List.getElem?_append_right (by omega)] at hx'
   have h0:i - es.length=0:=by
    have:=(List.getElem?_eq_some_iff.1 he).1
    simpa using this
   have h0':i - V.length=0:=by omega
   rw [h0] at he;rw [h0'] at hx'
   obtain rfl:(r,m,s)=e:=by simpa using he
   obtain rfl:(r,m,H)=x:=by simpa using hx'
   exact ⟨rfl,rfl,hx.grown hg hat⟩
theorem yi4 {g cap:Nat} (h:w.ownsRow B t 3 (.slice (some ⟨g,0,none⟩) n cap) n (zk5 es)) (hn:n=es.length) (i:Nat) (e:Int × Int × Value) (he:es[i]? = some e) :
 w.cell? ⟨g,0+i*3,none⟩=some (.int .u64 e.1)∧w.cell? ⟨g,0+i*3+1,none⟩=some (.int .u64 e.2.1)∧w.cell? ⟨g,0+i*3+2,none⟩=some e.2.2:=by
 have hi:=(List.getElem?_eq_some_iff.1 he).1
 obtain ⟨c0,c1,c2⟩:=xs5 es i e he
 subst hn
 rw [Nat.zero_add]
 exact ⟨by rw [h.cellAt (i*3) (by omega)];exact c0,by rw [h.cellAt (i*3+1) (by omega)];exact c1,by rw [h.cellAt (i*3+2) (by omega)];exact c2⟩
theorem z83.vecAt (h2:w.ownsRow B t 3 v es.length (zk5 es)):zp0 w v es:=by
 have h3:=h2
 rcases h2.2 with ⟨rfl,h0⟩ | ⟨g,cap,cur,rfl,hbg,hg,hnc,hcm,_⟩
 ·exact ⟨none,0,by rw [h0],by omega,fun e=>absurd (List.eq_nil_of_length_eq_zero h0) e⟩
 ·exact ⟨_,cap,rfl,Nat.le_trans hnc hcm,fun _=>⟨g,0,rfl,fun i e he=>yi4 h3 rfl i e he⟩⟩
theorem z83.vec (h:z83 w B v V) (hl:V.length≤100000):zd6 w v V:=by
 obtain ⟨es,h1,h2,h3⟩:=h
 exact ⟨⟨es,z83.vecAt h2,h1,fun i e x he hx=>⟨(h3 i e x he hx).1,(h3 i e x he hx).2.1,(h3 i e x he hx).2.2.ivs⟩⟩,hl⟩
theorem xs6:(Tryz.prog.info? 63).map (fun i=>(i.zero,i.size,i.bytes))=some (some (.agg #[.int .u64 0,.int .u64 0,.slice none 0 0]),3,40):=by kernel_rfl
theorem zh8 (w:World) (x y z:Value) (t:TypeId) (k:Nat) (hk:k=w.heap.size):∀ j u,[x,y,z][j]? = some u→(w.alloc (.cells #[x,y,z] t)).cell? ((⟨k,0,none⟩:Addr).add j)=some u:=by
 subst hk
 intro j u h
 match j,h with
 | 0,h=>simp at h;subst h;simp [Addr.add]
 | 1,h=>simp at h;subst h;simp [Addr.add]
 | 2,h=>simp at h;subst h;simp [Addr.add]
theorem y14 {L:List Iv} (h:L ≠ []):z44 L=true:=by unfold z44;cases L <;> simp at *
def v75 (V:v6) (w:World) (e:Ending) (w':World):Prop:=∃ u,e = .returned u∧z83 w' w.heap.size u V∧Below w.heap.size w w'
theorem ya0 {r m:Int} (h:V[k]? = some (r,m,H)) :
 j8 (V.take (k+1))=if x7 m H = [] then j8 (V.take k) else j8 (V.take k) ++ [(z56 r (x7 m H),i8 (x7 m H),r5 (x7 m H))]:=by
 unfold j8
 rw [zf7 h,List.filterMap_append]
 by_cases hk:x7 m H = []
 ·rw [if_pos hk]
  have:yc4 (r,m,H)=none:=by unfold yc4;rw [if_pos hk]
  rw [List.filterMap_cons_none this];simp
 ·rw [if_neg hk]
  have:yc4 (r,m,H)=some (r,i8 (x7 m H),r5 (x7 m H)):=by unfold yc4;rw [if_neg hk]
  rw [List.filterMap_cons_some this]
  unfold z56
  rw [if_neg hk];rfl
set_option maxRecDepth 100000 in
set_option maxHeartbeats 4000000 in
theorem x95 (V:v6) (v:Value) (w:World) (hv:zd6 w v V) (hg:s8 V) (hsm:∀ x ∈ V,x.2.2.length≤1000):Calls Tryz.prog 88 #[v] w (v75 (j8 V) w):=by
 obtain ⟨i0,hi',hz0,hz1,hz2⟩:=info_parts xs6
 obtain ⟨p,cap,rfl⟩:=hv.shape
 have hlen:=hv.len
 have HV:=qh hv;clear hv
 have HG:=qh hg;clear hg
 have HS:=qh hsm;clear hsm
 go_enter Tryz.func88,Tryz.ntmps88
 go_wp2_with fail
 go_loopw [3,4] (fun vo i wr=>∃ k:Nat,i = .int .i64 k∧k≤V.length∧z83 wr w.heap.size vo (j8 (V.take k))∧Below w.heap.size w wr) (fun _ i _=>V.length - (intOf i).toNat)
 case atStart=>exact ⟨0,rfl,Nat.zero_le _,z83.nil _ _,Below.refl _ _⟩
 case round =>
  obtain ⟨k,rfl,hk,hout,hb⟩:=hrel
  obtain ⟨pv,cv,rfl⟩:=hout.shape
  have HB:=qh hb;clear hb
  have hszw:=HB.out.size
  by_cases hlt:k<V.length
  ·obtain ⟨⟨r,m,H⟩,hx⟩:∃ x,V[k]? = some x:=⟨V[k],by simp [hlt]⟩
   obtain ⟨b,o,cp,q,n,c,e,c0,c1,c2,ha⟩:=(HV.out.call HB.out).elem hx
   cases e
   obtain ⟨_,_,es,_⟩:=ha.shape
   cases es
   have hmem:=List.mem_iff_getElem?.2 ⟨k,hx⟩
   have hge:=HG.out.ent _ hmem
   have hhl:=HS.out _ hmem
   have K:=qh (yx8 r m H (.slice q H.length c) wr ⟨ha,hge.good,by dsimp only at hhl;omega⟩ hge hhl)
   have hcl:=zn4 (V.take k)
   rw [List.length_take] at hcl
   have HC:=qh (And.intro (ya0 hx) (show (j8 (V.take k)).length≤100000 by omega))
   have i1:(0:Int)≤(k:Int):=by omega
   have i2:(k:Int)<(V.length:Int):=by omega
   clear ha hmem hge hhl hx hcl
   generalize x7 m H=KK at *
   generalize j8 (V.take k)=P at *
   go_wp2_with fail
   refine K.out.mono ?_
   rintro e w1 ⟨vc,rfl,hvc,hso,h⟩
   obtain ⟨pc,cc,rfl,_⟩:=hvc.shape
   have HH:=qh (And.intro hvc hso);clear hvc hso
   have H1:=qh h;clear h c0 c1 c2
   by_cases hK:KK = []
   ·have e1:z44 KK=false:=by rw [hK];rfl
    rw [e1]
    have hb2:=z8 w1 (.cells #[.int .u64 (z56 r KK),.int .u64 (i8 KK),.slice pc (r5 KK).length cc] 63)
    have HB2:=qh (z7 H1.out hb2);clear hb2
    have HO:=qh hout;clear hout
    have HC':=qh (HC.out.1.trans (if_pos hK));clear HC hK
    generalize z56 r KK=rr at *
    generalize i8 KK=tt at *
    generalize (r5 KK).length=ll at *
    go_wp2_with fail
    go_roundw
    case rel=>exact ⟨k+1,by go_num,by omega,by rw [HC'.out];exact HO.out.call HB2.out,z7 HB.out HB2.out⟩
    case measure=>simp [intOf];omega
   ·have e1:z44 KK=true:=y14 hK
    rw [e1]
    have HC':=qh (And.intro (HC.out.1.trans (if_neg hK)) HC.out.2);clear HC hK
    generalize z56 r KK=rr at *
    generalize i8 KK=tt at *
    generalize r5 KK=hh at *
    obtain ⟨w2,hw2⟩:∃ w2,w1.alloc (.cells #[.int .u64 rr,.int .u64 tt,.slice pc hh.length cc] 63)=w2:=⟨_,rfl⟩
    have e3:E3 w2 w1.heap.size rr tt (.slice pc hh.length cc):=hw2 ▸ E3.new w1 rr tt (.slice pc hh.length cc) 63 _ rfl
    have hb2:Below w1.heap.size w1 w2:=hw2 ▸ z8 w1 _
    obtain ⟨t0,t1,t2⟩:=e3
    have HB2:=qh (z7 H1.out hb2)
    obtain ⟨es,hel,hrow,hall⟩:=hout
    have HROW:=qh hrow
    have HALL:=qh hall
    have HAP:=qh (fun h0=>zt8 hrow HH.out.2 h0)
    have HH2:=qh (And.intro (HH.out.1.call hb2) ((HH.out.2.call hb2).base hszw))
    clear hrow hall hb2 HH
    have hel2:es.length≤100000:=by rw [hel];exact HC'.out.2
    have HSZ:=qh (Nat.le_trans hszw HB2.out.size)
    go_wp2_with (at_builtin;go_loud (refine wpList_append_own_at _ rfl _ _ 44 rfl w.heap.size 63 i0 (.agg #[.int .u64 0,.int .u64 0,.slice none 0 0]) 3 40 Tryz.underlying44 hi' hz0 hz1 hz2 rfl (by decide) _ es.length (zk5 es) rfl (y6 HROW.out (z7 HB2.out (z8 _ _))) ⟨w2.heap.size,0,none⟩ 1 1 [.int .u64 rr,.int .u64 tt,.slice pc hh.length cc] rfl rfl (zh8 _ _ _ _ _ _ rfl) (by simp [Value.oneCell']) (by unfold maxLen;omega) (by omega) (Nat.le_trans HSZ.out (z8 _ _).size) ?_;intro v' w4 hown' hgrow _ hat;have HN:=qh (z8 w2 (.cells #[.int .u64 rr,.int .u64 tt,.slice pc hh.length cc] 63));have HW4:=qh (x8 (z7 HB.out (z7 HB2.out HN.out)) (y6 HROW.out (z7 HB2.out HN.out)) hgrow (Nat.le_trans HSZ.out HN.out.size));have HP:=qh (z83.push hel (fun i e x he hx=>⟨(HALL.out i e x he hx).1,(HALL.out i e x he hx).2.1,(HALL.out i e x he hx).2.2.call (z7 HB2.out HN.out)⟩) hown' hgrow hat (⟨HH2.out.1.call HN.out,HH2.out.2.call HN.out,HAP.out⟩:zu9 _ _ _ _ hh));clear hown' hgrow hat))
    go_roundw
    case rel=>exact ⟨k+1,by go_num,by omega,by rw [HC'.out.1];exact HP.out,HW4.out⟩
    case measure=>simp [intOf];omega
  ·obtain rfl:k=V.length:=by omega
   rw [List.take_of_length_le (Nat.le_refl _)] at hout ⊢
   have HO:=qh hout;clear hout
   go_wp2_with fail
   go_ret
   exact ⟨_,rfl,HO.out,HB.out⟩
def yy5 (w:World) (v:Value) (L:List Int):Prop:=
 ∃ p cap,v = .slice p L.length cap∧L.length≤maxLen∧(L ≠ []→∃ b o,p=some ⟨b,o,none⟩∧∀ (i:Nat) (x:Int),L[i]? = some x→w.cell? ⟨b,o+i,none⟩=some (.int .u64 x))
theorem yy5.call (h:yy5 w v L) (hb:Below w.heap.size w w'):yy5 w' v L:=by
 obtain ⟨p,cap,h1,h2,h3⟩:=h
 refine ⟨p,cap,h1,h2,fun hne => ?_⟩
 obtain ⟨b,o,h5,h6⟩:=h3 hne
 exact ⟨b,o,h5,fun i x hi=>z6 (h6 i x hi) hb⟩
theorem x96 (h:d7 w B v L):yy5 w v L:=by
 have hrow:w.ownsRow B 36 1 v L.length (e8 L):=h
 have h3:=hrow
 rcases hrow.2 with ⟨rfl,h0⟩ | ⟨g,cap,cur,rfl,hbg,hg,hnc,hcm,_⟩
 ·exact ⟨none,0,by rw [h0],by omega,fun e=>absurd (List.eq_nil_of_length_eq_zero h0) e⟩
 ·exact ⟨_,cap,rfl,Nat.le_trans hnc hcm,fun _=>⟨g,0,rfl,fun i x hx=>by
   rw [Nat.zero_add,h3.cellAt i (by have:=(List.getElem?_eq_some_iff.1 hx).1;omega)]
   exact xs9 hx⟩⟩
structure z30 (w:World) (v:Value) (V:v6):Prop where
 m:zd5 w v V
 sane:z02 v
 rng:∀ x ∈ V,0≤x.1∧x.1≤18446744073709551615
theorem z30.call (h:z30 w v V) (hb:Below w.heap.size w w'):z30 w' v V:=⟨h.m.call hb,h.sane,h.rng⟩
def z05 (w:World) (B:Nat) (v:Value) (ns:List Nat):Prop:=
 ∃ p cap,v = .slice p ns.length cap∧ns.length≤maxLen∧(ns ≠ []→∃ b o,p=some ⟨b,o,none⟩∧B≤b∧∀ (i:Nat) (n:Nat),ns[i]? = some n →
  (∃ z:Int,w.cell? ⟨b,o+i*3,none⟩=some (.int .u64 z))∧(∃ z:Int,w.cell? ⟨b,o+i*3+1,none⟩=some (.int .u64 z))∧w.frozen? ⟨b,o+i*3,none⟩=false∧w.frozen? ⟨b,o+i*3+1,none⟩=false ∧
  ∃ s,w.cell? ⟨b,o+i*3+2,none⟩=some s∧i7 w B s n)
def nsV (V:v6):List Nat:=V.map fun x=>x.2.2.length
def wq4 (V:v6) (w:World) (e:Ending) (w':World):Prop:=∃ u,e = .returned u∧z30 w' u V∧z05 w' w.heap.size u (nsV V)∧Below w.heap.size w w'
def zh9 (V:v6):Option (Int × Option Int):=(z84 V).map fun x=>(x.1,some (x.2:Int))
def knV (V:v6) (r:Int):List Iv:=match V.findIdx? (fun x=>decide (x.1=r)) with
 | none => []
 | some k=>match V[k]? with
   | none => []
   | some x=>x7 x.2.1 x.2.2
theorem zr0 (h:∀ x ∈ V,x.1≠r):knV V r = []:=by grind [knV,List.findIdx?_eq_none_iff]
theorem xs7 (h:V.Pairwise fun x y=>x.1<y.1) (hx:x ∈ V) (hy:y ∈ V) (e:x.1=y.1):x=y:=by grind [List.mem_iff_getElem,List.pairwise_iff_getElem,Nat.lt_trichotomy]
theorem y15 (h:V.Pairwise fun x y=>x.1<y.1) (hx:x ∈ V):knV V x.1=x7 x.2.1 x.2.2:=by grind [knV,List.findIdx?_eq_none_iff,List.findIdx?_eq_some_iff_getElem,xs7,List.getElem_mem]
theorem z63 (h:V.Pairwise fun x y=>x.1<y.1) (r:Int):(∃ x ∈ V,x.1=r∧knV V r=x7 x.2.1 x.2.2)∨((∀ x ∈ V,x.1≠r)∧knV V r = []):=by
 by_cases he:∃ x ∈ V,x.1=r
 ·obtain ⟨x,hx,rfl⟩:=he
  grind [y15]
 grind [zr0]
theorem m8 (h:s8 V) (r:Int):t6 (knV V r):=by
 rcases z63 h.asc r with ⟨x,hx,_,e⟩ | ⟨_,e⟩
 ·rw [e];exact z14 (h.ent x hx)
 ·rw [e];exact z34
theorem zd4 (h:s8 V) (r:Int) (hc:0≤c):z27 V r c=y9 (knV V r) c:=by
 rw [Bool.eq_iff_iff,yi3 h.asc]
 rcases z63 h.asc r with ⟨x,hx,hr,e⟩ | ⟨hn,e⟩
 ·rw [e,z21 (h.ent x hx) hc]
  constructor
  ·rintro ⟨y,hy,hyr,hh⟩
   rwa [xs7 h.asc hx hy (hr.trans hyr.symm)]
  grind
 ·rw [e]
  constructor
  ·grind
  ·intro hh;cases hh
theorem wf0:∀ {l m:v6},l.Pairwise (fun x y=>x.1<y.1)→m.Pairwise (fun x y=>x.1<y.1)→(∀ x,x ∈ l↔x ∈ m)→l=m
 | [],[],_,_,_=>rfl
 | [],y :: m,_,_,h=>by have:=(h y).2 (by simp);cases this
 | x :: l,[],_,_,h=>by have:=(h x).1 (by simp);cases this
 | x :: l,y :: m,hl,hm,h=>by
   have h1:=List.pairwise_cons.1 hl
   have h2:=List.pairwise_cons.1 hm
   have hxy:x=y:=by grind
   subst hxy
   rw [wf0 h1.2 h2.2 fun z => ?_]
   grind
theorem xs8 {W:v6} (hV:s8 V) (cV:∀ y ∈ V,o5 y.2.1 y.2.2=true) (hW:s8 W) (cW:∀ y ∈ W,o5 y.2.1 y.2.2=true) (h:∀ r,knV V r=knV W r):V=W:=by
 have key:∀ {V W:v6},s8 V→(∀ y ∈ V,o5 y.2.1 y.2.2=true)→s8 W→(∀ y ∈ W,o5 y.2.1 y.2.2=true)→(∀ r,knV V r=knV W r)→∀ x,x ∈ V→x ∈ W:=by
  intro V W hV cV hW cW h x hx
  obtain ⟨hne,ht,hh⟩:=yh3 (hV.ent x hx) (cV x hx)
  have e:=h x.1
  rw [y15 hV.asc hx] at e
  rcases z63 hW.asc x.1 with ⟨y,hy,hyr,e2⟩ | ⟨_,e2⟩
  ·obtain ⟨_,ht',hh'⟩:=yh3 (hW.ent y hy) (cW y hy)
   rw [e2] at e
   have:y=x:=Prod.ext hyr (Prod.ext (by rw [← ht',← ht,e]) (by rw [← hh',← hh,e]))
   rw [← this];exact hy
  ·rw [e2] at e;exact absurd e hne
 exact wf0 hV.asc hW.asc fun x=>⟨key hV cV hW cW h x,key hW cW hV cV (fun r=>(h r).symm) x⟩
def zd0 (A B:v6):List Int:=(A.map (·.1)++B.map (·.1)).foldl b7 []
theorem yi6 (A B:v6):(zd0 A B).Pairwise (· < ·):=(zc2 _ _ List.Pairwise.nil).1
theorem zk6 (A B:v6) (r:Int):r ∈ zd0 A B↔(∃ x ∈ A,x.1=r)∨∃ x ∈ B,x.1=r:=by
 unfold zd0
 rw [(zc2 _ _ List.Pairwise.nil).2 r]
 simp
def opE (f:List Iv→List Iv→List Iv) (A B:v6) (r:Int):Option (Int × Int × List Iv):=
 if f (knV A r) (knV B r) = [] then none else some (r,i8 (f (knV A r) (knV B r)),r5 (f (knV A r) (knV B r)))
def opV (f:List Iv→List Iv→List Iv) (A B:v6):v6:=(zd0 A B).filterMap (opE f A B)
theorem zf6 {f:List Iv→List Iv→List Iv} {B:v6} (h:opE f A B r=some y):y.1=r∧f (knV A r) (knV B r) ≠ []∧y=(r,i8 (f (knV A r) (knV B r)),r5 (f (knV A r) (knV B r))):=by grind [opE,knV,Option.some.inj]
theorem yo6 {g:Int→Option (Int × Int × List Iv)} (hg:∀ r y,g r=some y→y.1=r):∀ {l:List Int},l.Pairwise (· < ·)→(l.filterMap g).Pairwise fun x y=>x.1<y.1
 | [],_=>List.Pairwise.nil
 | a :: l,h=>by grind
theorem zk7 {f:List Iv→List Iv→List Iv} (hf:∀ K L,t6 K→t6 L→t6 (f K L)) {B:v6} (hA:s8 A) (hB:s8 B):s8 (opV f A B)∧∀ y ∈ opV f A B,o5 y.2.1 y.2.2=true:=by
 have hk:∀ r,t6 (f (knV A r) (knV B r)):=fun r=>hf _ _ (m8 hA r) (m8 hB r)
 refine ⟨⟨fun y hy => ?_,yo6 (fun r y h=>(zf6 h).1) (yi6 A B)⟩,fun y hy => ?_⟩
 ·obtain ⟨r,_,e⟩:=List.mem_filterMap.1 hy
  obtain ⟨_,hne,e2⟩:=zf6 e
  grind [xr5]
 ·obtain ⟨r,_,e⟩:=List.mem_filterMap.1 hy
  obtain ⟨_,hne,e2⟩:=zf6 e
  grind [x81]
theorem wz4 {f:List Iv→List Iv→List Iv} (hf:∀ K L,t6 K→t6 L→t6 (f K L)) (h0:f [] [] = []) {B:v6} (hA:s8 A) (hB:s8 B) (r:Int):knV (opV f A B) r=f (knV A r) (knV B r):=by
 have hk:=hf _ _ (m8 hA r) (m8 hB r)
 have hg:=(zk7 hf hA hB).1
 by_cases hne:f (knV A r) (knV B r) = []
 ·rw [hne]
  refine zr0 fun y hy e => ?_
  obtain ⟨r',_,e'⟩:=List.mem_filterMap.1 hy
  obtain ⟨h1,h2,_⟩:=zf6 e'
  grind
 ·have hr:r ∈ zd0 A B:=by
   rw [zk6]
   rcases z63 hA.asc r with ⟨x,hx,hxr,_⟩ | ⟨_,ea⟩
   ·grind
   ·rcases z63 hB.asc r with ⟨x,hx,hxr,_⟩ | ⟨_,eb⟩
    all_goals grind
  have he:opE f A B r=some (r,i8 (f (knV A r) (knV B r)),r5 (f (knV A r) (knV B r))):=by unfold opE;rw [if_neg hne]
  have hm:(r,i8 (f (knV A r) (knV B r)),r5 (f (knV A r) (knV B r))) ∈ opV f A B:=List.mem_filterMap.2 ⟨r,hr,he⟩
  have:=y15 hg.asc hm
  grind [x82]
theorem wq5 (f:List Iv→List Iv→List Iv) (A B:v6):(opV f A B).length≤A.length+B.length:=by
 refine Nat.le_trans (List.length_filterMap_le _ _) ?_
 grind [zd0,Nat.le_trans,zg5]
theorem wq6 {f:List Iv→List Iv→List Iv} {B:v6}:∀ x ∈ opV f A B,x.1 ∈ zd0 A B:=fun x hx=>by
 obtain ⟨r,hr,e⟩:=List.mem_filterMap.1 hx
 rw [(zf6 e).1];exact hr
theorem x97 (w:World):z30 w (.slice none 0 0) []:=
 ⟨⟨⟨[],⟨none,0,rfl,Nat.zero_le _,fun h=>absurd rfl h⟩,rfl,fun i e x h=>by simp at h⟩,Nat.zero_le _⟩,zf2,fun x hx=>by cases hx⟩
theorem wf1 {b:Nat} {r m:Int} (c0:w.cell? ⟨b,0,none⟩=some (.int .u64 r)) (c1:w.cell? ⟨b,1,none⟩=some (.int .u64 m)) (c2:w.cell? ⟨b,2,none⟩=some s) (ha:zk0 w s m H) (hr:0≤r∧r≤18446744073709551615):z30 w (.slice (some ⟨b,0,none⟩) 1 1) [(r,m,H)]:=by
 refine ⟨⟨⟨[(r,m,s)],⟨_,_,rfl,(by show (1:Nat)≤maxLen;decide),fun _=>⟨b,0,rfl,fun i e he => ?_⟩⟩,rfl,fun i e x he hx => ?_⟩,by simp⟩,a7 _ _ _ (Nat.le_refl _),fun x hx=>by rw [List.mem_singleton.1 hx];exact hr⟩
 ·match i,he with
  | 0,he=>simp at he;subst he;exact ⟨c0,c1,c2⟩
 ·match i,he,hx with
  | 0,he,hx=>simp at he hx;subst he;subst hx;exact ⟨rfl,rfl,ha⟩
theorem zt9.call (h:zt9 lim w s) (hb:Below w.heap.size w w'):zt9 lim w' s:=by
 rcases h with h | ⟨l,h1,h2,h3⟩
 ·exact .inl h
 ·exact .inr ⟨l,h1,h2,h3.call hb⟩
theorem zp1.call {e:Int × Int × Value} (h:zp1 lim w e) (hb:Below w.heap.size w w'):zp1 lim w' e:=⟨h.1,h.2.1,h.2.2.1,h.2.2.2.call hb⟩
def xk5 (w:World) (v:Value):Prop:=z02 v∧∃ es,zp0 w v es∧∀ e ∈ es,zp1 30 w e
theorem xk5.few (h:xk5 w v):(∃ p n c,v = .slice p n c)∧∃ b,(∀ W,Below w.heap.size w W→Calls Tryz.prog 31 #[v] W (q8 b W))∧(b=true→∃ V,z30 w v V∧V.length≤20∧∀ x ∈ V,x.2.2.length≤30):=by
 obtain ⟨hs,es,hv,hi⟩:=h
 refine ⟨?_,x98 es,fun W hb=>wq8 v es W (hv.call hb) (fun e he=>(hi e he).call hb),fun hf => ?_⟩
 ·obtain ⟨p,cap,e,_⟩:=hv;exact ⟨p,_,cap,e⟩
 ·obtain ⟨V,h1,h2,h3⟩:=wq7 hv hi hf
  exact ⟨V,⟨h1,hs,fun x hx=>(h3 x hx).2⟩,h2,fun x hx=>(h3 x hx).1⟩
theorem zd5.all64 (h:zd5 w v V):∀ x ∈ V,m9 x.2.2∧0≤x.2.1∧x.2.1≤UM:=by
 intro x hx
 obtain ⟨i,hi⟩:=List.mem_iff_getElem?.1 hx
 obtain ⟨_,_,_,_,_,_,_,_,_,_,ha⟩:=h.elem (r:=x.1) (m:=x.2.1) (H:=x.2.2) hi
 exact ⟨ha.all,ha.low,by unfold UM;exact ha.top⟩
end
end Go.Proofs.YtchndljcahjldaaGreatDoor
