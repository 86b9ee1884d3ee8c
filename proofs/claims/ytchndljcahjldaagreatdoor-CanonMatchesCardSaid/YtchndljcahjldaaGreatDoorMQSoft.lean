/- Knowledge of a call's own whose numbers may be written, its blocks in an interval; knowledge that abides what is written elsewhere. -/
import Derived.Test.YtchndljcahjldaaGreatDoorMQAlive
import Derived.Test.YtchndljcahjldaaGreatDoorMLPairs
namespace Go.Proofs.YtchndljcahjldaaGreatDoor
section
open Go.RowKit
variable {w w':World} {B T n g j i:Nat} {v:Value} {ns:List Nat} {sh:List (Nat × List Nat)} {z:Int}
def zl2 (w:World) (B T:Nat) (v:Value) (ns:List Nat):Prop:=
 ∃ p cap,v = .slice p ns.length cap∧ns.length≤maxLen∧(ns ≠ []→∃ b o,p=some ⟨b,o,none⟩∧B≤b∧b<T∧∀ (i:Nat) (n:Nat),ns[i]? = some n →
  (∃ z:Int,w.cell? ⟨b,o+i*3,none⟩=some (.int .u64 z))∧(∃ z:Int,w.cell? ⟨b,o+i*3+1,none⟩=some (.int .u64 z))∧w.frozen? ⟨b,o+i*3,none⟩=false∧w.frozen? ⟨b,o+i*3+1,none⟩=false ∧
  ∃ s,w.cell? ⟨b,o+i*3+2,none⟩=some s∧zd3 w B T s n)
def y62 (w:World) (B T:Nat) (v:Value) (sh:List (Nat × List Nat)):Prop:=
 ∃ p cap,v = .slice p sh.length cap∧sh.length≤maxLen∧(sh ≠ []→∃ b o,p=some ⟨b,o,none⟩∧B≤b∧b<T∧∀ (i:Nat) (x:Nat × List Nat),sh[i]? = some x →
  ∃ s u,w.cell? ⟨b,o+i*2,none⟩=some s∧w.cell? ⟨b,o+i*2+1,none⟩=some u∧zd3 w B T s x.1∧zl2 w B T u x.2)
def shK (F:t8):List (Nat × List Nat):=F.map fun x=>(x.1.length,nsV x.2)
def xm1 (F:t8) (w:World) (e:Ending) (w':World):Prop:=∃ u,e = .returned u∧z08 w' u F∧y62 w' w.heap.size w'.heap.size u (shK F)∧Below w.heap.size w w'
theorem zl2.call (h:zl2 w B T v ns) (hT:T≤w.heap.size) (hb:Below w.heap.size w w'):zl2 w' B T v ns:=by
 obtain ⟨p,cap,h1,h2,h3⟩:=h
 refine ⟨p,cap,h1,h2,fun hne => ?_⟩
 obtain ⟨b,o,h5,hB,hbT,h6⟩:=h3 hne
 refine ⟨b,o,h5,hB,hbT,fun i n hi => ?_⟩
 obtain ⟨⟨z,hz⟩,⟨y,hy⟩,f0,f1,s,hs,hso⟩:=h6 i n hi
 exact ⟨⟨z,z6 hz hb⟩,⟨y,z6 hy hb⟩,x6 f0 (by show b<_;omega) hb,x6 f1 (by show b<_;omega) hb,s,z6 hs hb,hso.call hT hb⟩
theorem y62.call (h:y62 w B T v sh) (hT:T≤w.heap.size) (hb:Below w.heap.size w w'):y62 w' B T v sh:=by
 obtain ⟨p,cap,h1,h2,h3⟩:=h
 refine ⟨p,cap,h1,h2,fun hne => ?_⟩
 obtain ⟨b,o,h5,hB,hbT,h6⟩:=h3 hne
 refine ⟨b,o,h5,hB,hbT,fun i x hi => ?_⟩
 obtain ⟨s,u,hs,hu,k1,k2⟩:=h6 i x hi
 exact ⟨s,u,z6 hs hb,z6 hu hb,k1.call hT hb,k2.call hT hb⟩
theorem zd3.slice (h:zd3 w B T v n):∃ p c,v = .slice p n c:=by
 obtain ⟨p,c,e,_⟩:=h;exact ⟨p,c,e⟩
theorem zl2.slice (h:zl2 w B T v ns):∃ p c,v = .slice p ns.length c:=by
 obtain ⟨p,c,e,_⟩:=h;exact ⟨p,c,e⟩
theorem zl2.setI (h:zl2 w B T v ns) (hz:w.cell? ⟨g,j,none⟩=some (.int .u64 z)) (y:Int):zl2 (w.setCell ⟨g,j,none⟩ (.int .u64 y)) B T v ns:=by
 obtain ⟨p,cap,h1,h2,h3⟩:=h
 refine ⟨p,cap,h1,h2,fun hne => ?_⟩
 obtain ⟨b,o,h5,hB,hbT,h6⟩:=h3 hne
 refine ⟨b,o,h5,hB,hbT,fun i n hi => ?_⟩
 obtain ⟨k0,k1,f0,f1,s,hs,hso⟩:=h6 i n hi
 refine ⟨y04 k0,y04 k1,by rw [World.frozen?_setCell];exact f0,by rw [World.frozen?_setCell];exact f1,s,?_,hso.set _ _ _⟩
 obtain ⟨q,c,e⟩:=hso.slice
 rw [e] at hs ⊢
 exact zn3 hz hs _
theorem y62.setI (h:y62 w B T v sh) (hz:w.cell? ⟨g,j,none⟩=some (.int .u64 z)) (y:Int):y62 (w.setCell ⟨g,j,none⟩ (.int .u64 y)) B T v sh:=by
 obtain ⟨p,cap,h1,h2,h3⟩:=h
 refine ⟨p,cap,h1,h2,fun hne => ?_⟩
 obtain ⟨b,o,h5,hB,hbT,h6⟩:=h3 hne
 refine ⟨b,o,h5,hB,hbT,fun i x hi => ?_⟩
 obtain ⟨s,u,hs,hu,k1,k2⟩:=h6 i x hi
 refine ⟨s,u,?_,?_,k1.set _ _ _,k2.setI hz _⟩
 ·obtain ⟨q,c,e⟩:=k1.slice
  rw [e] at hs ⊢
  exact zn3 hz hs _
 ·obtain ⟨q,c,e⟩:=k2.slice
  rw [e] at hu ⊢
  exact zn3 hz hu _
theorem y62.at (h:y62 w B T v sh) (hi:sh[i]? = some (n,ns)):∃ b o cap p c q d,v = .slice (some ⟨b,o,none⟩) sh.length cap∧B≤b∧b<T ∧
 w.cell? ⟨b,o+i*2,none⟩=some (.slice p n c)∧w.cell? ⟨b,o+i*2+1,none⟩=some (.slice q ns.length d)∧zd3 w B T (.slice p n c) n∧zl2 w B T (.slice q ns.length d) ns:=by
 obtain ⟨p,cap,h1,_,h3⟩:=h
 obtain ⟨b,o,rfl,hB,hbT,h6⟩:=h3 (by intro e;rw [e] at hi;simp at hi)
 obtain ⟨s,u,hs,hu,k1,k2⟩:=h6 i _ hi
 obtain ⟨p1,c1,e1⟩:=k1.slice
 obtain ⟨p2,c2,e2⟩:=k2.slice
 subst e1 e2
 exact ⟨b,o,cap,p1,c1,p2,c2,h1,hB,hbT,hs,hu,k1,k2⟩
theorem zl2.at (h:zl2 w B T v ns) (hi:ns[i]? = some n):∃ b o cap z z' p c,v = .slice (some ⟨b,o,none⟩) ns.length cap∧B≤b∧b<T∧w.cell? ⟨b,o+i*3,none⟩=some (.int .u64 z)∧w.cell? ⟨b,o+i*3+1,none⟩=some (.int .u64 z') ∧
 w.frozen? ⟨b,o+i*3,none⟩=false∧w.frozen? ⟨b,o+i*3+1,none⟩=false∧w.cell? ⟨b,o+i*3+2,none⟩=some (.slice p n c)∧zd3 w B T (.slice p n c) n:=by
 obtain ⟨p,cap,h1,_,h3⟩:=h
 obtain ⟨b,o,rfl,hB,hbT,h6⟩:=h3 (by intro e;rw [e] at hi;simp at hi)
 obtain ⟨⟨z,hz⟩,⟨y,hy⟩,f0,f1,s,hs,hso⟩:=h6 i n hi
 obtain ⟨q,c,e⟩:=hso.slice
 subst e
 exact ⟨b,o,cap,z,y,q,c,h1,hB,hbT,hz,hy,f0,f1,hs,hso⟩
theorem zd3.at {p:Option Addr} {c:Nat} (h:zd3 w B T (.slice p n c) n) (hj:j<n):∃ g o z z',p=some ⟨g,o,none⟩∧B≤g∧g<T∧w.cell? ⟨g,o+j*2,none⟩=some (.int .u64 z)∧w.frozen? ⟨g,o+j*2,none⟩=false∧w.cell? ⟨g,o+j*2+1,none⟩=some (.int .u64 z')∧w.frozen? ⟨g,o+j*2+1,none⟩=false:=by
 obtain ⟨p',cap,h1,_,h3⟩:=h
 cases h1
 obtain ⟨g,o,rfl,hB,hT,h6⟩:=h3 (by omega)
 obtain ⟨⟨⟨z,hz⟩,hf⟩,⟨y,hy⟩,hg⟩:=h6 j hj
 exact ⟨g,o,z,y,rfl,hB,hT,hz,hf,hy,hg⟩
section
variable {q:Nat→Prop} {w w':World} {B T:Nat}
theorem zb4 {s:Value} {L:List Iv} (h:v7 w s L) (hn:zd3 w B T s L.length) (hap:y5 q w w') (hq:∀ k,B≤k→k<T→¬ q k):v7 w' s L:=by
 obtain ⟨p,cap,rfl,h2,h3⟩:=h
 refine ⟨p,cap,rfl,h2,fun hne => ?_⟩
 obtain ⟨b,o,rfl,h6⟩:=h3 hne
 obtain ⟨p',cap',e,_,h7⟩:=hn
 cases e
 obtain ⟨b',o',e,hB,hT,_⟩:=h7 (List.length_pos_iff.2 hne)
 cases e
 exact ⟨b,o,rfl,fun i x hi=>⟨hap.cell (h6 i x hi).1 (hq b hB hT),hap.cell (h6 i x hi).2 (hq b hB hT)⟩⟩
theorem yo9 {s:Value} {m:Int} {L:List Iv} (h:zk0 w s m L) (hn:zd3 w B T s L.length) (hap:y5 q w w') (hq:∀ k,B≤k→k<T→¬ q k):zk0 w' s m L:=⟨zb4 h.at' hn hap hq,h.all,h.sane,h.low,h.top,h.len⟩
theorem zb5 {v:Value} {V:v6} (h:z30 w v V) (hn:zl2 w B T v (nsV V)) (hap:y5 q w w') (hq:∀ k,B≤k→k<T→¬ q k):z30 w' v V:=by
 obtain ⟨⟨⟨es,⟨p,cap,rfl,h2,h3⟩,hel,hal⟩,hlen⟩,hsn,hr⟩:=h
 obtain ⟨p',cap',e,_,h7⟩:=hn
 injection e with e1 _ _
 subst e1
 have hns:(nsV V).length=V.length:=by unfold nsV;rw [List.length_map]
 have key:∀ (i:Nat) (e:Int × Int × Value) (x:Int × Int × List Iv),es[i]? = some e→V[i]? = some x→∃ b o,p=some ⟨b,o,none⟩∧B≤b∧b<T∧(w.cell? ⟨b,o+i*3,none⟩=some (.int .u64 e.1)∧w.cell? ⟨b,o+i*3+1,none⟩=some (.int .u64 e.2.1)∧w.cell? ⟨b,o+i*3+2,none⟩=some e.2.2)∧zd3 w B T e.2.2 x.2.2.length:=by
  intro i e x he hx
  obtain ⟨b,o,rfl,h6⟩:=h3 (by rintro rfl;simp at he)
  obtain ⟨b',o',e',hB,hT,h8⟩:=h7 (by intro e0;rw [e0] at hns;have:=(List.getElem?_eq_some_iff.1 hx).1;simp at hns;omega)
  cases e'
  obtain ⟨_,_,_,_,s,hs,hso⟩:=h8 i x.2.2.length (by unfold nsV;rw [List.getElem?_map,hx];rfl)
  obtain ⟨c0,c1,c2⟩:=h6 i e he
  rw [c2] at hs
  obtain rfl:=Option.some.inj hs
  exact ⟨b,o,rfl,hB,hT,⟨c0,c1,c2⟩,hso⟩
 refine ⟨⟨⟨es,⟨p,cap,rfl,h2,fun hne => ?_⟩,hel,fun i e x he hx => ?_⟩,hlen⟩,hsn,hr⟩
 ·obtain ⟨b,o,rfl,h6⟩:=h3 hne
  refine ⟨b,o,rfl,fun i e he => ?_⟩
  have hi:i<V.length:=by have:=(List.getElem?_eq_some_iff.1 he).1;omega
  obtain ⟨b',o',e',hB,hT,⟨c0,c1,c2⟩,_⟩:=key i e V[i] he (by simp [hi])
  cases e'
  exact ⟨hap.cell c0 (hq b hB hT),hap.cell c1 (hq b hB hT),hap.cell c2 (hq b hB hT)⟩
 ·obtain ⟨k1,k2,k3⟩:=hal i e x he hx
  obtain ⟨_,_,_,_,_,_,hso⟩:=key i e x he hx
  exact ⟨k1,k2,yo9 k3 hso hap hq⟩
theorem wn1 {v:Value} {F:t8} (h:z08 w v F) (hn:y62 w B T v (shK F)) (hap:y5 q w w') (hq:∀ k,B≤k→k<T→¬ q k):z08 w' v F:=by
 obtain ⟨⟨⟨fs,⟨p,cap,rfl,h2,h3⟩,hel,hal⟩,hlen⟩,hsn⟩:=h
 obtain ⟨p',cap',e,_,h7⟩:=hn
 injection e with e1 _ _
 subst e1
 have hns:(shK F).length=F.length:=by unfold shK;rw [List.length_map]
 have key:∀ (i:Nat) (f:Value × Value) (x:List Iv × v6),fs[i]? = some f→F[i]? = some x→∃ b o,p=some ⟨b,o,none⟩∧B≤b∧b<T∧(w.cell? ⟨b,o+i*2,none⟩=some f.1∧w.cell? ⟨b,o+i*2+1,none⟩=some f.2)∧zd3 w B T f.1 x.1.length∧zl2 w B T f.2 (nsV x.2):=by
  intro i f x he hx
  obtain ⟨b,o,rfl,h6⟩:=h3 (by rintro rfl;simp at he)
  obtain ⟨b',o',e',hB,hT,h8⟩:=h7 (by intro e0;rw [e0] at hns;have:=(List.getElem?_eq_some_iff.1 hx).1;simp at hns;omega)
  cases e'
  obtain ⟨s,u,hs,hu,k1,k2⟩:=h8 i (x.1.length,nsV x.2) (by unfold shK;rw [List.getElem?_map,hx];rfl)
  obtain ⟨c0,c1⟩:=h6 i f he
  rw [c0] at hs
  rw [c1] at hu
  obtain rfl:=Option.some.inj hs
  obtain rfl:=Option.some.inj hu
  exact ⟨b,o,rfl,hB,hT,⟨c0,c1⟩,k1,k2⟩
 refine ⟨⟨⟨fs,⟨p,cap,rfl,h2,fun hne => ?_⟩,hel,fun i f x he hx => ?_⟩,hlen⟩,hsn⟩
 ·obtain ⟨b,o,rfl,h6⟩:=h3 hne
  refine ⟨b,o,rfl,fun i f he => ?_⟩
  have hi:i<F.length:=by have:=(List.getElem?_eq_some_iff.1 he).1;omega
  obtain ⟨b',o',e',hB,hT,⟨c0,c1⟩,_⟩:=key i f F[i] he (by simp [hi])
  cases e'
  exact ⟨hap.cell c0 (hq b hB hT),hap.cell c1 (hq b hB hT)⟩
 ·have hf:=hal i f x he hx
  obtain ⟨_,_,_,_,_,_,k1,k2⟩:=key i f x he hx
  exact ⟨zb4 hf.at1 k1 hap hq,hf.all,hf.sane,zb5 hf.vec k2 hap hq⟩
end
end
section
open Go.RowKit
def j9 (W:World) (av:Nat→Prop) (P:World→Prop):Prop:=∃ fp:Nat→Prop,(∀ k,fp k→k<W.heap.size∧¬ av k)∧∀ W',y5 (fun k=>¬ fp k) W W'→P W'
section
variable {W W1:World} {av av' q:Nat→Prop} {P:World→Prop}
theorem j9.now (h:j9 W av P):P W:=by
 obtain ⟨_,_,h2⟩:=h
 exact h2 W (y5.refl _ W)
theorem j9.mv (h:j9 W av P) (hap:y5 q W W1) (hq:∀ k,k<W.heap.size→q k→av k) (hav:∀ k,av' k→av k∨W.heap.size≤k):j9 W1 av' P:=by
 obtain ⟨fp,h1,h2⟩:=h
 refine ⟨fp,fun k hk=>⟨Nat.lt_of_lt_of_le (h1 k hk).1 hap.size,fun ha => ?_⟩,fun W' hW'=>h2 W' ((hap.mono fun k hk hqk hf=>(h1 k hf).2 (hq k hk hqk)).trans hW')⟩
 rcases hav k ha with h | h
 ·exact (h1 k hk).2 h
 ·have:=(h1 k hk).1;omega
end
theorem wr7 {w W:World} {av:Nat→Prop} {u:Value} {V:v6} (hv:z30 w u V) (hb:Below w.heap.size w W) (hav:∀ k,av k→w.heap.size≤k):j9 W av (fun W'=>z30 W' u V):=
 ⟨fun k=>k<w.heap.size,fun k hk=>⟨Nat.lt_of_lt_of_le hk hb.size,fun ha=>by have:=hav k ha;omega⟩,fun W' hap=>hv.call (hb.trans (hap.below hb.size fun k hk hn=>hn hk))⟩
section
variable {q:Nat→Prop} {w w':World} {B T:Nat}
theorem y5.free {a:Addr} (h:y5 q w w') (hf:w.frozen? a=false) (hl:a.block<w.heap.size) (hn:¬ q a.block):w'.frozen? a=false:=
 (World.frozen?_of_block (h.block a.block hl hn)).trans hf
theorem zd3.away {v:Value} {n:Nat} (h:zd3 w B T v n) (hT:T≤w.heap.size) (hap:y5 q w w') (hq:∀ k,B≤k→k<T→¬ q k):zd3 w' B T v n:=by
 obtain ⟨p,cap,h1,h2,h3⟩:=h
 refine ⟨p,cap,h1,h2,fun hne => ?_⟩
 obtain ⟨g,o,h5,hB,hbT,h6⟩:=h3 hne
 have hn:=hq g hB hbT
 have hl:g<w.heap.size:=by omega
 refine ⟨g,o,h5,hB,hbT,fun i hi => ?_⟩
 obtain ⟨⟨⟨z,hz⟩,hf⟩,⟨y,hy⟩,hf2⟩:=h6 i hi
 exact ⟨⟨⟨z,hap.cell hz hn⟩,hap.free hf hl hn⟩,⟨y,hap.cell hy hn⟩,hap.free hf2 hl hn⟩
theorem zl2.away {v:Value} {ns:List Nat} (h:zl2 w B T v ns) (hT:T≤w.heap.size) (hap:y5 q w w') (hq:∀ k,B≤k→k<T→¬ q k):zl2 w' B T v ns:=by
 obtain ⟨p,cap,h1,h2,h3⟩:=h
 refine ⟨p,cap,h1,h2,fun hne => ?_⟩
 obtain ⟨b,o,h5,hB,hbT,h6⟩:=h3 hne
 have hn:=hq b hB hbT
 have hl:b<w.heap.size:=by omega
 refine ⟨b,o,h5,hB,hbT,fun i n hi => ?_⟩
 obtain ⟨⟨z,hz⟩,⟨y,hy⟩,f0,f1,s,hs,hso⟩:=h6 i n hi
 exact ⟨⟨z,hap.cell hz hn⟩,⟨y,hap.cell hy hn⟩,hap.free f0 hl hn,hap.free f1 hl hn,s,hap.cell hs hn,hso.away hT hap hq⟩
theorem zd3.soft {v:Value} {n:Nat} (h:zd3 w B T v n):i7 w B v n:=by
 obtain ⟨p,cap,h1,h2,h3⟩:=h
 refine ⟨p,cap,h1,h2,fun hne => ?_⟩
 obtain ⟨g,o,h5,hB,_,h6⟩:=h3 hne
 exact ⟨g,o,h5,hB,h6⟩
theorem zl2.soft {v:Value} {ns:List Nat} (h:zl2 w B T v ns):z05 w B v ns:=by
 obtain ⟨p,cap,h1,h2,h3⟩:=h
 refine ⟨p,cap,h1,h2,fun hne => ?_⟩
 obtain ⟨b,o,h5,hB,_,h6⟩:=h3 hne
 refine ⟨b,o,h5,hB,fun i n hi => ?_⟩
 obtain ⟨k0,k1,f0,f1,s,hs,hso⟩:=h6 i n hi
 exact ⟨k0,k1,f0,f1,s,hs,hso.soft⟩
theorem z05.numW {v:Value} {ns:List Nat} (h:z05 w B v ns):zl2 w B w.heap.size v ns:=by
 obtain ⟨p,cap,h1,h2,h3⟩:=h
 refine ⟨p,cap,h1,h2,fun hne => ?_⟩
 obtain ⟨b,o,h5,hB,h6⟩:=h3 hne
 have h0:=h6 0 (ns.head hne) (by cases ns with | nil=>exact absurd rfl hne | cons x r=>rfl)
 obtain ⟨⟨z,hz⟩,_⟩:=h0
 refine ⟨b,o,h5,hB,World.block_lt_of_cell? w _ hz,fun i n hi => ?_⟩
 obtain ⟨k0,k1,f0,f1,s,hs,hso⟩:=h6 i n hi
 exact ⟨k0,k1,f0,f1,s,hs,hso.num⟩
end
theorem yj9 {W W1:World} {av:Nat→Prop} {u:Value} {V:v6} (hv:z30 W1 u V) (hs:z05 W1 W.heap.size u (nsV V)) (hav:∀ k,av k→k<W.heap.size) :
 j9 W1 av (fun W'=>z30 W' u V)∧∀ h,h≤W.heap.size→j9 W1 av (fun W'=>z05 W' h u (nsV V)):=by
 have hn:=hs.numW
 have hfp:∀ k,(W.heap.size≤k∧k<W1.heap.size)→k<W1.heap.size∧¬ av k:=fun k hk=>⟨hk.2,fun ha=>by have:=hav k ha;omega⟩
 refine ⟨⟨fun k=>W.heap.size≤k∧k<W1.heap.size,hfp,fun W' hap => ?_⟩,fun h hh=>⟨fun k=>W.heap.size≤k∧k<W1.heap.size,hfp,fun W' hap => ?_⟩⟩
 ·exact zb5 hv hn hap fun k hB hT hq=>hq ⟨hB,hT⟩
 ·exact (hn.away (Nat.le_refl _) hap fun k hB hT hq=>hq ⟨hB,hT⟩).soft.low hh
def avK (h g k:Nat):Prop:=k=h+1∨k=h+3∨k=h+6∨k=h+7∨k=g
structure StS (h g cap:Nat) (es:List (Value × v6)) (W:World):Prop where
 box:Boxed W (h+1) 54 (.slice (some ⟨g,0,none⟩) es.length cap)
 row:W.ownsRow h 44 1 (.slice (some ⟨g,0,none⟩) es.length cap) es.length (es.map (·.1)).reverse
 gne:g=h∨h+8≤g
 el:∀ e ∈ es,j9 W (avK h g) (fun W'=>z30 W' e.1 e.2)
 bot:∀ e,es.getLast? = some e→j9 W (avK h g) (fun W'=>z05 W' h e.1 (nsV e.2))
theorem y63 {q:Nat→Prop} {A B:World} {base g n cap size:Nat} {e:TypeId} {xs:List Value} (hap:y5 q A B) (h:A.ownsRow base e size (.slice (some ⟨g,0,none⟩) n cap) n xs) (hn:¬ q g):B.ownsRow base e size (.slice (some ⟨g,0,none⟩) n cap) n xs:=by
 refine ⟨h.1,?_⟩
 rcases h.2 with ⟨h0,_⟩ | ⟨g',cap',cur,h1,h2,h3,h4⟩
 ·cases h0
 ·cases h1
  exact .inr ⟨g,cap,cur,rfl,h2,hap.obj h3 hn,h4⟩
theorem StS.lt {h g cap:Nat} {es:List (Value × v6)} {W:World} (hs:StS h g cap es W):g<W.heap.size∧h+1<W.heap.size:=⟨(hs.row.lt g rfl).2,hs.box.lt⟩
theorem StS.mv {h g cap:Nat} {es:List (Value × v6)} {W W1:World} {q:Nat→Prop} (hs:StS h g cap es W) (hap:y5 q W W1) (hq:∀ k,k<W.heap.size→q k→k=h+3∨k=h+6∨k=h+7):StS h g cap es W1:=by
 have hl:=hs.lt
 have hg:=hs.gne
 have n1:¬ q (h+1):=fun hh=>by have:=hq _ hl.2 hh;omega
 have n2:¬ q g:=fun hh=>by have:=hq _ hl.1 hh;omega
 exact ⟨hap.boxed hs.box n1,y63 hap hs.row n2,hs.gne,fun e he=>(hs.el e he).mv hap (fun k hk hqk => .inr ((hq k hk hqk).elim .inl fun e => .inr (e.elim .inl fun e => .inr (.inl e)))) (fun k hk => .inl hk),
  fun e he=>(hs.bot e he).mv hap (fun k hk hqk => .inr ((hq k hk hqk).elim .inl fun e => .inr (e.elim .inl fun e => .inr (.inl e)))) (fun k hk => .inl hk)⟩
theorem StS.below {h g cap:Nat} {es:List (Value × v6)} {W W1:World} (hs:StS h g cap es W) (hb:Below W.heap.size W W1):StS h g cap es W1:=hs.mv (y5.of_below (fun _=>False) hb) (fun _ _ h=>h.elim)
theorem wg4 {W:World} {base g cap n:Nat} {t:TypeId} {xs:List Value} {x:Value} (h:W.ownsRow base t 1 (.slice (some ⟨g,0,none⟩) (n+1) cap) (n+1) (xs ++ [x])):W.ownsRow base t 1 (.slice (some ⟨g,0,none⟩) n cap) n xs:=by
 obtain ⟨h1,h2⟩:=h
 have hx:xs.length=n:=by simp at h1;exact h1
 rcases h2 with ⟨h0,_⟩ | ⟨g',cap',cur,hv,hg,hh,hn,hcap,hsz,htake⟩
 ·cases h0
 ·cases hv
  refine ⟨by rw [hx];omega,.inr ⟨g,cap,cur,rfl,hg,hh,by omega,hcap,hsz,?_⟩⟩
  have h3:(cur.toList.take ((n+1)*1)).take (n*1)=(xs ++ [x]).take (n*1):=by rw [htake]
  rw [List.take_take,Nat.min_eq_left (by omega)] at h3
  rw [h3,Nat.mul_one,← hx]
  simp
theorem w27 {h g cap:Nat} {a b u:Value} {A B C:v6} {es:List (Value × v6)} {W W2:World} (hs:StS h g cap ((b,B) :: (a,A) :: es) W) (hb:Below W.heap.size W W2) (hh:h+8≤W.heap.size)
 (hu:z30 W2 u C) (hsu:z05 W2 W.heap.size u (nsV C)) :
 StS h g cap ((u,C) :: es) ((W2.setCell ⟨g,es.length,none⟩ u).setCell ⟨h+1,0,none⟩ (.slice (some ⟨g,0,none⟩) (es.length+1) cap)) ∧
  y5 (fun k=>k=h+1∨k=g) W ((W2.setCell ⟨g,es.length,none⟩ u).setCell ⟨h+1,0,none⟩ (.slice (some ⟨g,0,none⟩) (es.length+1) cap)):=by
 have hs2:=hs.below hb
 have hlt:=hs.lt
 have hgn:=hs.gne
 have hap1:y5 (fun k=>k=g) W2 (W2.setCell ⟨g,es.length,none⟩ u):=y5.set W2 u rfl
 have hap2:y5 (fun k=>k=h+1) (W2.setCell ⟨g,es.length,none⟩ u) ((W2.setCell ⟨g,es.length,none⟩ u).setCell ⟨h+1,0,none⟩ (.slice (some ⟨g,0,none⟩) (es.length+1) cap)):=y5.set _ _ rfl
 have hap:y5 (fun k=>k=h+1∨k=g) W2 ((W2.setCell ⟨g,es.length,none⟩ u).setCell ⟨h+1,0,none⟩ (.slice (some ⟨g,0,none⟩) (es.length+1) cap)):=(hap1.mono fun k _ e => .inr e).trans (hap2.mono fun k _ e => .inl e)
 have hav:∀ k,avK h g k→k<W.heap.size:=fun k hk=>by
  rcases hk with hk | hk | hk | hk | hk <;> omega
 obtain ⟨hn1,hn2⟩:=yj9 (av:=avK h g) hu hsu hav
 have hq:∀ k,k<W2.heap.size→(k=h+1∨k=g)→avK h g k:=fun k _ hk=>hk.elim .inl fun e => .inr (.inr (.inr (.inr e)))
 refine ⟨⟨?_,?_,hs.gne,fun e he => ?_,fun e he => ?_⟩,(y5.of_below _ hb).trans hap⟩
 ·exact (hap1.boxed hs2.box (by omega)).set _
 ·refine y63 hap2 ?_ (by omega)
  have hr:=hs2.row
  have e1:(((b,B) :: (a,A) :: es).map (·.1)).reverse=(es.map (·.1)).reverse ++ [a,b]:=by simp
  rw [e1] at hr
  have h1:=(hr.stored es.length u).1
  have e2:((es.map (·.1)).reverse ++ [a,b]).set es.length u=((es.map (·.1)).reverse ++ [u]) ++ [b]:=by
   rw [x02 _ _ _ _ _ (by simp)]
   simp
  rw [e2] at h1
  have h2:=wg4 h1
  simpa using h2
 ·rcases List.mem_cons.1 he with rfl | he
  ·exact hn1.mv hap hq (fun k hk => .inl hk)
  ·exact (hs2.el e (by simp [he])).mv hap hq (fun k hk => .inl hk)
 ·cases es with
  | nil =>
    obtain rfl:(u,C)=e:=by simpa using he
    exact (hn2 h (by omega)).mv hap hq (fun k hk => .inl hk)
  | cons x r =>
    have:((b,B) :: (a,A) :: x :: r).getLast? = some e:=by
     rw [List.getLast?_cons_cons,List.getLast?_cons_cons]
     rw [List.getLast?_cons_cons] at he
     exact he
    exact (hs2.bot e this).mv hap hq (fun k hk => .inl hk)
end
end Go.Proofs.YtchndljcahjldaaGreatDoor
