/- A slice of intervals by its cells; a vector that came in: its entries in memory, however many, each with its holes. -/
import Derived.Test.YtchndljcahjldaaGreatDoorMNRef
import Derived.Deep.SlicePairs
import Derived.OpenShut
namespace Go.Proofs.YtchndljcahjldaaGreatDoor
section
open Go.RowKit Go.ChangeShapes Go.WideShapes Go.Deep
def zp0 (W:World) (v:Value) (es:List (Int × Int × Value)):Prop:=
 ∃ p cap,v = .slice p es.length cap∧es.length≤maxLen∧(es ≠ []→∃ b o,p=some ⟨b,o,none⟩∧∀ i e,es[i]? = some e →
  W.cell? ⟨b,o+i*3,none⟩=some (.int .u64 e.1)∧W.cell? ⟨b,o+i*3+1,none⟩=some (.int .u64 e.2.1)∧W.cell? ⟨b,o+i*3+2,none⟩=some e.2.2)
theorem zp0.call {w w':World} {v:Value} {es:List (Int × Int × Value)} (h:zp0 w v es) (hb:Below w.heap.size w w'):zp0 w' v es:=by
 obtain ⟨p,cap,h1,h2,h3⟩:=h
 refine ⟨p,cap,h1,h2,fun hne => ?_⟩
 obtain ⟨b,o,h5,h6⟩:=h3 hne
 exact ⟨b,o,h5,fun i e hi=>⟨z6 (h6 i e hi).1 hb,z6 (h6 i e hi).2.1 hb,z6 (h6 i e hi).2.2 hb⟩⟩
def zt9 (lim:Nat) (W:World) (s:Value):Prop:=(∃ q n cap,s = .slice q n cap∧lim<n)∨∃ l,l.length≤lim∧m9 l∧v7 W s l
def zp1 (lim:Nat) (W:World) (e:Int × Int × Value):Prop:=(0≤e.1∧e.1≤18446744073709551615)∧(0≤e.2.1∧e.2.1≤18446744073709551615)∧z02 e.2.2∧zt9 lim W e.2.2
end
section
open Go.RowKit
variable {w w' W:World} {v:Value} {V:v6} {r m x:Int} {H:List Iv} {k:Nat} {A B:List Int}
structure zd5 (W:World) (v:Value) (V:v6):Prop where
 sh:∃ es,zp0 W v es∧es.length=V.length∧∀ (i:Nat) (e:Int × Int × Value) (x:Int × Int × List Iv),es[i]? = some e→V[i]? = some x→e.1=x.1∧e.2.1=x.2.1∧zk0 W e.2.2 x.2.1 x.2.2
 len:V.length≤100000
theorem zd5.call (h:zd5 w v V) (hb:Below w.heap.size w w'):zd5 w' v V:=by
 obtain ⟨⟨es,h1,h2,h3⟩,h4⟩:=h
 exact ⟨⟨es,h1.call hb,h2,fun i e x he hx=>⟨(h3 i e x he hx).1,(h3 i e x he hx).2.1,(h3 i e x he hx).2.2.call hb⟩⟩,h4⟩
theorem zd5.shape (h:zd5 w v V):∃ p cap,v = .slice p V.length cap:=by
 obtain ⟨⟨es,⟨p,cap,h1,_⟩,h2,_⟩,_⟩:=h
 exact ⟨p,cap,by rw [h1,h2]⟩
theorem zd5.elem (h:zd5 w v V) {i:Nat} (hi:V[i]? = some (r,m,H)) :
 ∃ b o cap p n c,v = .slice (some ⟨b,o,none⟩) V.length cap∧w.cell? ⟨b,o+i*3,none⟩=some (.int .u64 r)∧w.cell? ⟨b,o+i*3+1,none⟩=some (.int .u64 m)∧w.cell? ⟨b,o+i*3+2,none⟩=some (.slice p n c)∧zk0 w (.slice p n c) m H:=by
 obtain ⟨⟨es,⟨p,cap,h1,_,h5⟩,h2,h3⟩,h4⟩:=h
 have hlt:i<V.length:=(List.getElem?_eq_some_iff.1 hi).1
 have he:es[i]? = some es[i]:=by simp [show i<es.length by omega]
 obtain ⟨b,o,rfl,h6⟩:=h5 (by intro e;rw [e] at h2;simp at h2;omega)
 obtain ⟨c0,c1,c2⟩:=h6 i _ he
 obtain ⟨e0,e1,ha⟩:=h3 i _ _ he hi
 obtain ⟨q,cq,hs,_⟩:=ha.at'.shape
 rw [e0] at c0
 rw [e1] at c1
 rw [hs] at c2 ha
 exact ⟨b,o,cap,q,_,cq,by rw [h1,h2],c0,c1,c2,ha⟩
structure zd6 (W:World) (v:Value) (V:v6):Prop where
 sh:∃ es,zp0 W v es∧es.length=V.length∧∀ (i:Nat) (e:Int × Int × Value) (x:Int × Int × List Iv),es[i]? = some e→V[i]? = some x→e.1=x.1∧e.2.1=x.2.1∧v7 W e.2.2 x.2.2
 len:V.length≤100000
theorem zd5.i (h:zd5 w v V):zd6 w v V:=by
 obtain ⟨⟨es,h1,h2,h3⟩,h4⟩:=h
 exact ⟨⟨es,h1,h2,fun i e x he hx=>⟨(h3 i e x he hx).1,(h3 i e x he hx).2.1,(h3 i e x he hx).2.2.at'⟩⟩,h4⟩
theorem zd6.call (h:zd6 w v V) (hb:Below w.heap.size w w'):zd6 w' v V:=by
 obtain ⟨⟨es,h1,h2,h3⟩,h4⟩:=h
 exact ⟨⟨es,h1.call hb,h2,fun i e x he hx=>⟨(h3 i e x he hx).1,(h3 i e x he hx).2.1,(h3 i e x he hx).2.2.call hb⟩⟩,h4⟩
theorem zd6.shape (h:zd6 w v V):∃ p cap,v = .slice p V.length cap:=by
 obtain ⟨⟨es,⟨p,cap,h1,_⟩,h2,_⟩,_⟩:=h
 exact ⟨p,cap,by rw [h1,h2]⟩
theorem zd6.elem (h:zd6 w v V) {i:Nat} (hi:V[i]? = some (r,m,H)) :
 ∃ b o cap p n c,v = .slice (some ⟨b,o,none⟩) V.length cap∧w.cell? ⟨b,o+i*3,none⟩=some (.int .u64 r)∧w.cell? ⟨b,o+i*3+1,none⟩=some (.int .u64 m)∧w.cell? ⟨b,o+i*3+2,none⟩=some (.slice p n c)∧v7 w (.slice p n c) H:=by
 obtain ⟨⟨es,⟨p,cap,h1,_,h5⟩,h2,h3⟩,h4⟩:=h
 have hlt:i<V.length:=(List.getElem?_eq_some_iff.1 hi).1
 have he:es[i]? = some es[i]:=by simp [show i<es.length by omega]
 obtain ⟨b,o,rfl,h6⟩:=h5 (by intro e;rw [e] at h2;simp at h2;omega)
 obtain ⟨c0,c1,c2⟩:=h6 i _ he
 obtain ⟨e0,e1,ha⟩:=h3 i _ _ he hi
 obtain ⟨q,cq,hs,_⟩:=ha.shape
 rw [e0] at c0
 rw [e1] at c1
 rw [hs] at c2 ha
 exact ⟨b,o,cap,q,_,cq,by rw [h1,h2],c0,c1,c2,ha⟩
def zv0:Value→Nat | .slice _ n _=>n | _=>0
def x98 (es:List (Int × Int × Value)):Bool:=es.all (fun e=>decide (zv0 e.2.2≤30)) && decide (es.length≤20)
theorem zp1.slice {lim:Nat} {e:Int × Int × Value} (h:zp1 lim W e):∃ p n c,e.2.2 = .slice p n c:=by
 obtain ⟨_,_,_,⟨q,n,cap,h,_⟩ | ⟨l,_,_,h⟩⟩:=h
 ·exact ⟨q,n,cap,h⟩
 ·obtain ⟨p,c,h,_⟩:=h.shape;exact ⟨p,_,c,h⟩
theorem wq7 {es:List (Int × Int × Value)} (hv:zp0 W v es) (hin:∀ e ∈ es,zp1 30 W e) (hf:x98 es=true) :
 ∃ V,zd5 W v V∧V.length≤20∧∀ x ∈ V,x.2.2.length≤30∧(0≤x.1∧x.1≤18446744073709551615):=by
 unfold x98 at hf
 rw [Bool.and_eq_true,List.all_eq_true] at hf
 have hl:es.length≤20:=by simpa using hf.2
 have each:∀ i,i<es.length→∃ x:Int × Int × List Iv,∀ e,es[i]? = some e→(e.1=x.1∧e.2.1=x.2.1∧zk0 W e.2.2 x.2.1 x.2.2)∧x.2.2.length≤30∧(0≤x.1∧x.1≤18446744073709551615):=by
  intro i hi
  have he:es[i]? = some es[i]:=by simp [hi]
  have hm:=List.getElem_mem hi
  obtain ⟨h0,h1,hs,hh⟩:=hin _ hm
  rcases hh with ⟨q,n,cap,hq,hn⟩ | ⟨l,hl',h64,hat⟩
  ·have h30:zv0 es[i].2.2≤30:=by simpa using hf.1 _ hm
   rw [hq] at h30
   have h31:n≤30:=h30
   omega
  ·refine ⟨(es[i].1,es[i].2.1,l),fun e he' => ?_⟩
   obtain rfl:=Option.some.inj (he.symm.trans he')
   exact ⟨⟨rfl,rfl,hat,h64,hs,h1.1,h1.2,Nat.le_trans hl' (by decide)⟩,hl',h0⟩
 obtain ⟨q,hq⟩:=Go.Deep.choose_lt each
 refine ⟨(List.range es.length).map q,⟨⟨es,hv,by simp,fun i e x he hx => ?_⟩,by simp;omega⟩,by simpa using hl,fun x hx => ?_⟩
 ·have hi:=(List.getElem?_eq_some_iff.1 he).1
  rw [List.getElem?_map,List.getElem?_range hi] at hx
  obtain rfl:=Option.some.inj hx
  exact (hq i hi e he).1
 ·obtain ⟨i,hi,rfl⟩:=List.mem_map.1 hx
  have hi:=List.mem_range.1 hi
  exact (hq i hi es[i] (by simp [hi])).2
set_option maxRecDepth 100000 in
set_option maxHeartbeats 2000000 in
theorem wq8 (v:Value) (es:List (Int × Int × Value)) (w:World) (hv:zp0 w v es) (hin:∀ e ∈ es,zp1 30 w e):Calls Tryz.prog 31 #[v] w (q8 (x98 es) w):=by
 obtain ⟨p,cap,rfl,hlen,hc⟩:=hv
 have HC:=qh hc;clear hc
 have HIN:=qh hin;clear hin
 have hml:es.length≤9223372036854775807:=by unfold maxLen at hlen;omega
 go_enter Tryz.func31,Tryz.ntmps31
 go_wp2_with fail
 go_loopw [3] (fun i wr=>∃ k:Nat,i = .int .i64 k∧k≤es.length∧(∀ j e,j<k→es[j]? = some e→zv0 e.2.2≤30)∧Below w.heap.size w wr) (fun i _=>es.length - (intOf i).toNat)
 case atStart=>exact ⟨0,rfl,Nat.zero_le _,fun j e hj=>absurd hj (Nat.not_lt_zero j),Below.refl _ _⟩
 case round =>
  obtain ⟨k,rfl,hk,hbef,hb⟩:=hrel
  have HBF:=qh hbef;clear hbef
  have HB:=qh hb;clear hb
  by_cases hlt:k<es.length
  ·have he:es[k]? = some es[k]:=by simp [hlt]
   obtain ⟨b,o,rfl,h6⟩:=HC.out (by intro e;rw [e] at hlt;simp at hlt)
   obtain ⟨_,_,c2⟩:=h6 k _ he
   obtain ⟨q,n,c,hs⟩:=(HIN.out _ (List.getElem_mem hlt)).slice
   replace c2:=z6 c2 HB.out
   rw [hs] at c2
   have HE:=qh (And.intro he hs);clear he h6 hs
   have i1:(0:Int)≤(k:Int):=by omega
   have i2:(k:Int)<(es.length:Int):=by omega
   by_cases hn:30<n
   ·have e1:decide ((30:Int)<(n:Int))=true:=by simp;omega
    have HZ:Hid (x98 es=false):=qh (by
     unfold x98
     rw [Bool.and_eq_false_iff]
     refine .inl ?_
     rw [List.all_eq_false]
     have h31:¬ zv0 es[k].2.2≤30:=by rw [HE.out.2];exact Nat.not_le.2 hn
     exact ⟨es[k],List.getElem_mem hlt,by simpa using h31⟩)
    go_wp2_with fail
    go_ret
    exact ⟨by rw [HZ.out];rfl,HB.out⟩
   ·have e1:decide ((30:Int)<(n:Int))=false:=by simp;omega
    have HN:=qh hn;clear hn
    go_wp2_with fail
    go_roundw
    case rel=>exact ⟨k+1,by go_num,by omega,fun j e hj hje=>by
     rcases Nat.lt_or_eq_of_le (Nat.le_of_lt_succ hj) with h | h
     ·exact HBF.out j e h hje
     ·subst h
      obtain rfl:=Option.some.inj (HE.out.1.symm.trans hje)
      rw [HE.out.2]
      exact Nat.le_of_not_lt HN.out,HB.out⟩
    case measure=>simp [intOf];omega
  ·obtain rfl:k=es.length:=by omega
   have hz:x98 es=decide (es.length≤20):=by
    unfold x98
    rw [show es.all (fun e=>decide (zv0 e.2.2≤30))=true from by
     rw [List.all_eq_true]
     intro e he
     obtain ⟨i,hi⟩:=List.mem_iff_getElem?.1 he
     simpa using HBF.out i e (List.getElem?_eq_some_iff.1 hi).1 hi]
    simp
   by_cases h20:es.length≤20
   ·rw [decide_eq_true h20] at hz
    have e1:decide ((es.length:Int)≤20)=true:=by simp;omega
    have HZ:=qh hz;clear hz
    go_wp2_with fail
    go_ret
    exact ⟨by rw [HZ.out];rfl,HB.out⟩
   ·rw [decide_eq_false h20] at hz
    have e1:decide ((es.length:Int)≤20)=false:=by simp;omega
    have HZ:=qh hz;clear hz
    go_wp2_with fail
    go_ret
    exact ⟨by rw [HZ.out];rfl,HB.out⟩
def ya1 (V:v6) (r:Int):Int:=match V.findIdx? (fun x=>decide (x.1=r)) with | some k=>(k:Int) | none => -1
theorem xk6 {x:Int × Int × List Iv} (hx:V[k]? = some x) (hr:x.1=r) (h:∀ j y,j<k→V[j]? = some y→y.1≠r):ya1 V r=(k:Int):=by
 unfold ya1
 have:V.findIdx? (fun x=>decide (x.1=r))=some k:=by grind [List.findIdx?_eq_some_iff_getElem,List.getElem?_eq_some_iff]
 rw [this]
theorem xk7 (h:∀ (j:Nat) y,V[j]? = some y→y.1≠r):ya1 V r = -1:=by grind [ya1,List.findIdx?_eq_none_iff,List.mem_iff_getElem?]
set_option maxRecDepth 100000 in
set_option maxHeartbeats 2000000 in
theorem yy6 (V:v6) (v:Value) (r:Int) (w:World) (hv:zd6 w v V):Calls Tryz.prog 98 #[v,.int .u64 r] w (zi6 (ya1 V r) w):=by
 obtain ⟨p,cap,rfl⟩:=hv.shape
 have hlen:=hv.len
 have HV:=qh hv;clear hv
 go_enter Tryz.func98,Tryz.ntmps98
 go_wp2_with fail
 go_loopw [5] (fun i wr=>∃ k:Nat,i = .int .i64 k∧k≤V.length∧(∀ j y,j<k→V[j]? = some y→y.1≠r)∧Below w.heap.size w wr) (fun i _=>V.length - (intOf i).toNat)
 case atStart=>exact ⟨0,rfl,Nat.zero_le _,fun j e hj=>absurd hj (Nat.not_lt_zero j),Below.refl _ _⟩
 case round =>
  obtain ⟨k,rfl,hk,hbef,hb⟩:=hrel
  have HBF:=qh hbef;clear hbef
  have HB:=qh hb;clear hb
  by_cases hlt:k<V.length
  ·obtain ⟨⟨x,m,H⟩,hx⟩:∃ x,V[k]? = some x:=⟨V[k],by simp [hlt]⟩
   obtain ⟨b,o,cap',q,n,c,e,c0,c1,c2,_⟩:=(HV.out.call HB.out).elem hx
   cases e
   have HX:=qh hx;clear hx c1 c2
   have i1:(0:Int)≤(k:Int):=by omega
   have i2:(k:Int)<(V.length:Int):=by omega
   by_cases hr:x=r
   ·have e1:(x == r)=true:=by simpa using hr
    have HZ:=qh (xk6 HX.out hr HBF.out)
    subst hr
    go_wp2_with fail
    go_ret
    exact ⟨by rw [HZ.out];rfl,HB.out⟩
   ·have e1:(x == r)=false:=by simpa using hr
    have HR:=qh hr;clear hr
    go_wp2_with fail
    go_roundw
    case rel=>exact ⟨k+1,by go_num,by omega,fun j y hj hy=>by
     rcases Nat.lt_or_eq_of_le (Nat.le_of_lt_succ hj) with h | h
     ·exact HBF.out j y h hy
     ·subst h
      obtain rfl:=Option.some.inj (HX.out.symm.trans hy)
      exact HR.out,HB.out⟩
    case measure=>simp [intOf];omega
  ·obtain rfl:k=V.length:=by omega
   have HZ:=qh (xk7 (V:=V) (r:=r) fun j y hy=>HBF.out j y (List.getElem?_eq_some_iff.1 hy).1 hy)
   go_wp2_with fail
   go_ret
   exact ⟨by rw [HZ.out];rfl,HB.out⟩
def zd7 (V:v6) (i:Nat):Int:=match V[i]? with
 | none=>0
 | some x=>if c5 (z18 x.2.1 x.2.2)≠0 then c5 (z18 x.2.1 x.2.2) else match i with
   | 0=>0
   | j+1=>match V[j]? with
     | none=>0
     | some y=>if x.1≤y.1 then 3 else 0
def z84 (V:v6):Option (Int × Nat):=(List.range V.length).findSome? fun i=>if zd7 V i=0 then none else some (zd7 V i,i)
theorem zr1 (h:∀ j,j<V.length→zd7 V j=0):z84 V=none:=by grind [z84,List.findSome?_eq_none_iff]
theorem zr2 (hk:k<V.length) (h:∀ j,j<k→zd7 V j=0) (hb:zd7 V k≠0):z84 V=some (zd7 V k,k):=by
 unfold z84
 obtain ⟨d,hd⟩:∃ d,V.length=k+(d+1):=⟨V.length - k - 1,by omega⟩
 rw [hd,List.range_add,List.findSome?_append]
 have h1:(List.range k).findSome? (fun i=>if zd7 V i=0 then none else some (zd7 V i,i))=none:=by grind
 grind [List.range_succ_eq_map]
def zk8 (V:v6):Int:=match z84 V with | some x=>x.1 | none=>0
def vAt (V:v6):Int:=match z84 V with | some x=>(x.2:Int) | none => -1
theorem y52 (hx:V[k]? = some (r,m,H)) (hc:c5 (z18 m H)≠0):zd7 V k=c5 (z18 m H):=by unfold zd7;rw [hx];simp only;rw [if_pos hc]
theorem zx5 (hx:V[0]? = some (r,m,H)) (hc:c5 (z18 m H)=0):zd7 V 0=0:=by unfold zd7;rw [hx];simp only;rw [if_neg (by simp [hc])]
theorem zu0 {j:Nat} {r' m':Int} {H':List Iv} (hx:V[j+1]? = some (r,m,H)) (hy:V[j]? = some (r',m',H')) (hc:c5 (z18 m H)=0):zd7 V (j+1)=if r≤r' then 3 else 0:=by grind [zd7]
set_option maxRecDepth 100000 in
set_option maxHeartbeats 4000000 in
theorem yo7 (V:v6) (v:Value) (w:World) (hv:zd5 w v V):Calls Tryz.prog 66 #[v] w (yz2 (zk8 V) (vAt V) w):=by
 obtain ⟨p,cap,rfl⟩:=hv.shape
 have hlen:=hv.len
 have HV:=qh hv;clear hv
 have KC:=qh yo2
 go_enter Tryz.func66,Tryz.ntmps66
 go_wp2_with fail
 go_loopw [4] (fun i wr=>∃ k:Nat,i = .int .i64 k∧k≤V.length∧(∀ j,j<k→zd7 V j=0)∧Below w.heap.size w wr) (fun i _=>V.length - (intOf i).toNat)
 case atStart=>exact ⟨0,rfl,Nat.zero_le _,fun j hj=>absurd hj (Nat.not_lt_zero j),Below.refl _ _⟩
 case round =>
  obtain ⟨k,rfl,hk,hbef,hb⟩:=hrel
  have HBF:=qh hbef;clear hbef
  have HB:=qh hb;clear hb
  by_cases hlt:k<V.length
  ·obtain ⟨⟨x,m,H⟩,hx⟩:∃ x,V[k]? = some x:=⟨V[k],by simp [hlt]⟩
   obtain ⟨b,o,cap',q,n,c,e,c0,c1,c2,ha⟩:=(HV.out.call HB.out).elem hx
   cases e
   have K:=qh (KC.out x m H (.slice q n c) wr ha.at' ha.all)
   have HX:=qh hx;clear hx ha
   have i1:(0:Int)≤(k:Int):=by omega
   have i2:(k:Int)<(V.length:Int):=by omega
   obtain ⟨cd,hcd⟩:∃ cd,c5 (z18 m H)=cd:=⟨_,rfl⟩
   obtain ⟨av,hav⟩:∃ av,(atE (z18 m H)).getD (-1)=av:=⟨_,rfl⟩
   rw [hcd,hav] at K
   have HCD:=qh hcd;clear hcd hav
   go_wp2_with fail
   refine K.out.mono ?_
   rintro e w1 ⟨rfl,h⟩
   have H1:=qh (z7 HB.out h)
   replace c0:=z6 c0 h
   clear h c1 c2
   by_cases h0:cd=0
   ·subst h0
    cases k with
    | zero =>
      have HZ:=qh (zx5 HX.out HCD.out)
      go_wp2_with fail
      go_quiet (fail)
      go_wp2_with fail
      go_roundw
      case rel=>exact ⟨1,by go_num,by omega,fun j hj=>by
       obtain rfl:j=0:=by omega
       exact HZ.out,below_drewN H1.out _⟩
      case measure=>simp [intOf];omega
    | succ j =>
      obtain ⟨⟨y,m',H'⟩,hy⟩:∃ y,V[j]? = some y:=⟨V[j],by simp [show j<V.length by omega]⟩
      obtain ⟨b',o',cap2,q',n',c',e',d0,_,_,_⟩:=(HV.out.call H1.out).elem hy
      cases e'
      have HZ:=qh (zu0 HX.out hy HCD.out)
      have hj0:(0:Int)≤(j:Int):=by omega
      have hj1:(j:Int)<(V.length:Int):=by omega
      have hj2:(0:Int)≤(j:Int)+1:=by omega
      have hj3:(j:Int)+1<(V.length:Int):=by omega
      have hj4:(0:Int)<(j:Int)+1:=by omega
      have hw1:IntKind.i64.wrap ((j:Int)+1 - 1)=(j:Int):=(IntWalk.i64_in _ (by omega)).trans (by omega)
      have hw2:IntKind.i64.wrap (j:Int)=(j:Int):=IntWalk.i64_in _ (by omega)
      have hw3:IntKind.i64.wrap (((j+1:Nat):Int) - 1)=(j:Int):=(IntWalk.i64_in _ (by omega)).trans (by omega)
      clear hy
      by_cases hle:x≤y
      ·have e1:decide (x≤y)=true:=by simpa using hle
       rw [if_pos hle] at HZ
       have HE:Hid (zk8 V=3∧vAt V=((j:Int)+1)):=qh (by
        have hs:=zr2 hlt HBF.out (by rw [HZ.out];decide)
        rw [HZ.out] at hs
        unfold zk8 vAt
        rw [hs]
        exact ⟨rfl,by simp⟩)
       clear hle
       go_wp2_with fail
       go_quiet (fail)
       go_wp2_with fail
       go_ret2
       exact ⟨by rw [HE.out.1,HE.out.2];rfl,below_drewN H1.out _⟩
      ·have e1:decide (x≤y)=false:=by simpa using hle
       rw [if_neg hle] at HZ
       clear hle
       go_wp2_with fail
       go_quiet (fail)
       go_wp2_with fail
       go_roundw
       case rel=>exact ⟨j+1+1,by go_num,by omega,fun i hi=>by
        rcases Nat.lt_or_eq_of_le (Nat.le_of_lt_succ hi) with h | h
        ·exact HBF.out i h
        ·rw [h];exact HZ.out,below_drewN H1.out _⟩
       case measure=>simp [intOf];omega
   ·have e1:(cd != 0)=true:=by simpa using h0
    have HE:Hid (zk8 V=cd∧vAt V=(k:Int)):=qh (by
     have hz:=y52 HX.out (by rw [HCD.out];exact h0)
     have hs:=zr2 hlt HBF.out (by rw [hz,HCD.out];exact h0)
     rw [hz,HCD.out] at hs
     unfold zk8 vAt
     rw [hs]
     exact ⟨rfl,rfl⟩)
    clear h0
    go_wp2_with fail
    go_ret2
    exact ⟨by rw [HE.out.1,HE.out.2];rfl,H1.out⟩
  ·obtain rfl:k=V.length:=by omega
   have HE:Hid (zk8 V=0∧vAt V = -1):=qh (by unfold zk8 vAt;rw [zr1 HBF.out];exact ⟨rfl,rfl⟩)
   go_wp2_with fail
   go_ret2
   exact ⟨by rw [HE.out.1,HE.out.2];rfl,HB.out⟩
def z31 (V:v6):Bool:=(z84 V).isNone
theorem yi7 {x:Int × Nat} (h:z84 V=some x):x.1≠0:=by
 unfold z84 at h
 obtain ⟨i,_,hi⟩:=List.exists_of_findSome?_eq_some h
 grind
def z27 (V:v6) (r c:Int):Bool:=match V.findIdx? (fun x=>decide (x.1=r)) with
 | none=>false
 | some k=>match V[k]? with
   | none=>false
   | some x=>yy2 x.2.1 x.2.2 c
def zx6 (V:v6):Bool:=V.all fun x=>okN x.2.1 x.2.2 && o5 x.2.1 x.2.2
set_option maxRecDepth 100000 in
set_option maxHeartbeats 4000000 in
theorem yy7 (V V':v6) (v v':Value) (w:World) (hv:zd6 w v V) (hv':zd6 w v' V'):Calls Tryz.prog 45 #[v,v'] w (q8 (decide (V=V')) w):=by
 obtain ⟨p,cap,rfl⟩:=hv.shape
 obtain ⟨p',cap',rfl⟩:=hv'.shape
 have hlen:=hv.len
 have hlen':=hv'.len
 by_cases hl:V.length=V'.length
 ·have HV:=qh hv;clear hv
  have HV':=qh hv';clear hv'
  have KS:=qh yx6
  obtain ⟨n9,hn9⟩:∃ n9,V.length=n9:=⟨_,rfl⟩
  rw [← hl,hn9]
  have HL:=qh hl;have HN:=qh hn9
  rw [hn9] at hlen
  clear hl hn9 hlen'
  go_enter Tryz.func45,Tryz.ntmps45
  go_wp2_with fail
  go_loopw [5] (fun i wr=>∃ k:Nat,i = .int .i64 k∧k≤n9∧(∀ j,j<k→V[j]? = V'[j]?)∧Below w.heap.size w wr) (fun i _=>n9 - (intOf i).toNat)
  case atStart=>exact ⟨0,rfl,Nat.zero_le _,fun j hj=>absurd hj (Nat.not_lt_zero j),Below.refl _ _⟩
  case round =>
   obtain ⟨k,rfl,hk,hbef,hb⟩:=hrel
   have HBF:=qh hbef;clear hbef
   have HB:=qh hb;clear hb
   by_cases hlt:k<n9
   ·obtain ⟨⟨x,m,H⟩,hx⟩:∃ x,V[k]? = some x:=⟨V[k]'(by rw [HN.out];exact hlt),by simp⟩
    obtain ⟨⟨x',m',H'⟩,hx'⟩:∃ x,V'[k]? = some x:=⟨V'[k]'(by rw [← HL.out,HN.out];exact hlt),by simp⟩
    obtain ⟨b,o,cp,q,n,c,e,c0,c1,c2,ha⟩:=(HV.out.call HB.out).elem hx
    obtain ⟨b',o',cp',q',n',c',e',d0,d1,d2,ha'⟩:=(HV'.out.call HB.out).elem hx'
    rw [HN.out] at e
    rw [← HL.out,HN.out] at e'
    cases e;cases e'
    have HX:=qh (And.intro hx hx');clear hx hx'
    have HA:=qh (And.intro ha ha');clear ha ha'
    have K:=qh (fun W h h'=>KS.out x m x' m' H H' (.slice q n c) (.slice q' n' c') W h h')
    have i1:(0:Int)≤(k:Int):=by omega
    have i2:(k:Int)<(n9:Int):=by omega
    obtain ⟨bb,hbb⟩:∃ bb,decide (x=x'∧m=m'∧H=H')=bb:=⟨_,rfl⟩
    rw [hbb] at K
    have HBB:=qh hbb;clear hbb
    have HS:=qh (yy0 ⟨Below.refl wr.heap.size wr,c0,c1,c2,d0,d1,d2⟩)
    go_wp2_with fail
    clear c0 c1 c2 d0 d1 d2
    go_region_held3 (fun w'=>Below wr.heap.size wr w'∧w'.cell? ⟨b,o+k*3,none⟩=some (.int .u64 x)∧w'.cell? ⟨b,o+k*3+1,none⟩=some (.int .u64 m)∧w'.cell? ⟨b,o+k*3+2,none⟩=some (.slice q n c)∧w'.cell? ⟨b',o'+k*3,none⟩=some (.int .u64 x')∧w'.cell? ⟨b',o'+k*3+1,none⟩=some (.int .u64 m')∧w'.cell? ⟨b',o'+k*3+2,none⟩=some (.slice q' n' c'))
     (first
       | exact yd6 (by assumption) (by assumption)
       | exact HS.out
       | exact yy0 (by assumption)
       | assumption)
     (first
       | (go_at_call 87;refine (K.out _ (HA.out.1.call (x79 (by assumption))) (HA.out.2.call (x79 (by assumption)))).mono ?_;rintro en w' ⟨rfl,h'⟩;have h':=qh h'))
    all_goals
     rename_i hE
     have HE:=qh (z7 HB.out hE.1)
     clear hE
     cases bb with
     | false =>
       have HZ:Hid (decide (V=V')=false):=qh (by
        rw [decide_eq_false_iff_not]
        intro e
        have h1:=HX.out.1
        rw [e,HX.out.2] at h1
        have h2:=HBB.out
        cases h1
        simp at h2)
       go_wp2_with fail
       go_ret
       exact ⟨by rw [HZ.out];rfl,HE.out⟩
     | true =>
       go_wp2_with fail
       go_roundw
       case rel=>exact ⟨k+1,by go_num,by omega,fun j hj=>by
        rcases Nat.lt_or_eq_of_le (Nat.le_of_lt_succ hj) with h | h
        ·exact HBF.out j h
        ·subst h
         have h2:=HBB.out
         simp at h2
         rw [HX.out.1,HX.out.2,h2.1,h2.2.1,h2.2.2],HE.out⟩
       case measure=>simp [intOf];omega
   ·obtain rfl:k=n9:=by omega
    have HZ:Hid (decide (V=V')=true):=qh (by
     rw [decide_eq_true_eq]
     refine List.ext_getElem? fun i => ?_
     by_cases hi:i<k
     ·exact HBF.out i hi
     ·rw [List.getElem?_eq_none_iff.2 (by rw [HN.out];omega),List.getElem?_eq_none_iff.2 (by rw [← HL.out,HN.out];omega)])
    go_wp2_with fail
    go_ret
    exact ⟨by rw [HZ.out];rfl,HB.out⟩
 ·have HZ:Hid (decide (V=V')=false):=qh (by rw [decide_eq_false_iff_not];intro e;exact hl (by rw [e]))
  have e1:((V.length:Int) != (V'.length:Int))=true:=by simp;omega
  clear hv hv' hl
  go_enter Tryz.func45,Tryz.ntmps45
  go_wp2_with fail
  go_ret
  exact ⟨by rw [HZ.out];rfl,Below.refl _ _⟩
def ivN (H:List Iv):List Int:=H.flatMap fun y => [y.1,y.2]
def zv1 (x:Int × Int × List Iv):List Int := [x.1,x.2.1,(x.2.2.length:Int)]++ivN x.2.2
def r3 (V:v6):List Int:=(V.length:Int) :: V.flatMap zv1
theorem zf7 {α:Type} {l:List α} {x:α} (h:l[k]? = some x):l.take (k+1)=l.take k ++ [x]:=by rw [List.take_add_one,h];rfl
theorem zi0 (H:List Iv):(ivN H).length=2*H.length:=by
 unfold ivN
 induction H with
 | nil=>rfl
 | cons y H ih=>rw [List.flatMap_cons,List.length_append,ih];simp;omega
theorem wf2 (x:Int × Int × List Iv):(zv1 x).length=3+2*x.2.2.length:=by unfold zv1;rw [List.length_append,zi0];rfl
theorem yi8:∀ (l:v6),(∀ x ∈ l,x.2.2.length≤5000)→(l.flatMap zv1).length≤l.length*10003
 | [],_=>by simp
 | x :: l,h=>by
   have h1:=yi8 l fun y hy=>h y (by simp [hy])
   grind [List.length_append,wf2,List.length_cons]
theorem yy8 (a b:List Int):e8 (a++b)=e8 a++e8 b:=by simp [e8]
theorem yi9 (w:World) (x y z:Value) (t:TypeId):∀ j u,[x,y,z][j]? = some u→(w.alloc (.cells #[x,y,z] t)).drew.cell? ((⟨w.heap.size,0,none⟩:Addr).add j)=some u:=by
 intro j u h
 refine z6 (w:=w.alloc (.cells #[x,y,z] t)) ?_ (Below.refl _ _).drew
 match j,h with
 | 0,h=>simp at h;subst h;simp [Addr.add]
 | 1,h=>simp at h;subst h;simp [Addr.add]
 | 2,h=>simp at h;subst h;simp [Addr.add]
 | j+3,h=>simp at h
theorem yo8 (w:World) (x y:Value) (t:TypeId):∀ j u,[x,y][j]? = some u→(w.alloc (.cells #[x,y] t)).drew.cell? ((⟨w.heap.size,0,none⟩:Addr).add j)=some u:=by
 intro j u h
 refine z6 (w:=w.alloc (.cells #[x,y] t)) ?_ (Below.refl _ _).drew
 match j,h with
 | 0,h=>simp at h;subst h;simp [Addr.add]
 | 1,h=>simp at h;subst h;simp [Addr.add]
 | j+2,h=>simp at h
theorem y53 {w1:World} {p q t:Addr} {a b c:Value} (h:∀ w',Below W.heap.size W w'→w'.cell? p=some a∧w'.cell? q=some b∧w'.cell? t=some c) (hb:Below W.heap.size W w1) :
 Below W.heap.size W w1∧w1.cell? p=some a∧w1.cell? q=some b∧w1.cell? t=some c:=⟨hb,h _ hb⟩
set_option maxRecDepth 100000 in
set_option maxHeartbeats 4000000 in
theorem zv5 (V:v6) (v:Value) (w:World) (hv:zd6 w v V) (h5:∀ x ∈ V,x.2.2.length≤5000):Calls Tryz.prog 121 #[v] w (zx9 (r3 V) w):=by
 obtain ⟨i0,hi',hz0,hz1,hz2⟩:=info_parts yl2
 obtain ⟨p,cap,rfl⟩:=hv.shape
 have hlen:=hv.len
 have HV:=qh hv;clear hv
 have HL5:=qh h5;clear h5
 have hwl:IntKind.u64.wrap (V.length:Int)=(V.length:Int):=IntWalk.u64_in _ (by omega)
 go_enter Tryz.func121,Tryz.ntmps121
 go_wp2_with fail
 obtain ⟨W0,hW0⟩:∃ W0,w.alloc (.cells #[.int .u64 (V.length:Int)] 36)=W0:=⟨_,rfl⟩
 have ho0:d7 W0 w.heap.size (.slice (some ⟨w.heap.size,0,none⟩) 1 1) [(V.length:Int)]:=by
  rw [← hW0]
  exact World.ownsRow_lit w #[.int .u64 (V.length:Int)] 1 (Nat.le_refl _) (by decide) rfl
 have HO0:=qh ho0;clear ho0
 have HB0:Hid (Below w.heap.size w W0):=qh (by rw [← hW0];exact z8 _ _)
 rw [hW0]
 clear hW0
 go_loopw [3,4] (fun vo i wr=>∃ k:Nat,i = .int .i64 k∧k≤V.length∧d7 wr w.heap.size vo ((V.length:Int) :: (V.take k).flatMap zv1)∧Below w.heap.size w wr) (fun _ i _=>V.length - (intOf i).toNat)
 case atStart=>exact ⟨0,rfl,Nat.zero_le _,HO0.out,HB0.out⟩
 case round =>
  obtain ⟨k,rfl,hk,hown,hb⟩:=hrel
  have HB:=qh hb;clear hb
  have hszw:=HB.out.size
  have hfl:=yi8 (V.take k) fun x hx=>HL5.out x (List.mem_of_mem_take hx)
  rw [List.length_take] at hfl
  obtain ⟨L,hL⟩:∃ L,(V.length:Int) :: (V.take k).flatMap zv1=L:=⟨_,rfl⟩
  have hLn:L.length≤1+100000*10003:=by rw [← hL,List.length_cons];have:min k V.length≤100000:=by omega
                                       omega
  have hLp:0<L.length:=by rw [← hL];simp
  rw [hL] at hown
  have HLE:=qh hL;clear hL hfl
  obtain ⟨q9,hq9⟩:∃ q9,L.length=q9+1:=⟨L.length - 1,by omega⟩
  have hrow:wr.ownsRow w.heap.size 36 1 _ L.length (e8 L):=hown
  rw [hq9] at hrow
  obtain ⟨g,cpo,rfl⟩:=ownsRow_succ hrow
  have HO:=qh hrow;clear hrow hown
  have HQ:=qh hq9
  rw [hq9] at hLn
  clear hq9 hLp
  by_cases hlt:k<V.length
  ·obtain ⟨⟨x,m,H⟩,hx⟩:∃ x,V[k]? = some x:=⟨V[k],by simp [hlt]⟩
   obtain ⟨b,o,cp,q,n,c,e,c0,c1,c2,ha⟩:=HV.out.elem hx
   cases e
   obtain ⟨_,_,es,_⟩:=ha.shape
   cases es
   have hHl:=HL5.out _ (List.mem_of_getElem? hx)
   dsimp only at hHl
   have KA:=qh (fun w' (h:Below w.heap.size w w')=>(⟨z6 c0 h,z6 c1 h,z6 c2 h⟩:w'.cell? ⟨b,o+k*3,none⟩=some (.int .u64 x)∧w'.cell? ⟨b,o+k*3+1,none⟩=some (.int .u64 m)∧w'.cell? ⟨b,o+k*3+2,none⟩=some (.slice q H.length c)))
   have HH:=qh ha
   have HX:=qh hx
   clear c0 c1 c2 ha hx
   have i1:(0:Int)≤(k:Int):=by omega
   have i2:(k:Int)<(V.length:Int):=by omega
   have hwn:IntKind.u64.wrap (H.length:Int)=(H.length:Int):=IntWalk.u64_in _ (by omega)
   obtain ⟨nh,hnh⟩:∃ nh,H.length=nh:=⟨_,rfl⟩
   rw [hnh] at KA HH hwn hHl
   have HNH:=qh hnh;clear hnh
   go_wp2_with fail
   go_region_held3 (fun w'=>Below w.heap.size w w'∧w'.cell? ⟨b,o+k*3,none⟩=some (.int .u64 x)∧w'.cell? ⟨b,o+k*3+1,none⟩=some (.int .u64 m)∧w'.cell? ⟨b,o+k*3+2,none⟩=some (.slice q nh c))
    (first
      | exact y53 KA.out HB.out.drew
      | exact y53 KA.out (HB.out.trans ((z8 _ _).drew.mono hszw))
      | exact y53 KA.out HG2.out
      | assumption)
    (first
      | ((refine q7 (by rfl) (.tmp 16) (.tmp 34) _ (by rfl) w.heap.size 36 i0 (.int .u64 0) 1 8 Tryz.underlying147 hi' hz0 hz1 hz2 rfl (by decide) (.slice (some ⟨g,0,none⟩) (q9+1) cpo) (q9+1) (e8 L) (by rfl) (y6 HO.out ((z8 _ _).drew)) ⟨wr.heap.size,0,none⟩ 3 3 [.int .u64 x,.int .u64 m,.int .u64 (nh:Int)] (by rfl) rfl (yi9 _ _ _ _ _) (by simp [Value.oneCell']) (by unfold maxLen;omega) (by omega) (Nat.le_trans hszw (z8 _ _).drew.size) ?_;intro v2 w2 hown2 hgrow2;have HG2:=qh (x8 (HB.out.trans ((z8 _ _).drew.mono hszw)) (y6 HO.out ((z8 _ _).drew)) hgrow2 (Nat.le_trans hszw (z8 _ _).drew.size));obtain ⟨g2,cp2,rfl⟩:=ownsRow_succ hown2;have HO2:=qh hown2;clear hown2 hgrow2)))
   rename_i hE
   clear hE
   have hst:d7 w2 w.heap.size (.slice (some ⟨g2,0,none⟩) (q9+3+1) cp2) (L ++ [x,m,(nh:Int)]++ivN (H.take 0)):=by
    have e1:(L ++ [x,m,(nh:Int)]++ivN (H.take 0)).length=q9+1+3:=by
     rw [List.take_zero,show ivN [] = [] from rfl,List.append_nil,List.length_append,HQ.out];rfl
    have e2:e8 (L ++ [x,m,(nh:Int)]++ivN (H.take 0))=e8 L ++ [.int .u64 x,.int .u64 m,.int .u64 (nh:Int)]:=by
     rw [List.take_zero,show ivN [] = [] from rfl,List.append_nil,yy8];rfl
    unfold d7
    rw [e1,e2]
    exact HO2.out
   have HST:=qh hst;clear hst HO HB hszw
   go_wp2_with fail
   go_loopw [3,5] (fun vi j wz=>∃ jn:Nat,j = .int .i64 jn∧jn≤nh∧d7 wz w.heap.size vi (L ++ [x,m,(nh:Int)]++ivN (H.take jn))∧Below w.heap.size w wz) (fun _ j _=>nh - (intOf j).toNat)
   case atStart=>exact ⟨0,rfl,Nat.zero_le _,HST.out,HG2.out⟩
   case round =>
    obtain ⟨jn,rfl,hjn,hownz,hbz⟩:=hrel
    have HBZ:=qh hbz;clear hbz
    have hszz:=HBZ.out.size
    obtain ⟨M,hM⟩:∃ M,L ++ [x,m,(nh:Int)]++ivN (H.take jn)=M:=⟨_,rfl⟩
    have hMl:M.length=(q9+3+2*jn)+1:=by
     rw [← hM,List.length_append,List.length_append,HQ.out,zi0,List.length_take,HNH.out,Nat.min_eq_left hjn]
     simp;omega
    rw [hM] at hownz
    have hrow:World.ownsRow _ w.heap.size 36 1 _ M.length (e8 M):=hownz
    rw [hMl] at hrow
    obtain ⟨p9,hp9⟩:∃ p9,q9+3+2*jn=p9:=⟨_,rfl⟩
    rw [hp9] at hrow
    obtain ⟨g3,cp3,rfl⟩:=ownsRow_succ hrow
    have HO3:=qh hrow
    have HM:=qh (And.intro hM (hMl.trans (by rw [hp9])))
    have hp9b:p9≤1000400000:=by omega
    clear hrow hownz hM hMl hp9
    have c2z:=(KA.out _ HBZ.out).2.2
    by_cases hjlt:jn<nh
    ·obtain ⟨⟨y1,y2⟩,hy⟩:∃ y,H[jn]? = some y:=⟨H[jn]'(by rw [HNH.out];exact hjlt),by simp⟩
     obtain ⟨bh,oh,ch,e,z0,z1⟩:=HH.out.elem hy
     rw [HNH.out] at e
     cases e
     dsimp only at z0 z1
     have KB:=qh (fun w' (h:Below w.heap.size w w')=>(⟨(KA.out w' h).2.2,z6 z0 h,z6 z1 h⟩:w'.cell? ⟨b,o+k*3+2,none⟩=some (.slice (some ⟨bh,oh,none⟩) nh c)∧w'.cell? ⟨bh,oh+jn*2,none⟩=some (.int .u64 y1)∧w'.cell? ⟨bh,oh+jn*2+1,none⟩=some (.int .u64 y2)))
     have HY:=qh hy
     clear z0 z1 hy
     have j1:(0:Int)≤(jn:Int):=by omega
     have j2:(jn:Int)<(nh:Int):=by omega
     obtain ⟨wz,hwz⟩:∃ wz:World,wz=wr:=⟨_,rfl⟩
     go_wp2_with fail
     clear c2z
     go_region_held3 (fun w'=>Below w.heap.size w w'∧w'.cell? ⟨b,o+k*3+2,none⟩=some (.slice (some ⟨bh,oh,none⟩) nh c)∧w'.cell? ⟨bh,oh+jn*2,none⟩=some (.int .u64 y1)∧w'.cell? ⟨bh,oh+jn*2+1,none⟩=some (.int .u64 y2))
      (first
        | exact y53 KB.out HBZ.out.drew
        | exact y53 KB.out (HBZ.out.trans ((z8 _ _).drew.mono hszz))
        | exact y53 KB.out HG4.out
        | assumption)
      (first
        | ((refine q7 (by rfl) (.tmp 46) (.tmp 65) _ (by rfl) w.heap.size 36 i0 (.int .u64 0) 1 8 Tryz.underlying147 hi' hz0 hz1 hz2 rfl (by decide) (.slice (some ⟨g3,0,none⟩) (p9+1) cp3) (p9+1) (e8 M) (by rfl) (y6 HO3.out ((z8 _ _).drew)) ⟨wr.heap.size,0,none⟩ 2 2 [.int .u64 y1,.int .u64 y2] (by rfl) rfl (yo8 _ _ _ _) (by simp [Value.oneCell']) (by unfold maxLen;omega) (by omega) (Nat.le_trans hszz (z8 _ _).drew.size) ?_;intro v4 w4 hown4 hgrow4;have HG4:=qh (x8 (HBZ.out.trans ((z8 _ _).drew.mono hszz)) (y6 HO3.out ((z8 _ _).drew)) hgrow4 (Nat.le_trans hszz (z8 _ _).drew.size));obtain ⟨g4,cp4,rfl⟩:=ownsRow_succ hown4;have HO4:=qh hown4;clear hown4 hgrow4)))
     rename_i hE
     clear hE hwz wz
     have hst4:d7 w4 w.heap.size (.slice (some ⟨g4,0,none⟩) (p9+2+1) cp4) (L ++ [x,m,(nh:Int)]++ivN (H.take (jn+1))):=by
      have e0:L ++ [x,m,(nh:Int)]++ivN (H.take (jn+1))=M ++ [y1,y2]:=by
       rw [zf7 HY.out,← HM.out.1]
       unfold ivN
       rw [List.flatMap_append,← List.append_assoc]
       rfl
      unfold d7
      rw [e0,List.length_append,HM.out.2,yy8]
      exact HO4.out
     have HST4:=qh hst4;clear hst4
     go_wp2_with fail
     go_roundw
     case rel=>exact ⟨jn+1,by go_num,by omega,HST4.out,HG4.out⟩
     case measure=>simp [intOf];omega
    ·obtain rfl:jn=nh:=by omega
     have hfin:L++zv1 (x,m,H)=M:=by
      rw [← HM.out.1,List.take_of_length_le (by rw [HNH.out];exact Nat.le_refl _),List.append_assoc]
      unfold zv1
      rw [HNH.out]
     have HFIN:=qh hfin;clear hfin
     go_wp2_with fail
     go_roundw
     case rel =>
      refine ⟨k+1,by go_num,by omega,?_,HBZ.out⟩
      have e0:(V.length:Int) :: (V.take (k+1)).flatMap zv1=M:=by
       rw [zf7 HX.out,List.flatMap_append,← List.cons_append,HLE.out,← HFIN.out]
       simp
      unfold d7
      rw [e0,HM.out.2]
      exact HO3.out
     case measure=>simp [intOf];omega
  ·obtain rfl:k=V.length:=by omega
   go_wp2_with fail
   go_ret
   refine ⟨_,rfl,?_,HB.out⟩
   have h1:=HLE.out
   rw [List.take_of_length_le (Nat.le_refl _)] at h1
   show wr.ownsRow w.heap.size 36 1 _ (r3 V).length (e8 (r3 V))
   unfold r3
   rw [h1,HQ.out]
   exact HO.out
def g9:List Int→List Int→Int
 | [],[]=>0
 | [],_ :: _ => -1
 | _ :: _,[]=>1
 | x :: a,y :: b=>if x<y then -1 else if y<x then 1 else g9 a b
theorem y54:∀ (k:Nat) (A B:List Int),k≤A.length→k≤B.length→(∀ j,j<k→A[j]? = B[j]?)→g9 A B=g9 (A.drop k) (B.drop k)
 | 0,_,_,_,_,_=>rfl
 | k+1,x :: a,y :: b,ha,hb,h=>by
   have h0:x=y:=by simpa using h 0 (by omega)
   subst h0
   rw [List.drop_succ_cons,List.drop_succ_cons,← y54 k a b (by simpa using ha) (by simpa using hb) fun j hj=>by simpa using h (j+1) (by omega)]
   grind [g9]
 | k+1,[],_,ha,_,_=>by simp at ha
 | k+1,_ :: _,[],_,hb,_=>by simp at hb
theorem wq9 {y:Int} (hx:A[k]? = some x) (hy:B[k]? = some y) (h:∀ j,j<k→A[j]? = B[j]?):g9 A B=if x<y then -1 else if y<x then 1 else g9 (A.drop (k+1)) (B.drop (k+1)):=by
 obtain ⟨hka,ea⟩:=List.getElem?_eq_some_iff.1 hx
 obtain ⟨hkb,eb⟩:=List.getElem?_eq_some_iff.1 hy
 rw [y54 k A B (by omega) (by omega) h,List.drop_eq_getElem_cons hka,List.drop_eq_getElem_cons hkb,ea,eb]
 rfl
theorem wf3 (hk:k=A.length∨k=B.length) (ha:k≤A.length) (hb:k≤B.length) (h:∀ j,j<k→A[j]? = B[j]?):g9 A B=if A.length<B.length then -1 else if B.length<A.length then 1 else 0:=by
 rw [y54 k A B ha hb h]
 have la:(A.drop k).length=A.length - k:=List.length_drop
 have lb:(B.drop k).length=B.length - k:=List.length_drop
 match hA:A.drop k,hB:B.drop k with
 | [],[] =>
   rw [hA] at la;rw [hB] at lb
   simp at la lb
   rw [if_neg (by omega),if_neg (by omega)];rfl
 | [],y :: b =>
   rw [hA] at la;rw [hB] at lb
   simp at la lb
   rw [if_pos (by omega)];rfl
 | x :: a,[] =>
   rw [hA] at la;rw [hB] at lb
   simp at la lb
   rw [if_neg (by omega),if_pos (by omega)];rfl
 | x :: a,y :: b =>
   grind
theorem x99 (hv:zd6 w v V) (h5:∀ x ∈ V,x.2.2.length≤5000):0<(r3 V).length∧(r3 V).length≤1000300001:=by
 have h:=yi8 V h5
 have:=hv.len
 unfold r3
 rw [List.length_cons]
 omega
theorem xs9 {L:List Int} {i:Nat} (h:L[i]? = some x):(e8 L)[i]? = some (.int .u64 x):=by unfold e8;rw [List.getElem?_map,h];rfl
set_option maxRecDepth 100000 in
set_option maxHeartbeats 4000000 in
theorem zv6 (V V':v6) (v v':Value) (w:World) (hv:zd6 w v V) (hv':zd6 w v' V') (h5:∀ x ∈ V,x.2.2.length≤5000) (h5':∀ x ∈ V',x.2.2.length≤5000):Calls Tryz.prog 69 #[v,v'] w (zi6 (g9 (r3 V) (r3 V')) w):=by
 obtain ⟨p,cap,rfl⟩:=hv.shape
 obtain ⟨p',cap',rfl⟩:=hv'.shape
 have hl:=x99 hv h5
 have hl':=x99 hv' h5'
 have K:=qh (zv5 V _ w hv h5)
 have K':=qh (fun W hb=>zv5 V' _ W (hv'.call (w':=W) hb) h5')
 clear hv hv' h5 h5'
 obtain ⟨A,hA⟩:∃ A,r3 V=A:=⟨_,rfl⟩
 obtain ⟨B,hB⟩:∃ B,r3 V'=B:=⟨_,rfl⟩
 rw [hA] at hl K ⊢
 rw [hB] at hl' K' ⊢
 clear hA hB
 obtain ⟨na,hna⟩:∃ na,A.length=na+1:=⟨A.length - 1,by omega⟩
 obtain ⟨nb,hnb⟩:∃ nb,B.length=nb+1:=⟨B.length - 1,by omega⟩
 have ha9:na≤1000300001:=by omega
 have hb9:nb≤1000300001:=by omega
 have HNA:=qh hna;have HNB:=qh hnb
 clear hl hl' hna hnb
 go_enter Tryz.func69,Tryz.ntmps69
 go_wp2_with fail
 refine K.out.mono ?_
 rintro e w1 ⟨va,rfl,hoa,h⟩
 have hra:w1.ownsRow w.heap.size 36 1 va A.length (e8 A):=hoa
 rw [HNA.out] at hra
 obtain ⟨ga,ca,rfl⟩:=ownsRow_succ hra
 have HK':=qh (K'.out w1 h)
 have HRA:=qh hra
 have H1:=qh h;clear h hoa hra K'
 go_wp2_with fail
 refine HK'.out.mono ?_
 rintro e w2 ⟨vb,rfl,hob,h⟩
 have hrb:w2.ownsRow w1.heap.size 36 1 vb B.length (e8 B):=hob
 rw [HNB.out] at hrb
 obtain ⟨gb,cb,rfl⟩:=ownsRow_succ hrb
 have HRB:=qh hrb
 have HRA2:=qh (y6 HRA.out h)
 have H2:=qh (z7 H1.out h);clear h hob hrb HRA H1
 go_wp2_with fail
 go_loopw [7] (fun i wr=>∃ k:Nat,i = .int .i64 k∧k≤na+1∧k≤nb+1∧(∀ j,j<k→A[j]? = B[j]?)∧Below w2.heap.size w2 wr) (fun i _=>na+1 - (intOf i).toNat)
 case atStart=>exact ⟨0,rfl,Nat.zero_le _,Nat.zero_le _,fun j hj=>absurd hj (Nat.not_lt_zero j),Below.refl _ _⟩
 case round =>
  obtain ⟨k,rfl,hka,hkb,hbef,hb⟩:=hrel
  have HBF:=qh hbef;clear hbef
  have HB:=qh (z7 H2.out hb)
  have hRA:=y6 HRA2.out hb
  have hRB:=y6 HRB.out hb
  have HBW:=qh hb;clear hb
  have i1:(0:Int)≤(k:Int):=by omega
  by_cases hlt:k<na+1∧k<nb+1
  ·have i2:(k:Int)<(na:Int)+1:=by omega
   have i3:(k:Int)<(nb:Int)+1:=by omega
   have i4:k<na+1:=hlt.1
   have i5:k<nb+1:=hlt.2
   obtain ⟨x,hx⟩:∃ x,A[k]? = some x:=⟨A[k]'(by rw [HNA.out];exact hlt.1),by simp⟩
   obtain ⟨y,hy⟩:∃ y,B[k]? = some y:=⟨B[k]'(by rw [HNB.out];exact hlt.2),by simp⟩
   have cx:World.cell? wr ⟨ga,k,none⟩=some (.int .u64 x):=by rw [hRA.cellAt k (by omega)];exact xs9 hx
   have cy:World.cell? wr ⟨gb,k,none⟩=some (.int .u64 y):=by rw [hRB.cellAt k (by omega)];exact xs9 hy
   have HC:=qh (wq9 hx hy HBF.out)
   have HXY:=qh (And.intro hx hy)
   clear hx hy hRA hRB hlt
   by_cases h1:x<y
   ·have e1:decide (x<y)=true:=by simpa using h1
    rw [if_pos h1] at HC
    clear h1
    go_wp2_with fail
    go_quiet (fail)
    go_wp2_with fail
    go_ret
    exact ⟨by rw [HC.out];rfl,below_drewN HB.out _⟩
   ·have e1:decide (x<y)=false:=by simpa using h1
    rw [if_neg h1] at HC
    by_cases h2:y<x
    ·have e2:decide (y<x)=true:=by simpa using h2
     rw [if_pos h2] at HC
     clear h1 h2
     go_wp2_with fail
     go_quiet (fail)
     go_wp2_with fail
     go_quiet (fail)
     go_wp2_with fail
     go_ret
     exact ⟨by rw [HC.out];rfl,by first | exact below_drewN HB.out _ | exact below_drewN (below_drewN HB.out _) _⟩
    ·have e2:decide (y<x)=false:=by simpa using h2
     have hxy:x=y:=by omega
     have HE:=qh hxy
     clear h1 h2 hxy HC
     go_wp2_with fail
     go_quiet (fail)
     go_wp2_with fail
     go_quiet (fail)
     go_wp2_with fail
     go_roundw
     case rel=>exact ⟨k+1,by go_num,by omega,by omega,fun j hj=>by
      rcases Nat.lt_or_eq_of_le (Nat.le_of_lt_succ hj) with h | h
      ·exact HBF.out j h
      ·subst h
       rw [HXY.out.1,HXY.out.2,HE.out],below_drewN HBW.out _⟩
     case measure=>simp [intOf];omega
  ·have HC:=qh (wf3 (A:=A) (B:=B) (k:=k) (by rw [HNA.out,HNB.out];omega) (by rw [HNA.out];exact hka) (by rw [HNB.out];exact hkb) HBF.out)
   rw [HNA.out,HNB.out] at HC
   clear hRA hRB
   have d1:(k:Int)<(na:Int)+1∨¬ (k:Int)<(na:Int)+1:=by omega
   rcases d1 with d1 | d1
   ·have d2:¬ (k:Int)<(nb:Int)+1:=by omega
    have f1:¬ (na:Int)+1<(nb:Int)+1:=by omega
    have f2:(nb:Int)+1<(na:Int)+1:=by omega
    rw [if_neg (by omega),if_pos (by omega)] at HC
    go_wp2_with fail
    go_ret
    exact ⟨by rw [HC.out];rfl,HB.out⟩
   ·by_cases f1:(na:Int)+1<(nb:Int)+1
    ·rw [if_pos (by omega)] at HC
     go_wp2_with fail
     go_ret
     exact ⟨by rw [HC.out];rfl,HB.out⟩
    ·have f2:¬ (nb:Int)+1<(na:Int)+1:=by omega
     rw [if_neg (by omega),if_neg (by omega)] at HC
     go_wp2_with fail
     go_ret
     exact ⟨by rw [HC.out];rfl,HB.out⟩
end
section
open Go.RowKit Go.ChangeShapes Go.WideShapes Go.Deep
def zr3 (W:World) (v:Value) (fs:List (Value × Value)):Prop:=
 ∃ p cap,v = .slice p fs.length cap∧fs.length≤maxLen∧(fs ≠ []→∃ b o,p=some ⟨b,o,none⟩∧∀ i f,fs[i]? = some f →
  W.cell? ⟨b,o+i*2,none⟩=some f.1∧W.cell? ⟨b,o+i*2+1,none⟩=some f.2)
theorem zr3.call {w w':World} {v:Value} {fs:List (Value × Value)} (h:zr3 w v fs) (hb:Below w.heap.size w w'):zr3 w' v fs:=by
 obtain ⟨p,cap,h1,h2,h3⟩:=h
 refine ⟨p,cap,h1,h2,fun hne => ?_⟩
 obtain ⟨b,o,h5,h6⟩:=h3 hne
 exact ⟨b,o,h5,fun i e hi=>⟨z6 (h6 i e hi).1 hb,z6 (h6 i e hi).2 hb⟩⟩
structure zf8 (lim:Nat) (W:World) (f:Value × Value):Prop where
 sane1:z02 f.1
 items:zt9 lim W f.1
 sane2:z02 f.2
 vec:∃ es,zp0 W f.2 es∧∀ e ∈ es,zp1 lim W e
section
variable {H:Type} {enc:TypeId × Value→H}
def y55 (W:World) (v:Value):Prop:=z02 v∧∃ fs,zr3 W v fs∧∀ f ∈ fs,zf8 30 W f
end
end
end Go.Proofs.YtchndljcahjldaaGreatDoor
