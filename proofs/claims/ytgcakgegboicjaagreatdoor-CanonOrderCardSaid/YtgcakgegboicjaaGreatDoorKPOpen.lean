/- A slice of intervals by its cells; a vector that came in: its entries in memory, however many, each with its holes. -/
import Derived.Test.YtgcakgegboicjaaGreatDoorKNRef
import Derived.Deep.SlicePairs
import Derived.OpenShut
namespace Go.Proofs.YtgcakgegboicjaaGreatDoor
section
open Go.RowKit Go.ChangeShapes Go.WideShapes Go.Deep
def VecAt (W:World) (v:Value) (es:List (Int × Int × Value)):Prop:=
 ∃ p cap,v = .slice p es.length cap∧es.length≤maxLen∧(es ≠ []→∃ b o,p=some ⟨b,o,none⟩∧∀ i e,es[i]? = some e →
  W.cell? ⟨b,o+i*3,none⟩=some (.int .u64 e.1)∧W.cell? ⟨b,o+i*3+1,none⟩=some (.int .u64 e.2.1)∧W.cell? ⟨b,o+i*3+2,none⟩=some e.2.2)
theorem VecAt.call {w w':World} {v:Value} {es:List (Int × Int × Value)} (h:VecAt w v es) (hb:Below w.heap.size w w'):VecAt w' v es:=by
 obtain ⟨p,cap,h1,h2,h3⟩:=h
 refine ⟨p,cap,h1,h2,fun hne => ?_⟩
 obtain ⟨b,o,h5,h6⟩:=h3 hne
 exact ⟨b,o,h5,fun i e hi=>⟨keep_cell (h6 i e hi).1 hb,keep_cell (h6 i e hi).2.1 hb,keep_cell (h6 i e hi).2.2 hb⟩⟩
def HolesAt (lim:Nat) (W:World) (s:Value):Prop:=(∃ q n cap,s = .slice q n cap∧lim<n)∨∃ l,l.length≤lim∧All64 l∧IvsAt W s l
def EntIn (lim:Nat) (W:World) (e:Int × Int × Value):Prop:=(0≤e.1∧e.1≤18446744073709551615)∧(0≤e.2.1∧e.2.1≤18446744073709551615)∧SaneE e.2.2∧HolesAt lim W e.2.2
end
section
open Go.RowKit
structure VecM (W:World) (v:Value) (V:VcT):Prop where
 sh:∃ es,VecAt W v es∧es.length=V.length∧∀ (i:Nat) (e:Int × Int × Value) (x:Int × Int × List Iv),es[i]? = some e→V[i]? = some x→e.1=x.1∧e.2.1=x.2.1∧AnyAt W e.2.2 x.2.1 x.2.2
 len:V.length≤100000
theorem VecM.call {w w':World} {v:Value} {V:VcT} (h:VecM w v V) (hb:Below w.heap.size w w'):VecM w' v V:=by
 obtain ⟨⟨es,h1,h2,h3⟩,h4⟩:=h
 exact ⟨⟨es,h1.call hb,h2,fun i e x he hx=>⟨(h3 i e x he hx).1,(h3 i e x he hx).2.1,(h3 i e x he hx).2.2.call hb⟩⟩,h4⟩
theorem VecM.shape {w:World} {v:Value} {V:VcT} (h:VecM w v V):∃ p cap,v = .slice p V.length cap:=by
 obtain ⟨⟨es,⟨p,cap,h1,_⟩,h2,_⟩,_⟩:=h
 exact ⟨p,cap,by rw [h1,h2]⟩
theorem VecM.elem {w:World} {v:Value} {V:VcT} (h:VecM w v V) {i:Nat} {r m:Int} {H:List Iv} (hi:V[i]? = some (r,m,H)) :
 ∃ b o cap p n c,v = .slice (some ⟨b,o,none⟩) V.length cap∧w.cell? ⟨b,o+i*3,none⟩=some (.int .u64 r)∧w.cell? ⟨b,o+i*3+1,none⟩=some (.int .u64 m)∧w.cell? ⟨b,o+i*3+2,none⟩=some (.slice p n c)∧AnyAt w (.slice p n c) m H:=by
 obtain ⟨⟨es,⟨p,cap,h1,_,h5⟩,h2,h3⟩,h4⟩:=h
 have hlt:i<V.length:=(List.getElem?_eq_some_iff.1 hi).1
 have he:es[i]? = some es[i]:=by simp [show i<es.length by omega]
 obtain ⟨b,o,rfl,h6⟩:=h5 (by intro e;rw [e] at h2;simp at h2;omega)
 obtain ⟨c0,c1,c2⟩:=h6 i _ he
 obtain ⟨e0,e1,ha⟩:=h3 i _ _ he hi
 obtain ⟨q,cq,hs,_⟩:=ha.at'.shape
 rw [e0] at c0
 rw [e1] at c1
 rw [hs] at c2 ha
 exact ⟨b,o,cap,q,_,cq,by rw [h1,h2],c0,c1,c2,ha⟩
structure VecI (W:World) (v:Value) (V:VcT):Prop where
 sh:∃ es,VecAt W v es∧es.length=V.length∧∀ (i:Nat) (e:Int × Int × Value) (x:Int × Int × List Iv),es[i]? = some e→V[i]? = some x→e.1=x.1∧e.2.1=x.2.1∧IvsAt W e.2.2 x.2.2
 len:V.length≤100000
theorem VecM.i {w:World} {v:Value} {V:VcT} (h:VecM w v V):VecI w v V:=by
 obtain ⟨⟨es,h1,h2,h3⟩,h4⟩:=h
 exact ⟨⟨es,h1,h2,fun i e x he hx=>⟨(h3 i e x he hx).1,(h3 i e x he hx).2.1,(h3 i e x he hx).2.2.at'⟩⟩,h4⟩
theorem VecI.call {w w':World} {v:Value} {V:VcT} (h:VecI w v V) (hb:Below w.heap.size w w'):VecI w' v V:=by
 obtain ⟨⟨es,h1,h2,h3⟩,h4⟩:=h
 exact ⟨⟨es,h1.call hb,h2,fun i e x he hx=>⟨(h3 i e x he hx).1,(h3 i e x he hx).2.1,(h3 i e x he hx).2.2.call hb⟩⟩,h4⟩
theorem VecI.shape {w:World} {v:Value} {V:VcT} (h:VecI w v V):∃ p cap,v = .slice p V.length cap:=by
 obtain ⟨⟨es,⟨p,cap,h1,_⟩,h2,_⟩,_⟩:=h
 exact ⟨p,cap,by rw [h1,h2]⟩
theorem VecI.elem {w:World} {v:Value} {V:VcT} (h:VecI w v V) {i:Nat} {r m:Int} {H:List Iv} (hi:V[i]? = some (r,m,H)) :
 ∃ b o cap p n c,v = .slice (some ⟨b,o,none⟩) V.length cap∧w.cell? ⟨b,o+i*3,none⟩=some (.int .u64 r)∧w.cell? ⟨b,o+i*3+1,none⟩=some (.int .u64 m)∧w.cell? ⟨b,o+i*3+2,none⟩=some (.slice p n c)∧IvsAt w (.slice p n c) H:=by
 obtain ⟨⟨es,⟨p,cap,h1,_,h5⟩,h2,h3⟩,h4⟩:=h
 have hlt:i<V.length:=(List.getElem?_eq_some_iff.1 hi).1
 have he:es[i]? = some es[i]:=by simp [show i<es.length by omega]
 obtain ⟨b,o,rfl,h6⟩:=h5 (by intro e;rw [e] at h2;simp at h2;omega)
 obtain ⟨c0,c1,c2⟩:=h6 i _ he
 obtain ⟨e0,e1,ha⟩:=h3 i _ _ he hi
 obtain ⟨q,cq,hs,_⟩:=ha.shape
 rw [e0] at c0
 rw [e1] at c1
 rw [hs] at c2 ha
 exact ⟨b,o,cap,q,_,cq,by rw [h1,h2],c0,c1,c2,ha⟩
def lenS:Value→Nat | .slice _ n _=>n | _=>0
def fewB (es:List (Int × Int × Value)):Bool:=es.all (fun e=>decide (lenS e.2.2≤30)) && decide (es.length≤20)
theorem EntIn.slice {lim:Nat} {W:World} {e:Int × Int × Value} (h:EntIn lim W e):∃ p n c,e.2.2 = .slice p n c:=by
 obtain ⟨_,_,_,⟨q,n,cap,h,_⟩ | ⟨l,_,_,h⟩⟩:=h
 ·exact ⟨q,n,cap,h⟩
 ·obtain ⟨p,c,h,_⟩:=h.shape;exact ⟨p,_,c,h⟩
theorem few_vec {W:World} {v:Value} {es:List (Int × Int × Value)} (hv:VecAt W v es) (hin:∀ e ∈ es,EntIn 30 W e) (hf:fewB es=true) :
 ∃ V,VecM W v V∧V.length≤20∧∀ x ∈ V,x.2.2.length≤30∧(0≤x.1∧x.1≤18446744073709551615):=by
 unfold fewB at hf
 rw [Bool.and_eq_true,List.all_eq_true] at hf
 have hl:es.length≤20:=by simpa using hf.2
 have each:∀ i,i<es.length→∃ x:Int × Int × List Iv,∀ e,es[i]? = some e→(e.1=x.1∧e.2.1=x.2.1∧AnyAt W e.2.2 x.2.1 x.2.2)∧x.2.2.length≤30∧(0≤x.1∧x.1≤18446744073709551615):=by
  intro i hi
  have he:es[i]? = some es[i]:=by simp [hi]
  have hm:=List.getElem_mem hi
  obtain ⟨h0,h1,hs,hh⟩:=hin _ hm
  rcases hh with ⟨q,n,cap,hq,hn⟩ | ⟨l,hl',h64,hat⟩
  ·have h30:lenS es[i].2.2≤30:=by simpa using hf.1 _ hm
   rw [hq] at h30
   have h31:n≤30:=h30
   omega
  ·refine ⟨(es[i].1,es[i].2.1,l),fun e he' => ?_⟩
   obtain rfl:=Option.some.inj (he.symm.trans he')
   exact ⟨⟨rfl,rfl,hat,h64,hs,h1.1,h1.2,Nat.le_trans hl' (by decide)⟩,hl',h0⟩
 obtain ⟨q,hq⟩:=Go.Deep.choose_lt each
 refine ⟨(List.range es.length).map q,⟨⟨es,hv,by simp,fun i e x he hx => ?_⟩,by simp;omega⟩,by simpa using hl,fun x hx => ?_⟩
 ·have hi:=(List.getElem?_eq_some_iff.1 he).1
  rw [List.getElem?_map,List.getElem?_range hi] at hx
  obtain rfl:=Option.some.inj hx
  exact (hq i hi e he).1
 ·obtain ⟨i,hi,rfl⟩:=List.mem_map.1 hx
  have hi:=List.mem_range.1 hi
  exact (hq i hi es[i] (by simp [hi])).2
set_option maxRecDepth 100000 in
set_option maxHeartbeats 2000000 in
theorem few_any (v:Value) (es:List (Int × Int × Value)) (w:World) (hv:VecAt w v es) (hin:∀ e ∈ es,EntIn 30 w e):Calls Tryz.prog 37 #[v] w (IsEnd (fewB es) w):=by
 obtain ⟨p,cap,rfl,hlen,hc⟩:=hv
 have HC:=qh hc;clear hc
 have HIN:=qh hin;clear hin
 have hml:es.length≤9223372036854775807:=by unfold maxLen at hlen;omega
 go_enter Tryz.func37,Tryz.ntmps37
 go_wp2_with fail
 go_loopw [3] (fun i wr=>∃ k:Nat,i = .int .i64 k∧k≤es.length∧(∀ j e,j<k→es[j]? = some e→lenS e.2.2≤30)∧Below w.heap.size w wr) (fun i _=>es.length - (intOf i).toNat)
 case atStart=>exact ⟨0,rfl,Nat.zero_le _,fun j e hj=>absurd hj (Nat.not_lt_zero j),Below.refl _ _⟩
 case round =>
  obtain ⟨k,rfl,hk,hbef,hb⟩:=hrel
  have HBF:=qh hbef;clear hbef
  have HB:=qh hb;clear hb
  by_cases hlt:k<es.length
  ·have he:es[k]? = some es[k]:=by simp [hlt]
   obtain ⟨b,o,rfl,h6⟩:=HC.out (by intro e;rw [e] at hlt;simp at hlt)
   obtain ⟨_,_,c2⟩:=h6 k _ he
   obtain ⟨q,n,c,hs⟩:=(HIN.out _ (List.getElem_mem hlt)).slice
   replace c2:=keep_cell c2 HB.out
   rw [hs] at c2
   have HE:=qh (And.intro he hs);clear he h6 hs
   have i1:(0:Int)≤(k:Int):=by omega
   have i2:(k:Int)<(es.length:Int):=by omega
   by_cases hn:30<n
   ·have e1:decide ((30:Int)<(n:Int))=true:=by simp;omega
    have HZ:Hid (fewB es=false):=qh (by
     unfold fewB
     rw [Bool.and_eq_false_iff]
     refine .inl ?_
     rw [List.all_eq_false]
     have h31:¬ lenS es[k].2.2≤30:=by rw [HE.out.2];exact Nat.not_le.2 hn
     exact ⟨es[k],List.getElem_mem hlt,by simpa using h31⟩)
    go_wp2_with fail
    go_ret
    exact ⟨by rw [HZ.out];rfl,HB.out⟩
   ·have e1:decide ((30:Int)<(n:Int))=false:=by simp;omega
    have HN:=qh hn;clear hn
    go_wp2_with fail
    go_roundw
    case rel=>exact ⟨k+1,by go_num,by omega,fun j e hj hje=>by
     rcases Nat.lt_or_eq_of_le (Nat.le_of_lt_succ hj) with h | h
     ·exact HBF.out j e h hje
     ·subst h
      obtain rfl:=Option.some.inj (HE.out.1.symm.trans hje)
      rw [HE.out.2]
      exact Nat.le_of_not_lt HN.out,HB.out⟩
    case measure=>simp [intOf];omega
  ·obtain rfl:k=es.length:=by omega
   have hz:fewB es=decide (es.length≤20):=by
    unfold fewB
    rw [show es.all (fun e=>decide (lenS e.2.2≤30))=true from by
     rw [List.all_eq_true]
     intro e he
     obtain ⟨i,hi⟩:=List.mem_iff_getElem?.1 he
     simpa using HBF.out i e (List.getElem?_eq_some_iff.1 hi).1 hi]
    simp
   by_cases h20:es.length≤20
   ·rw [decide_eq_true h20] at hz
    have e1:decide ((es.length:Int)≤20)=true:=by simp;omega
    have HZ:=qh hz;clear hz
    go_wp2_with fail
    go_ret
    exact ⟨by rw [HZ.out];rfl,HB.out⟩
   ·rw [decide_eq_false h20] at hz
    have e1:decide ((es.length:Int)≤20)=false:=by simp;omega
    have HZ:=qh hz;clear hz
    go_wp2_with fail
    go_ret
    exact ⟨by rw [HZ.out];rfl,HB.out⟩
def findV (V:VcT) (r:Int):Int:=match V.findIdx? (fun x=>decide (x.1=r)) with | some k=>(k:Int) | none => -1
theorem findV_some {V:VcT} {r:Int} {k:Nat} {x:Int × Int × List Iv} (hx:V[k]? = some x) (hr:x.1=r) (h:∀ j y,j<k→V[j]? = some y→y.1≠r):findV V r=(k:Int):=by
 unfold findV
 have:V.findIdx? (fun x=>decide (x.1=r))=some k:=by
  rw [List.findIdx?_eq_some_iff_getElem]
  obtain ⟨hlt,he⟩:=List.getElem?_eq_some_iff.1 hx
  refine ⟨hlt,by rw [he];simpa using hr,fun j hj => ?_⟩
  have:=h j V[j] hj (by simp [show j<V.length by omega])
  simpa using this
 rw [this]
theorem findV_none {V:VcT} {r:Int} (h:∀ (j:Nat) y,V[j]? = some y→y.1≠r):findV V r = -1:=by
 unfold findV
 have:V.findIdx? (fun x=>decide (x.1=r))=none:=by
  rw [List.findIdx?_eq_none_iff]
  intro x hx
  obtain ⟨i,hi⟩:=List.mem_iff_getElem?.1 hx
  simpa using h i x hi
 rw [this]
set_option maxRecDepth 100000 in
set_option maxHeartbeats 2000000 in
theorem refFind9_any (V:VcT) (v:Value) (r:Int) (w:World) (hv:VecI w v V):Calls Tryz.prog 141 #[v,.int .u64 r] w (IsInt (findV V r) w):=by
 obtain ⟨p,cap,rfl⟩:=hv.shape
 have hlen:=hv.len
 have HV:=qh hv;clear hv
 go_enter Tryz.func141,Tryz.ntmps141
 go_wp2_with fail
 go_loopw [5] (fun i wr=>∃ k:Nat,i = .int .i64 k∧k≤V.length∧(∀ j y,j<k→V[j]? = some y→y.1≠r)∧Below w.heap.size w wr) (fun i _=>V.length - (intOf i).toNat)
 case atStart=>exact ⟨0,rfl,Nat.zero_le _,fun j e hj=>absurd hj (Nat.not_lt_zero j),Below.refl _ _⟩
 case round =>
  obtain ⟨k,rfl,hk,hbef,hb⟩:=hrel
  have HBF:=qh hbef;clear hbef
  have HB:=qh hb;clear hb
  by_cases hlt:k<V.length
  ·obtain ⟨⟨x,m,H⟩,hx⟩:∃ x,V[k]? = some x:=⟨V[k],by simp [hlt]⟩
   obtain ⟨b,o,cap',q,n,c,e,c0,c1,c2,_⟩:=(HV.out.call HB.out).elem hx
   cases e
   have HX:=qh hx;clear hx c1 c2
   have i1:(0:Int)≤(k:Int):=by omega
   have i2:(k:Int)<(V.length:Int):=by omega
   by_cases hr:x=r
   ·have e1:(x == r)=true:=by simpa using hr
    have HZ:=qh (findV_some HX.out hr HBF.out)
    subst hr
    go_wp2_with fail
    go_ret
    exact ⟨by rw [HZ.out];rfl,HB.out⟩
   ·have e1:(x == r)=false:=by simpa using hr
    have HR:=qh hr;clear hr
    go_wp2_with fail
    go_roundw
    case rel=>exact ⟨k+1,by go_num,by omega,fun j y hj hy=>by
     rcases Nat.lt_or_eq_of_le (Nat.le_of_lt_succ hj) with h | h
     ·exact HBF.out j y h hy
     ·subst h
      obtain rfl:=Option.some.inj (HX.out.symm.trans hy)
      exact HR.out,HB.out⟩
    case measure=>simp [intOf];omega
  ·obtain rfl:k=V.length:=by omega
   have HZ:=qh (findV_none (V:=V) (r:=r) fun j y hy=>HBF.out j y (List.getElem?_eq_some_iff.1 hy).1 hy)
   go_wp2_with fail
   go_ret
   exact ⟨by rw [HZ.out];rfl,HB.out⟩
end
section
open Go.RowKit
def badV (V:VcT) (i:Nat):Int:=match V[i]? with
 | none=>0
 | some x=>if codeE (chkN x.2.1 x.2.2)≠0 then codeE (chkN x.2.1 x.2.2) else match i with
   | 0=>0
   | j+1=>match V[j]? with
     | none=>0
     | some y=>if x.1≤y.1 then 3 else 0
def chkVec (V:VcT):Option (Int × Nat):=(List.range V.length).findSome? fun i=>if badV V i=0 then none else some (badV V i,i)
theorem chkVec_none {V:VcT} (h:∀ j,j<V.length→badV V j=0):chkVec V=none:=by
 unfold chkVec
 rw [List.findSome?_eq_none_iff]
 intro i hi
 rw [if_pos (h i (by simpa using hi))]
theorem chkVec_some {V:VcT} {k:Nat} (hk:k<V.length) (h:∀ j,j<k→badV V j=0) (hb:badV V k≠0):chkVec V=some (badV V k,k):=by
 unfold chkVec
 obtain ⟨d,hd⟩:∃ d,V.length=k+(d+1):=⟨V.length - k - 1,by omega⟩
 rw [hd,List.range_add,List.findSome?_append]
 have h1:(List.range k).findSome? (fun i=>if badV V i=0 then none else some (badV V i,i))=none:=by
  rw [List.findSome?_eq_none_iff]
  intro i hi
  rw [if_pos (h i (by simpa using hi))]
 rw [h1,List.range_succ_eq_map,List.map_cons,List.findSome?_cons]
 simp [hb]
def vCode (V:VcT):Int:=match chkVec V with | some x=>x.1 | none=>0
def vAt (V:VcT):Int:=match chkVec V with | some x=>(x.2:Int) | none => -1
theorem badV_code {V:VcT} {k:Nat} {r m:Int} {H:List Iv} (hx:V[k]? = some (r,m,H)) (hc:codeE (chkN m H)≠0):badV V k=codeE (chkN m H):=by unfold badV;rw [hx];simp only;rw [if_pos hc]
theorem badV_first {V:VcT} {r m:Int} {H:List Iv} (hx:V[0]? = some (r,m,H)) (hc:codeE (chkN m H)=0):badV V 0=0:=by unfold badV;rw [hx];simp only;rw [if_neg (by simp [hc])]
theorem badV_next {V:VcT} {j:Nat} {r m r' m':Int} {H H':List Iv} (hx:V[j+1]? = some (r,m,H)) (hy:V[j]? = some (r',m',H')) (hc:codeE (chkN m H)=0):badV V (j+1)=if r≤r' then 3 else 0:=by
 unfold badV;rw [hx];simp only;rw [if_neg (by simp [hc]),hy]
set_option maxRecDepth 100000 in
set_option maxHeartbeats 4000000 in
theorem refCheck9_any (V:VcT) (v:Value) (w:World) (hv:VecM w v V):Calls Tryz.prog 108 #[v] w (IsPair (vCode V) (vAt V) w):=by
 obtain ⟨p,cap,rfl⟩:=hv.shape
 have hlen:=hv.len
 have HV:=qh hv;clear hv
 have KC:=qh refCheckE_any
 go_enter Tryz.func108,Tryz.ntmps108
 go_wp2_with fail
 go_loopw [4] (fun i wr=>∃ k:Nat,i = .int .i64 k∧k≤V.length∧(∀ j,j<k→badV V j=0)∧Below w.heap.size w wr) (fun i _=>V.length - (intOf i).toNat)
 case atStart=>exact ⟨0,rfl,Nat.zero_le _,fun j hj=>absurd hj (Nat.not_lt_zero j),Below.refl _ _⟩
 case round =>
  obtain ⟨k,rfl,hk,hbef,hb⟩:=hrel
  have HBF:=qh hbef;clear hbef
  have HB:=qh hb;clear hb
  by_cases hlt:k<V.length
  ·obtain ⟨⟨x,m,H⟩,hx⟩:∃ x,V[k]? = some x:=⟨V[k],by simp [hlt]⟩
   obtain ⟨b,o,cap',q,n,c,e,c0,c1,c2,ha⟩:=(HV.out.call HB.out).elem hx
   cases e
   have K:=qh (KC.out x m H (.slice q n c) wr ha.at' ha.all)
   have HX:=qh hx;clear hx ha
   have i1:(0:Int)≤(k:Int):=by omega
   have i2:(k:Int)<(V.length:Int):=by omega
   obtain ⟨cd,hcd⟩:∃ cd,codeE (chkN m H)=cd:=⟨_,rfl⟩
   obtain ⟨av,hav⟩:∃ av,(atE (chkN m H)).getD (-1)=av:=⟨_,rfl⟩
   rw [hcd,hav] at K
   have HCD:=qh hcd;clear hcd hav
   go_wp2_with fail
   refine K.out.mono ?_
   rintro e w1 ⟨rfl,h⟩
   have H1:=qh (below_call HB.out h)
   replace c0:=keep_cell c0 h
   clear h c1 c2
   by_cases h0:cd=0
   ·subst h0
    cases k with
    | zero =>
      have HZ:=qh (badV_first HX.out HCD.out)
      go_wp2_with fail
      go_quiet (fail)
      go_wp2_with fail
      go_roundw
      case rel=>exact ⟨1,by go_num,by omega,fun j hj=>by
       obtain rfl:j=0:=by omega
       exact HZ.out,below_drewN H1.out _⟩
      case measure=>simp [intOf];omega
    | succ j =>
      obtain ⟨⟨y,m',H'⟩,hy⟩:∃ y,V[j]? = some y:=⟨V[j],by simp [show j<V.length by omega]⟩
      obtain ⟨b',o',cap2,q',n',c',e',d0,_,_,_⟩:=(HV.out.call H1.out).elem hy
      cases e'
      have HZ:=qh (badV_next HX.out hy HCD.out)
      have hj0:(0:Int)≤(j:Int):=by omega
      have hj1:(j:Int)<(V.length:Int):=by omega
      have hj2:(0:Int)≤(j:Int)+1:=by omega
      have hj3:(j:Int)+1<(V.length:Int):=by omega
      have hj4:(0:Int)<(j:Int)+1:=by omega
      have hw1:IntKind.i64.wrap ((j:Int)+1 - 1)=(j:Int):=(IntWalk.i64_in _ (by omega)).trans (by omega)
      have hw2:IntKind.i64.wrap (j:Int)=(j:Int):=IntWalk.i64_in _ (by omega)
      have hw3:IntKind.i64.wrap (((j+1:Nat):Int) - 1)=(j:Int):=(IntWalk.i64_in _ (by omega)).trans (by omega)
      clear hy
      by_cases hle:x≤y
      ·have e1:decide (x≤y)=true:=by simpa using hle
       rw [if_pos hle] at HZ
       have HE:Hid (vCode V=3∧vAt V=((j:Int)+1)):=qh (by
        have hs:=chkVec_some hlt HBF.out (by rw [HZ.out];decide)
        rw [HZ.out] at hs
        unfold vCode vAt
        rw [hs]
        exact ⟨rfl,by simp⟩)
       clear hle
       go_wp2_with fail
       go_quiet (fail)
       go_wp2_with fail
       go_ret2
       exact ⟨by rw [HE.out.1,HE.out.2];rfl,below_drewN H1.out _⟩
      ·have e1:decide (x≤y)=false:=by simpa using hle
       rw [if_neg hle] at HZ
       clear hle
       go_wp2_with fail
       go_quiet (fail)
       go_wp2_with fail
       go_roundw
       case rel=>exact ⟨j+1+1,by go_num,by omega,fun i hi=>by
        rcases Nat.lt_or_eq_of_le (Nat.le_of_lt_succ hi) with h | h
        ·exact HBF.out i h
        ·rw [h];exact HZ.out,below_drewN H1.out _⟩
       case measure=>simp [intOf];omega
   ·have e1:(cd != 0)=true:=by simpa using h0
    have HE:Hid (vCode V=cd∧vAt V=(k:Int)):=qh (by
     have hz:=badV_code HX.out (by rw [HCD.out];exact h0)
     have hs:=chkVec_some hlt HBF.out (by rw [hz,HCD.out];exact h0)
     rw [hz,HCD.out] at hs
     unfold vCode vAt
     rw [hs]
     exact ⟨rfl,rfl⟩)
    clear h0
    go_wp2_with fail
    go_ret2
    exact ⟨by rw [HE.out.1,HE.out.2];rfl,H1.out⟩
  ·obtain rfl:k=V.length:=by omega
   have HE:Hid (vCode V=0∧vAt V = -1):=qh (by unfold vCode vAt;rw [chkVec_none HBF.out];exact ⟨rfl,rfl⟩)
   go_wp2_with fail
   go_ret2
   exact ⟨by rw [HE.out.1,HE.out.2];rfl,HB.out⟩
end
section
open Go.RowKit
def rightV (V:VcT):Bool:=(chkVec V).isNone
theorem badV_small {V:VcT} {x:Int × Nat} (h:chkVec V=some x):x.1≠0:=by
 unfold chkVec at h
 obtain ⟨i,_,hi⟩:=List.exists_of_findSome?_eq_some h
 split at hi
 ·cases hi
 ·rename_i hn
  obtain rfl:=Option.some.inj hi
  exact hn
def hasV (V:VcT) (r c:Int):Bool:=match V.findIdx? (fun x=>decide (x.1=r)) with
 | none=>false
 | some k=>match V[k]? with
   | none=>false
   | some x=>hasE x.2.1 x.2.2 c
set_option maxRecDepth 100000 in
theorem refHas9_any (V:VcT) (v:Value) (r c:Int) (w:World) (hv:VecM w v V):Calls Tryz.prog 73 #[v,.int .u64 r,.int .u64 c] w (IsEnd (hasV V r c) w):=by
 obtain ⟨p,cap,rfl⟩:=hv.shape
 have hlen:=hv.len
 have K:=qh (refFind9_any V _ r w hv.i)
 have HV:=qh hv;clear hv
 have KH:=qh refHasE_any
 cases hf:V.findIdx? (fun x=>decide (x.1=r)) with
 | none =>
   have HZ:Hid (hasV V r c=false):=qh (by unfold hasV;rw [hf])
   rw [show findV V r = -1 from by unfold findV;rw [hf]] at K
   clear hf
   go_enter Tryz.func73,Tryz.ntmps73
   go_wp2_with fail
   refine K.out.mono ?_
   rintro e w1 ⟨rfl,h⟩
   have H1:=qh h;clear h
   go_wp2_with fail
   go_ret
   exact ⟨by rw [HZ.out];rfl,H1.out⟩
 | some k =>
   have hk:k<V.length:=(List.findIdx?_eq_some_iff_getElem.1 hf).1
   obtain ⟨⟨x,m,H⟩,hx⟩:∃ x,V[k]? = some x:=⟨V[k],by simp [hk]⟩
   have HZ:Hid (hasV V r c=hasE m H c):=qh (by unfold hasV;rw [hf];simp only;rw [hx])
   rw [show findV V r=(k:Int) from by unfold findV;rw [hf]] at K
   clear hf
   have i0:(0:Int)≤(k:Int):=by omega
   have i2:(k:Int)<(V.length:Int):=by omega
   obtain ⟨bb,hbb⟩:∃ bb,hasE m H c=bb:=⟨_,rfl⟩
   have HBB:=qh hbb
   obtain ⟨b,o,cap',q,n,cc,e,_⟩:=HV.out.elem hx
   cases e
   have HX:=qh hx;clear hx
   clear hbb
   go_enter Tryz.func73,Tryz.ntmps73
   go_wp2_with fail
   refine K.out.mono ?_
   rintro e w1 ⟨rfl,h⟩
   obtain ⟨b',o',cap2,q',n',c',e',c0,c1,c2,ha⟩:=(HV.out.call h).elem HX.out
   cases e'
   have HK:=qh (HBB.out ▸ KH.out x m H (.slice q' n' c') c w1 ha.at')
   have H1:=qh h;clear h ha
   go_wp2_with fail
   refine HK.out.mono ?_
   rintro e w2 ⟨rfl,h⟩
   have H2:=qh (below_call H1.out h);clear h
   go_wp2_with fail
   go_ret
   exact ⟨by rw [HZ.out,HBB.out];rfl,H2.out⟩
def canV (V:VcT):Bool:=V.all fun x=>okN x.2.1 x.2.2 && canonB x.2.1 x.2.2
set_option maxRecDepth 100000 in
set_option maxHeartbeats 4000000 in
theorem refSame9_any (V V':VcT) (v v':Value) (w:World) (hv:VecI w v V) (hv':VecI w v' V'):Calls Tryz.prog 67 #[v,v'] w (IsEnd (decide (V=V')) w):=by
 obtain ⟨p,cap,rfl⟩:=hv.shape
 obtain ⟨p',cap',rfl⟩:=hv'.shape
 have hlen:=hv.len
 have hlen':=hv'.len
 by_cases hl:V.length=V'.length
 ·have HV:=qh hv;clear hv
  have HV':=qh hv';clear hv'
  have KS:=qh refSameE_any
  obtain ⟨n9,hn9⟩:∃ n9,V.length=n9:=⟨_,rfl⟩
  rw [← hl,hn9]
  have HL:=qh hl;have HN:=qh hn9
  rw [hn9] at hlen
  clear hl hn9 hlen'
  go_enter Tryz.func67,Tryz.ntmps67
  go_wp2_with fail
  go_loopw [5] (fun i wr=>∃ k:Nat,i = .int .i64 k∧k≤n9∧(∀ j,j<k→V[j]? = V'[j]?)∧Below w.heap.size w wr) (fun i _=>n9 - (intOf i).toNat)
  case atStart=>exact ⟨0,rfl,Nat.zero_le _,fun j hj=>absurd hj (Nat.not_lt_zero j),Below.refl _ _⟩
  case round =>
   obtain ⟨k,rfl,hk,hbef,hb⟩:=hrel
   have HBF:=qh hbef;clear hbef
   have HB:=qh hb;clear hb
   by_cases hlt:k<n9
   ·obtain ⟨⟨x,m,H⟩,hx⟩:∃ x,V[k]? = some x:=⟨V[k]'(by rw [HN.out];exact hlt),by simp⟩
    obtain ⟨⟨x',m',H'⟩,hx'⟩:∃ x,V'[k]? = some x:=⟨V'[k]'(by rw [← HL.out,HN.out];exact hlt),by simp⟩
    obtain ⟨b,o,cp,q,n,c,e,c0,c1,c2,ha⟩:=(HV.out.call HB.out).elem hx
    obtain ⟨b',o',cp',q',n',c',e',d0,d1,d2,ha'⟩:=(HV'.out.call HB.out).elem hx'
    rw [HN.out] at e
    rw [← HL.out,HN.out] at e'
    cases e;cases e'
    have HX:=qh (And.intro hx hx');clear hx hx'
    have HA:=qh (And.intro ha ha');clear ha ha'
    have K:=qh (fun W h h'=>KS.out x m x' m' H H' (.slice q n c) (.slice q' n' c') W h h')
    have i1:(0:Int)≤(k:Int):=by omega
    have i2:(k:Int)<(n9:Int):=by omega
    obtain ⟨bb,hbb⟩:∃ bb,decide (x=x'∧m=m'∧H=H')=bb:=⟨_,rfl⟩
    rw [hbb] at K
    have HBB:=qh hbb;clear hbb
    have HS:=qh (r6_drew ⟨Below.refl wr.heap.size wr,c0,c1,c2,d0,d1,d2⟩)
    go_wp2_with fail
    clear c0 c1 c2 d0 d1 d2
    go_region_held3 (fun w'=>Below wr.heap.size wr w'∧w'.cell? ⟨b,o+k*3,none⟩=some (.int .u64 x)∧w'.cell? ⟨b,o+k*3+1,none⟩=some (.int .u64 m)∧w'.cell? ⟨b,o+k*3+2,none⟩=some (.slice q n c)∧w'.cell? ⟨b',o'+k*3,none⟩=some (.int .u64 x')∧w'.cell? ⟨b',o'+k*3+1,none⟩=some (.int .u64 m')∧w'.cell? ⟨b',o'+k*3+2,none⟩=some (.slice q' n' c'))
     (first
       | exact r6_call (by assumption) (by assumption)
       | exact HS.out
       | exact r6_drew (by assumption)
       | assumption)
     (first
       | (go_at_call 134;refine (K.out _ (HA.out.1.call (r6_below (by assumption))) (HA.out.2.call (r6_below (by assumption)))).mono ?_;rintro en w' ⟨rfl,h'⟩;have h':=qh h'))
    all_goals
     rename_i hE
     have HE:=qh (below_call HB.out hE.1)
     clear hE
     cases bb with
     | false =>
       have HZ:Hid (decide (V=V')=false):=qh (by
        rw [decide_eq_false_iff_not]
        intro e
        have h1:=HX.out.1
        rw [e,HX.out.2] at h1
        have h2:=HBB.out
        cases h1
        simp at h2)
       go_wp2_with fail
       go_ret
       exact ⟨by rw [HZ.out];rfl,HE.out⟩
     | true =>
       go_wp2_with fail
       go_roundw
       case rel=>exact ⟨k+1,by go_num,by omega,fun j hj=>by
        rcases Nat.lt_or_eq_of_le (Nat.le_of_lt_succ hj) with h | h
        ·exact HBF.out j h
        ·subst h
         have h2:=HBB.out
         simp at h2
         rw [HX.out.1,HX.out.2,h2.1,h2.2.1,h2.2.2],HE.out⟩
       case measure=>simp [intOf];omega
   ·obtain rfl:k=n9:=by omega
    have HZ:Hid (decide (V=V')=true):=qh (by
     rw [decide_eq_true_eq]
     refine List.ext_getElem? fun i => ?_
     by_cases hi:i<k
     ·exact HBF.out i hi
     ·rw [List.getElem?_eq_none_iff.2 (by rw [HN.out];omega),List.getElem?_eq_none_iff.2 (by rw [← HL.out,HN.out];omega)])
    go_wp2_with fail
    go_ret
    exact ⟨by rw [HZ.out];rfl,HB.out⟩
 ·have HZ:Hid (decide (V=V')=false):=qh (by rw [decide_eq_false_iff_not];intro e;exact hl (by rw [e]))
  have e1:((V.length:Int) != (V'.length:Int))=true:=by simp;omega
  clear hv hv' hl
  go_enter Tryz.func67,Tryz.ntmps67
  go_wp2_with fail
  go_ret
  exact ⟨by rw [HZ.out];rfl,Below.refl _ _⟩
end
section
open Go.RowKit
def ivN (H:List Iv):List Int:=H.flatMap fun y => [y.1,y.2]
def entN (x:Int × Int × List Iv):List Int := [x.1,x.2.1,(x.2.2.length:Int)]++ivN x.2.2
def numsV (V:VcT):List Int:=(V.length:Int) :: V.flatMap entN
theorem take_snoc9 {α:Type} {l:List α} {k:Nat} {x:α} (h:l[k]? = some x):l.take (k+1)=l.take k ++ [x]:=by rw [List.take_add_one,h];rfl
theorem ivN_len (H:List Iv):(ivN H).length=2*H.length:=by
 unfold ivN
 induction H with
 | nil=>rfl
 | cons y H ih=>rw [List.flatMap_cons,List.length_append,ih];simp;omega
theorem nmC_app (a b:List Int):nmC (a++b)=nmC a++nmC b:=by simp [nmC]
end
section
open Go.RowKit
def cmpL:List Int→List Int→Int
 | [],[]=>0
 | [],_ :: _ => -1
 | _ :: _,[]=>1
 | x :: a,y :: b=>if x<y then -1 else if y<x then 1 else cmpL a b
theorem nm_at {L:List Int} {i:Nat} {x:Int} (h:L[i]? = some x):(nmC L)[i]? = some (.int .u64 x):=by unfold nmC;rw [List.getElem?_map,h];rfl
end
section
open Go.RowKit Go.ChangeShapes Go.WideShapes Go.Deep
def KnoAt (W:World) (v:Value) (fs:List (Value × Value)):Prop:=
 ∃ p cap,v = .slice p fs.length cap∧fs.length≤maxLen∧(fs ≠ []→∃ b o,p=some ⟨b,o,none⟩∧∀ i f,fs[i]? = some f →
  W.cell? ⟨b,o+i*2,none⟩=some f.1∧W.cell? ⟨b,o+i*2+1,none⟩=some f.2)
theorem KnoAt.call {w w':World} {v:Value} {fs:List (Value × Value)} (h:KnoAt w v fs) (hb:Below w.heap.size w w'):KnoAt w' v fs:=by
 obtain ⟨p,cap,h1,h2,h3⟩:=h
 refine ⟨p,cap,h1,h2,fun hne => ?_⟩
 obtain ⟨b,o,h5,h6⟩:=h3 hne
 exact ⟨b,o,h5,fun i e hi=>⟨keep_cell (h6 i e hi).1 hb,keep_cell (h6 i e hi).2 hb⟩⟩
structure FragIn (lim:Nat) (W:World) (f:Value × Value):Prop where
 sane1:SaneE f.1
 items:HolesAt lim W f.1
 sane2:SaneE f.2
 vec:∃ es,VecAt W f.2 es∧∀ e ∈ es,EntIn lim W e
section
variable {H:Type} {enc:TypeId × Value→H}
def knoArg (W:World) (v:Value):Prop:=SaneE v∧∃ fs,KnoAt W v fs∧∀ f ∈ fs,FragIn 30 W f
end
end
end Go.Proofs.YtgcakgegboicjaaGreatDoor
