/- Package vector: an entry behind a key, the search for a replica, Find, Has. -/
import Derived.Test.YtgcakgegboicjaaGreatDoorKPMath
import Derived.Test.YtgcakgegboicjaaGreatDoorKNKeeps
import Derived.Sort.Grow
namespace Go.Proofs.YtgcakgegboicjaaGreatDoor
section
open Go.RowKit Go.Shelf Go.Sort
def Grows (w w':World):Prop:=∃ q os,w'=grow (w.drewN q) os
theorem Grows.refl (w:World):Grows w w:=⟨0,#[],by rw [grow_empty];rfl⟩
theorem Grows.drew {w w':World} (h:Grows w w'):Grows w w'.drew:=by
 obtain ⟨q,os,rfl⟩:=h
 exact ⟨q+1,os,rfl⟩
theorem Grows.alloc {w w':World} (h:Grows w w') (o:Obj):Grows w (w'.alloc o):=by
 obtain ⟨q,os,rfl⟩:=h
 exact ⟨q,os++#[o],by rw [alloc_eq_grow,grow_grow]⟩
theorem Grows.below {w w':World} (h:Grows w w'):Below w.heap.size w w':=by
 obtain ⟨q,os,rfl⟩:=h
 exact below_grown_sl _ _ _ _ (Nat.le_refl _)
set_option maxRecDepth 100000 in
theorem behind_any (k r m:Int) (p:Option Addr) (n c:Nat) (w:World) :
 Calls Tryz.prog 207 #[.int .u64 k,.agg #[.int .u64 r,.int .u64 m,.slice p n c]] w (fun e w'=>e = .returned (.bool (decide (r<k)))∧w'=w.alloc (.cells #[.int .u64 r,.int .u64 m,.slice p n c] 82)):=by
 go_enter Tryz.func207,Tryz.ntmps207
 go_wp2_with fail
 go_ret
 exact ⟨by simp,by simp⟩
def notB (V:VcT) (r:Int) (i:Nat):Bool:=match V[i]? with | some x => !decide (x.1<r) | none=>false
theorem notB_at {V:VcT} {i:Nat} {x:Int × Int × List Iv} (r:Int) (h:V[i]? = some x):notB V r i = !decide (x.1<r):=by unfold notB;rw [h]
theorem notB_mono {V:VcT} (h:V.Pairwise fun x y=>x.1<y.1) (r:Int):∀ a b,a≤b→b<V.length→notB V r a=true→notB V r b=true:=by
 intro a b hab hb ha
 have hy:V[a]? = some V[a]:=by simp [show a<V.length by omega]
 have hz:V[b]? = some V[b]:=by simp [hb]
 rw [notB_at r hy] at ha
 rw [notB_at r hz]
 rcases Nat.lt_or_eq_of_le hab with hlt | heq
 ·have:=List.pairwise_iff_getElem.1 h a b (by omega) hb hlt
  simp at ha ⊢;omega
 ·subst heq;exact ha
def firstR9 (V:VcT) (r:Int):Nat:=V.findIdx fun x=>decide (r≤x.1)
theorem firstR9_le (V:VcT) (r:Int):firstR9 V r≤V.length:=List.findIdx_le_length
theorem firstR9_low {V:VcT} {r:Int} {j:Nat} {y:Int × Int × List Iv} (hj:j<firstR9 V r) (hy:V[j]? = some y):y.1<r:=by
 obtain ⟨h1,rfl⟩:=List.getElem?_eq_some_iff.1 hy
 have:=List.not_of_lt_findIdx (p:=fun x:Int × Int × List Iv=>decide (r≤x.1)) (xs:=V) (i:=j) hj
 simpa using this
theorem firstR9_at {V:VcT} {r:Int} {y:Int × Int × List Iv} (hy:V[firstR9 V r]? = some y):r≤y.1:=by
 obtain ⟨h1,rfl⟩:=List.getElem?_eq_some_iff.1 hy
 have:=List.findIdx_getElem (p:=fun x:Int × Int × List Iv=>decide (r≤x.1)) (xs:=V) (w:=h1)
 exact of_decide_eq_true this
theorem count_firstR9 {V:VcT} (h:V.Pairwise fun x y=>x.1<y.1) (r:Int):(List.range V.length).countP (fun i => !notB V r i)=firstR9 V r:=by
 have hle:=firstR9_le V r
 have h1:∀ i,i<firstR9 V r→notB V r i=false:=by
  intro i hi
  have hy:V[i]? = some V[i]:=by simp [show i<V.length by omega]
  rw [notB_at r hy]
  have:=firstR9_low hi hy
  simpa using this
 have h2:∀ i,firstR9 V r≤i→i<V.length→notB V r i=true:=by
  intro i hi hlt
  have hk:firstR9 V r<V.length:=by omega
  refine notB_mono h r (firstR9 V r) i hi hlt ?_
  have hy:V[firstR9 V r]? = some V[firstR9 V r]:=by simp [hk]
  rw [notB_at r hy]
  have:=firstR9_at hy
  simp;omega
 obtain ⟨m,hm⟩:∃ m,V.length=firstR9 V r+m:=⟨V.length - firstR9 V r,by omega⟩
 rw [hm,List.range_add,List.countP_append]
 have e1:(List.range (firstR9 V r)).countP (fun i => !notB V r i)=firstR9 V r:=by
  have:(List.range (firstR9 V r)).countP (fun i => !notB V r i)=(List.range (firstR9 V r)).length:=by
   rw [List.countP_eq_length]
   intro i hi
   rw [h1 i (by simpa using hi)];rfl
  simpa using this
 have e2:((List.range m).map (firstR9 V r + ·)).countP (fun i => !notB V r i)=0:=by
  rw [List.countP_eq_zero]
  intro i hi
  obtain ⟨j,hj,rfl⟩:=List.mem_map.1 hi
  rw [h2 (firstR9 V r+j) (by omega) (by have hjm:j<m:=(by simpa using hj);omega)]
  simp
 rw [e1,e2];rfl
theorem find_here {V:VcT} {r:Int} {y:Int × Int × List Iv} (hy:V[firstR9 V r]? = some y) (h:y.1=r):findV V r=(firstR9 V r:Int):=
 findV_some hy h fun j z hj hz=>by have:=firstR9_low hj hz;omega
theorem find_past {V:VcT} {r:Int} (hv:V.Pairwise fun x y=>x.1<y.1) (h:∀ y,V[firstR9 V r]? = some y→y.1≠r):findV V r = -1:=by
 refine findV_none fun j y hy e => ?_
 have h1:¬ j<firstR9 V r:=fun hj=>by have:=firstR9_low hj hy;omega
 have hlt:=(List.getElem?_eq_some_iff.1 hy).1
 have hk:firstR9 V r<V.length:=by omega
 have hz:V[firstR9 V r]? = some V[firstR9 V r]:=by simp [hk]
 have h2:=firstR9_at hz
 have h3:=h _ hz
 rcases Nat.lt_or_eq_of_le (Nat.le_of_not_lt h1) with h4 | h4
 ·have h5:=List.pairwise_iff_getElem.1 hv (firstR9 V r) j hk hlt h4
  obtain ⟨_,e2⟩:=List.getElem?_eq_some_iff.1 hy
  rw [e2] at h5
  omega
 ·exact h y (by rw [h4];exact hy) e
def SrC (kb kk kl:Nat) (r:Int) (v:Value) (a0 a1 a2:Addr) (x m:Int) (s:Value) (W:World):Prop:=
 W.cell? ⟨kb,0,none⟩=some (.func (.func 207) #[] #[])∧W.cell? ⟨kk,0,none⟩=some (.int .u64 r)∧W.cell? ⟨kl,0,none⟩=some v∧W.cell? a0=some (.int .u64 x)∧W.cell? a1=some (.int .u64 m)∧W.cell? a2=some s
theorem SrC.call {kb kk kl:Nat} {r:Int} {v:Value} {a0 a1 a2:Addr} {x m:Int} {s:Value} {A B:World} (h:SrC kb kk kl r v a0 a1 a2 x m s A) (hb:Below A.heap.size A B):SrC kb kk kl r v a0 a1 a2 x m s B:=
 ⟨keep_cell h.1 hb,keep_cell h.2.1 hb,keep_cell h.2.2.1 hb,keep_cell h.2.2.2.1 hb,keep_cell h.2.2.2.2.1 hb,keep_cell h.2.2.2.2.2 hb⟩
theorem s7_drew {w:World} {kb kk kl:Nat} {r:Int} {v:Value} {a0 a1 a2:Addr} {x m:Int} {s:Value} (h:SrC kb kk kl r v a0 a1 a2 x m s w):Grows w w.drew∧SrC kb kk kl r v a0 a1 a2 x m s w.drew:=
 ⟨(Grows.refl w).drew,h.call (Below.refl _ _).drew⟩
theorem s7_alloc {w w1:World} {kb kk kl:Nat} {r:Int} {v:Value} {a0 a1 a2:Addr} {x m:Int} {s:Value} (h:Grows w w1∧SrC kb kk kl r v a0 a1 a2 x m s w1) (o:Obj):Grows w (w1.alloc o)∧SrC kb kk kl r v a0 a1 a2 x m s (w1.alloc o):=
 ⟨h.1.alloc o,h.2.call (below_new _ _)⟩
set_option maxRecDepth 100000 in
set_option maxHeartbeats 2000000 in
theorem search1_any (V:VcT) (v:Value) (r:Int) (i kb kk kl:Nat) (w:World) (hv:VecM w v V) (hi:i<V.length)
 (hb:w.cell? ⟨kb,0,none⟩=some (.func (.func 207) #[] #[])) (hk:w.cell? ⟨kk,0,none⟩=some (.int .u64 r)) (hl:w.cell? ⟨kl,0,none⟩=some v) :
 Calls Tryz.prog 277 #[.int .i64 i,.pointer (some ⟨kb,0,none⟩),.pointer (some ⟨kk,0,none⟩),.pointer (some ⟨kl,0,none⟩)] w fun e w'=>e = .returned (.bool (notB V r i))∧Grows w w':=by
 have hy:V[i]? = some V[i]:=by simp [hi]
 have hlen:=hv.len
 rw [notB_at r hy]
 generalize V[i]=y at *
 obtain ⟨x,m,H⟩:=y
 obtain ⟨b,o,cap,p,n,c,rfl,c0,c1,c2,_⟩:=hv.elem hy
 dsimp only
 have hj0:(0:Int)≤(i:Int):=by omega
 have hj1:(i:Int)<(V.length:Int):=by omega
 have HS:=qh (show SrC kb kk kl r (.slice (some ⟨b,o,none⟩) V.length cap) ⟨b,o+i*3,none⟩ ⟨b,o+i*3+1,none⟩ ⟨b,o+i*3+2,none⟩ x m (.slice p n c) w from ⟨hb,hk,hl,c0,c1,c2⟩)
 have KB:=qh behind_any
 have HD:Hid (∀ W,Grows w W→Grows w W):=qh fun _ h=>h
 clear hv hy
 generalize V.length=ln at *
 obtain ⟨d,hd⟩:∃ d,decide (x<r)=d:=⟨_,rfl⟩
 rw [hd]
 have HDD:=qh hd;clear hd
 go_enter Tryz.func277,Tryz.ntmps277
 go_wp2_with fail
 go_region_held3 (fun w'=>Grows w w'∧w'.cell? ⟨kb,0,none⟩=some (.func (.func 207) #[] #[])∧w'.cell? ⟨kk,0,none⟩=some (.int .u64 r)∧w'.cell? ⟨kl,0,none⟩=some (.slice (some ⟨b,o,none⟩) ln cap)∧w'.cell? ⟨b,o+i*3,none⟩=some (.int .u64 x)∧w'.cell? ⟨b,o+i*3+1,none⟩=some (.int .u64 m)∧w'.cell? ⟨b,o+i*3+2,none⟩=some (.slice p n c))
  (first
    | exact s7_drew HS.out
    | exact s7_alloc (by assumption) _)
  ((go_at_call 207;refine (KB.out _ _ _ _ _ _ _).mono ?_;rintro en w3 ⟨rfl,hw⟩;obtain rfl:=hw;rw [HDD.out];have hG:=qh (s7_alloc (s7_drew HS.out) (.cells #[.int .u64 x,.int .u64 m,.slice p n c] 82)).1))
 go_wp2_with fail
 go_ret
 exact ⟨rfl,hG.out⟩
set_option maxRecDepth 100000 in
set_option maxHeartbeats 2000000 in
theorem search_any (V:VcT) (v:Value) (r:Int) (w:World) (hv:VecM w v V) (hg:V.Pairwise fun x y=>x.1<y.1) :
 Calls Tryz.prog 208 #[v,.int .u64 r,.func (.func 207) #[] #[]] w (IsInt (firstR9 V r) w):=by
 obtain ⟨p,cap,rfl⟩:=hv.shape
 have hlen:=hv.len
 have eg:∀ args w,(callFunc 277 args).run Tryz.prog w = .ok (.enter 277 args) w:=enters_of Tryz.func277 (by kernel_rfl) rfl
 have hA:=(Kp.start w).new1 (.slice p V.length cap) 43 w.heap.size rfl
 have hB:=hA.new1 (.int .u64 r) 228 (w.heap.size+1) (by simp)
 have hC:=hB.new1 (.func (.func 207) #[] #[]) 230 (w.heap.size+2) (by simp)
 obtain ⟨W0,hW0⟩:∃ W0,((w.alloc (.cells #[.slice p V.length cap] 43)).alloc (.cells #[.int .u64 r] 228)).alloc (.cells #[.func (.func 207) #[] #[]] 230)=W0:=⟨_,rfl⟩
 rw [hW0] at hC
 have hcon:=Any.sort_Search Tryz.search 277 #[.pointer (some ⟨w.heap.size+2,0,none⟩),.pointer (some ⟨w.heap.size+1,0,none⟩),.pointer (some ⟨w.heap.size,0,none⟩)] V.length (notB V r) W0 eg (by omega)
  (fun m os i hi=>by
    have hb:Below W0.heap.size W0 (grow (W0.drewN m) os):=below_grown_sl _ _ _ _ (Nat.le_refl _)
    exact search1_any V _ r i (w.heap.size+2) (w.heap.size+1) w.heap.size _ (hv.call (below_call hC.1 hb)) hi (keep_cell hC.2.1 hb) (keep_cell hC.2.2.1 hb) (keep_cell hC.2.2.2.1 hb))
  (notB_mono hg r)
 change Calls Tryz.prog 131 _ _ _ at hcon
 rw [count_firstR9 hg r] at hcon
 obtain ⟨k,hk⟩:∃ k,firstR9 V r=k:=⟨_,rfl⟩
 rw [hk] at hcon ⊢
 have HC:=qh hcon;clear hcon
 have HBx:=qh hC.1;clear hC hB hA
 have HW0:=qh hW0;clear hW0
 clear eg hv hg hk
 go_enter Tryz.func208,Tryz.ntmps208
 go_wp2_with fail
 rw [HW0.out]
 refine HC.out.mono ?_
 rintro e w1 ⟨rfl,q,os,rfl⟩
 have hb1:Below W0.heap.size W0 (grow (W0.drewN q) os):=below_grown_sl _ _ _ _ (Nat.le_refl _)
 generalize grow (W0.drewN q) os=w1 at *
 have H1:=qh (below_call HBx.out hb1);clear hb1
 go_wp2_with fail
 go_ret
 exact ⟨rfl,H1.out⟩
set_option maxRecDepth 100000 in
set_option maxHeartbeats 2000000 in
theorem vFind_any (V:VcT) (v:Value) (r:Int) (w:World) (hv:VecM w v V) (hg:V.Pairwise fun x y=>x.1<y.1):Calls Tryz.prog 139 #[v,.int .u64 r] w (IsInt (findV V r) w):=by
 obtain ⟨p,cap,rfl⟩:=hv.shape
 have hlen:=hv.len
 have K:=qh (search_any V _ r w hv hg)
 have HV:=qh hv;clear hv
 have hle:=firstR9_le V r
 by_cases hlt:firstR9 V r<V.length
 ·have hy:V[firstR9 V r]? = some V[firstR9 V r]:=by simp [hlt]
  generalize V[firstR9 V r]=y at *
  obtain ⟨x,m,H⟩:=y
  have h1:=find_here hy
  have h2:x≠r→findV V r = -1:=fun hne=>find_past hg fun z hz=>by rw [hy] at hz;obtain rfl:=Option.some.inj hz;exact hne
  generalize firstR9 V r=k at *
  obtain ⟨b,o,cap',q,n,c,e,_⟩:=HV.out.elem hy
  cases e
  have HY:=qh hy;clear hy
  have i1:(0:Int)≤(k:Int):=by omega
  have i2:(k:Int)<(V.length:Int):=by omega
  have e0:decide ((k:Int)<(V.length:Int))=true:=by simpa using hlt
  by_cases hr:x=r
  ·have HZ:=qh (h1 hr);clear h1 h2
   have e1:(x == r)=true:=by simpa using hr
   go_enter Tryz.func139,Tryz.ntmps139
   go_wp2_with fail
   refine K.out.mono ?_
   rintro e w1 ⟨rfl,h⟩
   have H1:=qh h;clear h
   obtain ⟨b',o',cap2,q',n',c',ee,c0,_⟩:=(HV.out.call H1.out).elem HY.out
   cases ee
   subst hr
   go_wp2_with fail
   go_ret
   exact ⟨by rw [HZ.out];rfl,H1.out⟩
  ·have HZ:=qh (h2 hr);clear h1 h2
   have e1:(x == r)=false:=by simpa using hr
   clear hr
   go_enter Tryz.func139,Tryz.ntmps139
   go_wp2_with fail
   refine K.out.mono ?_
   rintro e w1 ⟨rfl,h⟩
   have H1:=qh h;clear h
   obtain ⟨b',o',cap2,q',n',c',ee,c0,_⟩:=(HV.out.call H1.out).elem HY.out
   cases ee
   go_wp2_with fail
   go_ret
   exact ⟨by rw [HZ.out];rfl,H1.out⟩
 ·have h2:findV V r = -1:=find_past hg fun z hz=>absurd (List.getElem?_eq_some_iff.1 hz).1 hlt
  have HZ:=qh h2;clear h2
  generalize firstR9 V r=k at *
  have e0:decide ((k:Int)<(V.length:Int))=false:=by simp;omega
  go_enter Tryz.func139,Tryz.ntmps139
  go_wp2_with fail
  refine K.out.mono ?_
  rintro e w1 ⟨rfl,h⟩
  have H1:=qh h;clear h
  go_wp2_with fail
  go_ret
  exact ⟨by rw [HZ.out];rfl,H1.out⟩
end
section
open Go.RowKit
theorem has_none9 {V:VcT} {r:Int} (c:Int) (h:findV V r = -1):hasV V r c=false:=by
 unfold findV at h
 unfold hasV
 cases hf:V.findIdx? (fun x=>decide (x.1=r)) with
 | none=>rfl
 | some k=>rw [hf] at h;simp only at h;omega
theorem has_some9 {V:VcT} {r:Int} {k:Nat} {x:Int × Int × List Iv} (c:Int) (h:findV V r=(k:Int)) (hx:V[k]? = some x):hasV V r c=hasE x.2.1 x.2.2 c:=by
 unfold findV at h
 unfold hasV
 cases hf:V.findIdx? (fun x=>decide (x.1=r)) with
 | none=>rw [hf] at h;simp only at h;omega
 | some j =>
   rw [hf] at h
   simp only at h
   obtain rfl:j=k:=by omega
   simp only [hx]
theorem find_ways (V:VcT) (r:Int):findV V r = -1∨∃ (k:Nat) (x:Int × Int × List Iv),findV V r=(k:Int)∧V[k]? = some x:=by
 unfold findV
 cases hf:V.findIdx? (fun x=>decide (x.1=r)) with
 | none=>exact .inl rfl
 | some k =>
   obtain ⟨hlt,_⟩:=List.findIdx?_eq_some_iff_getElem.1 hf
   exact .inr ⟨k,V[k],rfl,by simp [hlt]⟩
set_option maxRecDepth 100000 in
set_option maxHeartbeats 2000000 in
theorem vHas_any (V:VcT) (v:Value) (r c:Int) (w:World) (hv:VecM w v V) (hg:GoodV V) (h0:0≤c) (h1:c≤18446744073709551615):Calls Tryz.prog 72 #[v,.int .u64 r,.int .u64 c] w (IsEnd (hasV V r c) w):=by
 obtain ⟨p,cap,rfl⟩:=hv.shape
 have K:=qh (vFind_any V _ r w hv hg.asc)
 have hlen:=hv.len
 have HV:=qh hv;clear hv
 rcases find_ways V r with hf | ⟨k,⟨x,m,H⟩,hf,hx⟩
 ·rw [has_none9 c hf]
  rw [hf] at K
  clear hf hg h0 h1
  go_enter Tryz.func72,Tryz.ntmps72
  go_wp2_with fail
  refine K.out.mono ?_
  rintro e w1 ⟨rfl,h⟩
  have H1:=qh h;clear h
  go_wp2_with fail
  go_ret
  exact ⟨rfl,H1.out⟩
 ·rw [has_some9 c hf hx]
  rw [hf] at K
  obtain ⟨b,o,cp,q,n,ce,e,_⟩:=HV.out.elem hx
  cases e
  have hlt:=(List.getElem?_eq_some_iff.1 hx).1
  have HX:=qh hx
  have HGE:=qh (hg.ent _ (List.mem_iff_getElem?.2 ⟨k,hx⟩));clear hg hx hf
  have HC:=qh (And.intro h0 h1);clear h0 h1
  have KH:=qh eHas_any
  have i1:(0:Int)≤(k:Int):=by omega
  have i2:(k:Int)<(V.length:Int):=by omega
  have e1:((k:Int) != -1)=true:=bne_iff_ne.2 (by omega)
  dsimp only
  obtain ⟨bb,hbb⟩:∃ bb,hasE m H c=bb:=⟨_,rfl⟩
  rw [hbb]
  have HBB:=qh hbb;clear hbb
  clear hlt
  go_enter Tryz.func72,Tryz.ntmps72
  go_wp2_with fail
  refine K.out.mono ?_
  rintro e w1 ⟨rfl,h⟩
  have H1:=qh h;clear h
  obtain ⟨b',o',cp',q',n',ce',ee,c0,c1,c2,ha⟩:=(HV.out.call H1.out).elem HX.out
  cases ee
  have HE:=qh (show EntAt w1 (.slice q' n' ce') m H from ⟨ha,HGE.out⟩);clear ha
  go_wp2_with fail
  refine (KH.out x m H _ c _ HE.out HC.out.1 HC.out.2).mono ?_
  rintro e w2 ⟨rfl,h⟩
  have H2:=qh (below_call H1.out h);clear h
  rw [HBB.out]
  go_wp2_with fail
  go_ret
  exact ⟨rfl,H2.out⟩
theorem code_of {m:Int} {H:List Iv} {e:Int × Option Int} (h:chkN m H=some e):codeE (some e)=codeE (chkN m H):=by rw [h]
theorem chkE_at9 {V:VcT} {k:Nat} (hk:k<V.length) (h:∀ j,j<k→badV V j=0) {c:Int} (hb:badV V k=c) (hc:c≠0):chkE9 V=some (c,some (k:Int)):=by
 unfold chkE9
 rw [chkVec_some hk h (by rw [hb];exact hc),hb]
 rfl
theorem chkE_none9 {V:VcT} (h:∀ j,j<V.length→badV V j=0):chkE9 V=none:=by unfold chkE9;rw [chkVec_none h];rfl
theorem bef_snoc {V:VcT} {k:Nat} (h:∀ j,j<k→badV V j=0) (hk:badV V k=0):∀ j,j<k+1→badV V j=0:=fun j hj=>by
 rcases Nat.lt_or_eq_of_le (Nat.le_of_lt_succ hj) with h1 | h1
 ·exact h j h1
 ·rw [h1];exact hk
theorem k5_call {W w1 w2:World} {a0 b0 b1 b2:Addr} {u0 v0 v1 v2:Value} (h:Below W.heap.size W w1∧w1.cell? a0=some u0∧w1.cell? b0=some v0∧w1.cell? b1=some v1∧w1.cell? b2=some v2) (hb:Below w1.heap.size w1 w2) :
 Below W.heap.size W w2∧w2.cell? a0=some u0∧w2.cell? b0=some v0∧w2.cell? b1=some v1∧w2.cell? b2=some v2:=
 ⟨below_call h.1 hb,keep_cell h.2.1 hb,keep_cell h.2.2.1 hb,keep_cell h.2.2.2.1 hb,keep_cell h.2.2.2.2 hb⟩
set_option maxRecDepth 100000 in
set_option maxHeartbeats 4000000 in
theorem vCheck_any (V:VcT) (v:Value) (w:World) (hg:ErrT w) (hv:VecM w v V):Calls Tryz.prog 137 #[v] w (IsErr (chkE9 V) w):=by
 obtain ⟨p,cap,rfl⟩:=hv.shape
 have hlen:=hv.len
 have HV:=qh hv;clear hv
 have HG:=qh hg;clear hg
 have KC:=qh eCheck_any
 have KF:=qh Code_any
 have KN:=qh new_ok
 have KB:=qh behind_any
 go_enter Tryz.func137,Tryz.ntmps137
 go_wp2_with fail
 go_loopw [8] (fun i wr=>∃ k:Nat,i = .int .i64 k∧k≤V.length∧(∀ j,j<k→badV V j=0)∧Below w.heap.size w wr) (fun i _=>V.length - (intOf i).toNat)
 case atStart=>exact ⟨0,rfl,Nat.zero_le _,fun j hj=>absurd hj (Nat.not_lt_zero j),Below.refl _ _⟩
 case round =>
  obtain ⟨k,rfl,hk,hbef,hb⟩:=hrel
  have HBF:=qh hbef;clear hbef
  have HB:=qh hb;clear hb
  by_cases hlt:k<V.length
  ·obtain ⟨⟨x,m,H⟩,hx⟩:∃ x,V[k]? = some x:=⟨V[k],by simp [hlt]⟩
   obtain ⟨b,o,cap',q,n,c,e,c0,c1,c2,ha⟩:=(HV.out.call HB.out).elem hx
   cases e
   have hbw:=below_new wr (.cells #[.int .u64 x,.int .u64 m,.slice q n c] 82)
   have t0:(wr.alloc (.cells #[.int .u64 x,.int .u64 m,.slice q n c] 82)).cell? ⟨wr.heap.size,0,none⟩=some (.int .u64 x):=by simp
   have HT:=qh t0;clear t0
   have HA:=qh (And.intro (HG.out.here (below_call HB.out hbw)) (ha.call hbw));clear ha
   have HBW:=qh (below_call HB.out hbw);clear hbw
   have HX:=qh hx;clear hx
   have i1:(0:Int)≤(k:Int):=by omega
   have i2:(k:Int)<(V.length:Int):=by omega
   have HLT:=qh hlt
   cases hc:chkN m H with
   | some x1 =>
     have hcd:codeE (chkN m H)≠0:=by rw [hc];exact code_some hc
     have HZ:=qh (chkE_at9 hlt HBF.out (badV_code HX.out hcd) hcd)
     obtain ⟨t,u,hu⟩:=errV_some (x:=some x1) (by simp)
     have HCD:=qh (code_of hc)
     have h00:(codeE (chkN m H) == 0)=false:=by simpa using hcd
     have H00:=qh h00;clear h00
     have kc:=KC.out x m H _ _ HA.out.1 HA.out.2
     have kf:=fun W h=>KF.out (some x1) W h
     rw [hc] at kc
     unfold IsErr at kc
     rw [hu] at kc kf
     rw [code_of hc] at kf
     have K:=qh kc;clear kc
     have KF1:=qh kf;clear kf hcd hu HCD
     generalize codeE (chkN m H)=cd at *
     go_wp2_with fail
     refine K.out.mono ?_
     rintro e w1 ⟨rfl,h⟩
     have H1:=qh (below_call HBW.out h);clear h
     go_wp2_with fail
     refine (KF1.out _ (HG.out.here H1.out)).mono ?_
     rintro e w2 ⟨rfl,h⟩
     have H2:=qh (below_call H1.out h);clear h
     go_wp2_with fail
     refine (KN.out cd (k:Int) _ H00.out).mono ?_
     rintro e w3 ⟨rfl,rfl⟩
     go_wp2_with fail
     go_ret
     exact ⟨by rw [HZ.out];rfl,H2.out⟩
   | none =>
     have hcd:codeE (chkN m H)=0:=by rw [hc];rfl
     have kc:=KC.out x m H _ _ HA.out.1 HA.out.2
     rw [hc] at kc
     have K:=qh kc;clear kc hc
     by_cases hk0:k=0
     ·subst hk0
      simp only [Nat.zero_mul,Nat.add_zero] at c0 c1 c2
      have HN:=qh (bef_snoc HBF.out (badV_first HX.out hcd));clear hcd
      go_wp2_with fail
      refine K.out.mono ?_
      rintro e w1 ⟨rfl,h⟩
      have H1:=qh (below_call HBW.out h);clear h
      rw [show errV none = .nilIface from rfl]
      go_wp2_with fail
      go_quiet (fail)
      go_wp2_with fail
      go_roundw
      case rel=>exact ⟨1,by go_num,by omega,HN.out,below_drewN H1.out _⟩
      case measure=>simp [intOf];omega
     ·obtain ⟨j,rfl⟩:∃ j,k=j+1:=⟨k - 1,by omega⟩
      obtain ⟨⟨y,my,Hy⟩,hy⟩:∃ y,V[j]? = some y:=⟨V[j],by simp [show j<V.length by omega]⟩
      have HN:=qh (badV_next HX.out hy hcd);clear hcd
      have HY:=qh hy;clear hy
      have j1:(0:Int)≤(j:Int):=by omega
      have j2:(j:Int)<(V.length:Int):=by omega
      have j3:IntKind.i64.wrap ((j:Int)+1 - 1)=(j:Int):=(IntWalk.i64_in _ (by omega)).trans (by omega)
      have j6:IntKind.i64.wrap (j:Int)=(j:Int):=IntWalk.i64_in _ (by omega)
      have j4:decide ((0:Int)<(j:Int)+1)=true:=decide_eq_true (by omega)
      have j5:((j+1:Nat):Int)=(j:Int)+1:=by omega
      rw [j5] at i1 i2
      obtain ⟨d,hd⟩:∃ d,decide (y<x)=d:=⟨_,rfl⟩
      have KB1:=qh (show ∀ (p:Option Addr) (n c:Nat) (w:World),Calls Tryz.prog 207 #[.int .u64 x,.agg #[.int .u64 y,.int .u64 my,.slice p n c]] w (fun e w'=>e = .returned (.bool d)∧w'=w.alloc (.cells #[.int .u64 y,.int .u64 my,.slice p n c] 82)) from fun p n c w=>hd ▸ behind_any x y my p n c w)
      have HD:=qh hd;clear hd hlt hk0
      rw [j5]
      go_wp2_with fail
      refine K.out.mono ?_
      rintro e w1 ⟨rfl,h⟩
      have T0:=keep_cell HT.out h
      have H1:=qh (below_call HBW.out h);clear h
      rw [show errV none = .nilIface from rfl]
      obtain ⟨b',o',cp',q',n',ce',ee,d0,d1,d2,_⟩:=(HV.out.call H1.out).elem HY.out
      cases ee
      have HS:=qh (show Below w1.heap.size w1 w1∧_∧_∧_∧_ from ⟨Below.refl _ _,T0,d0,d1,d2⟩)
      clear T0 d0 d1 d2 c0 c1 c2
      go_wp2_with fail
      go_region_held3 (fun w'=>Below w1.heap.size w1 w'∧w'.cell? ⟨wr.heap.size,0,none⟩=some (.int .u64 x)∧w'.cell? ⟨b,o+j*3,none⟩=some (.int .u64 y)∧w'.cell? ⟨b,o+j*3+1,none⟩=some (.int .u64 my)∧w'.cell? ⟨b,o+j*3+2,none⟩=some (.slice q' n' ce'))
       (first
         | exact k5_call HS.out (Below.refl _ _).drew
         | exact k5_call (by assumption) (below_new _ _))
       ((go_at_call 207;refine (KB1.out _ _ _ _).mono ?_;rintro en w3 ⟨rfl,hw⟩;obtain rfl:=hw;have HW3:=qh (below_call H1.out (below_call (Below.refl _ _).drew (below_new w1.drew (.cells #[.int .u64 y,.int .u64 my,.slice q' n' ce'] 82))))))
      by_cases hle:x≤y
      ·have hdd:d=false:=by rw [← HD.out];exact decide_eq_false (by omega)
       subst hdd
       have HZ:=qh (chkE_at9 HLT.out HBF.out (HN.out.trans (if_pos hle)) (by decide));clear HN hle
       go_wp2_with fail
       refine (KN.out 3 _ _ (by decide)).mono ?_
       rintro e w4 ⟨rfl,rfl⟩
       go_wp2_with fail
       go_ret
       exact ⟨by rw [HZ.out];rfl,HW3.out⟩
      ·have hdd:d=true:=by rw [← HD.out];exact decide_eq_true (by omega)
       subst hdd
       have HZ:=qh (bef_snoc HBF.out (HN.out.trans (if_neg hle)));clear HN hle
       go_wp2_with fail
       go_roundw
       case rel=>exact ⟨j+1+1,by go_num,by omega,HZ.out,HW3.out⟩
       case measure=>simp [intOf];omega
  ·obtain rfl:k=V.length:=by omega
   have HZ:=qh (chkE_none9 HBF.out)
   go_wp2_with fail
   go_ret
   exact ⟨by rw [HZ.out];rfl,HB.out⟩
end
section
open Go.RowKit
def badE9 (x:Int × Int × List Iv):Bool := !(okN x.2.1 x.2.2 && canonB x.2.1 x.2.2)
def idx9 (V:VcT):Int:=match V.findIdx? badE9 with | some k=>(k:Int) | none => -1
theorem idx9_some {V:VcT} {k:Nat} {x:Int × Int × List Iv} (hx:V[k]? = some x) (hr:badE9 x=true) (h:∀ j y,j<k→V[j]? = some y→badE9 y=false):idx9 V=(k:Int):=by
 unfold idx9
 have:V.findIdx? badE9=some k:=by
  rw [List.findIdx?_eq_some_iff_getElem]
  obtain ⟨hlt,he⟩:=List.getElem?_eq_some_iff.1 hx
  refine ⟨hlt,by rw [he];exact hr,fun j hj => ?_⟩
  have:=h j V[j] hj (by simp [show j<V.length by omega])
  simpa using this
 rw [this]
theorem idx9_none {V:VcT} (h:∀ (j:Nat) y,V[j]? = some y→badE9 y=false):idx9 V = -1:=by
 unfold idx9
 have:V.findIdx? badE9=none:=by
  rw [List.findIdx?_eq_none_iff]
  intro x hx
  obtain ⟨i,hi⟩:=List.mem_iff_getElem?.1 hx
  exact h i x hi
 rw [this]
theorem idx9_can (V:VcT):decide ((0:Int)≤idx9 V) = !canV V:=by
 unfold idx9
 cases hf:V.findIdx? badE9 with
 | none =>
   have:canV V=true:=by
    unfold canV
    rw [List.all_eq_true]
    intro x hx
    have:=List.findIdx?_eq_none_iff.1 hf x hx
    unfold badE9 at this
    simpa using this
   rw [this];decide
 | some k =>
   obtain ⟨hlt,hb,_⟩:=List.findIdx?_eq_some_iff_getElem.1 hf
   have:canV V=false:=by
    unfold canV
    rw [List.all_eq_false]
    refine ⟨V[k],List.getElem_mem hlt,?_⟩
    unfold badE9 at hb
    show ¬ (okN V[k].2.1 V[k].2.2 && canonB V[k].2.1 V[k].2.2)=true
    intro hh
    rw [hh] at hb
    cases hb
   rw [this]
   exact decide_eq_true (by simp)
set_option maxRecDepth 100000 in
theorem not1_any (x m:Int) (H:List Iv) (s:Value) (w:World) (hg:ErrT w) (ha:AnyAt w s m H) :
 Calls Tryz.prog 182 #[.agg #[.int .u64 x,.int .u64 m,s]] w (IsEnd (badE9 (x,m,H)) w):=by
 obtain ⟨p,cap,rfl,_⟩:=ha.at'.shape
 have hb:=below_new w (.cells #[.int .u64 x,.int .u64 m,.slice p H.length cap] 82)
 have K:=qh (eCanonical_any x m H _ _ (hg.here hb) (ha.call hb));clear hg ha
 have HB:=qh hb;clear hb
 obtain ⟨d,hd⟩:∃ d,(okN m H && canonB m H)=d:=⟨_,rfl⟩
 have HD:Hid (badE9 (x,m,H) = !d):=qh (by unfold badE9;rw [hd])
 rw [hd] at K;clear hd
 go_enter Tryz.func182,Tryz.ntmps182
 go_wp2_with fail
 refine K.out.mono ?_
 rintro e w1 ⟨rfl,h⟩
 have H1:=qh (below_call HB.out h);clear h
 go_wp2_with fail
 go_ret
 exact ⟨by rw [HD.out];rfl,H1.out⟩
set_option maxRecDepth 100000 in
set_option maxHeartbeats 2000000 in
theorem index9_any (V:VcT) (v:Value) (w:World) (hg:ErrT w) (hv:VecM w v V) :
 Calls Tryz.prog 234 #[v,.func (.func 182) #[] #[]] w (IsInt (idx9 V) w):=by
 obtain ⟨p,cap,rfl⟩:=hv.shape
 have hlen:=hv.len
 have HV:=qh hv;clear hv
 have HG:=qh hg;clear hg
 have K:=qh not1_any
 go_enter Tryz.func234,Tryz.ntmps234
 go_wp2_with fail
 go_loopw [8] (fun i wr=>∃ k:Nat,i = .int .i64 k∧k≤V.length∧(∀ j y,j<k→V[j]? = some y→badE9 y=false)∧Below w.heap.size w wr) (fun i _=>V.length - (intOf i).toNat)
 case atStart=>exact ⟨0,rfl,Nat.zero_le _,fun j z hj=>absurd hj (Nat.not_lt_zero j),Below.refl _ _⟩
 case round =>
  obtain ⟨k,rfl,hk,hbef,hb⟩:=hrel
  have HBF:=qh hbef;clear hbef
  have HB:=qh hb;clear hb
  by_cases hlt:k<V.length
  ·obtain ⟨⟨x,m,H⟩,hx⟩:∃ x,V[k]? = some x:=⟨V[k],by simp [hlt]⟩
   obtain ⟨b,o,cap',q,n,c,e,c0,c1,c2,ha⟩:=(HV.out.call HB.out).elem hx
   cases e
   have HA:=qh ha;clear ha
   have HX:=qh hx;clear hx
   have i1:(0:Int)≤(k:Int):=by omega
   have i2:(k:Int)<(V.length:Int):=by omega
   cases hd:badE9 (x,m,H) with
   | true =>
     have HZ:=qh (idx9_some HX.out hd HBF.out)
     go_wp2_with fail
     refine (K.out x m H _ _ (HG.out.here HB.out) HA.out).mono ?_
     rintro e w1 ⟨rfl,h⟩
     have H1:=qh (below_call HB.out h);clear h
     rw [hd]
     clear hd
     go_wp2_with fail
     go_ret
     exact ⟨by rw [HZ.out];rfl,H1.out⟩
   | false =>
     have HD:=qh hd
     go_wp2_with fail
     refine (K.out x m H _ _ (HG.out.here HB.out) HA.out).mono ?_
     rintro e w1 ⟨rfl,h⟩
     have H1:=qh (below_call HB.out h);clear h
     rw [hd]
     clear hd
     go_wp2_with fail
     go_roundw
     case rel=>exact ⟨k+1,by go_num,by omega,fun j y hj hy=>by
      rcases Nat.lt_or_eq_of_le (Nat.le_of_lt_succ hj) with h | h
      ·exact HBF.out j y h hy
      ·subst h
       obtain rfl:=Option.some.inj (HX.out.symm.trans hy)
       exact HD.out,H1.out⟩
     case measure=>simp [intOf];omega
  ·obtain rfl:k=V.length:=by omega
   have HZ:=qh (idx9_none (V:=V) fun j y hy=>HBF.out j y (List.getElem?_eq_some_iff.1 hy).1 hy)
   go_wp2_with fail
   go_ret
   exact ⟨by rw [HZ.out];rfl,HB.out⟩
set_option maxRecDepth 100000 in
theorem contains9_any (V:VcT) (v:Value) (w:World) (hg:ErrT w) (hv:VecM w v V) :
 Calls Tryz.prog 184 #[v,.func (.func 182) #[] #[]] w (IsEnd (!canV V) w):=by
 obtain ⟨p,cap,rfl⟩:=hv.shape
 have K:=qh (index9_any V _ w hg hv);clear hg hv
 have HZ:=qh (idx9_can V)
 generalize idx9 V=j at *
 generalize canV V=d at *
 go_enter Tryz.func184,Tryz.ntmps184
 go_wp2_with fail
 refine K.out.mono ?_
 rintro e w1 ⟨rfl,h⟩
 have H1:=qh h;clear h
 go_wp2_with fail
 go_ret
 exact ⟨by rw [← HZ.out];rfl,H1.out⟩
set_option maxRecDepth 100000 in
set_option maxHeartbeats 2000000 in
theorem vCanonical_any (V:VcT) (v:Value) (w:World) (hg:ErrT w) (hv:VecM w v V):Calls Tryz.prog 113 #[v] w (IsEnd (canV V && rightV V) w):=by
 obtain ⟨p,cap,rfl⟩:=hv.shape
 have kc:=vCheck_any V _ w hg hv
 have HV:=qh hv;clear hv
 have HG:=qh hg;clear hg
 have KX:=qh (fun W h h2=>contains9_any V (.slice p V.length cap) W h h2)
 cases hc:chkVec V with
 | some x =>
   have hr:rightV V=false:=by unfold rightV;rw [hc];rfl
   have he:chkE9 V=some (x.1,some (x.2:Int)):=by unfold chkE9;rw [hc];rfl
   obtain ⟨t,u,hu⟩:=errV_some (x:=some (x.1,some (x.2:Int))) (by simp)
   rw [he] at kc
   unfold IsErr at kc
   rw [hu] at kc
   rw [hr,Bool.and_false]
   have K:=qh kc;clear kc he hu hr hc KX
   go_enter Tryz.func113,Tryz.ntmps113
   go_wp2_with fail
   refine K.out.mono ?_
   rintro e w1 ⟨rfl,h⟩
   have H1:=qh h;clear h
   go_wp2_with fail
   go_ret
   exact ⟨rfl,H1.out⟩
 | none =>
   have hr:rightV V=true:=by unfold rightV;rw [hc];rfl
   have he:chkE9 V=none:=by unfold chkE9;rw [hc];rfl
   rw [he] at kc
   rw [hr,Bool.and_true]
   have K:=qh kc;clear kc he hr hc
   generalize canV V=d at *
   go_enter Tryz.func113,Tryz.ntmps113
   go_wp2_with fail
   refine K.out.mono ?_
   rintro e w1 ⟨rfl,h⟩
   have H1:=qh h;clear h
   rw [show errV none = .nilIface from rfl]
   go_wp2_with fail
   refine (KX.out _ (HG.out.here H1.out) (HV.out.call H1.out)).mono ?_
   rintro e w2 ⟨rfl,h⟩
   have H2:=qh (below_call H1.out h);clear h
   cases d <;>
   ·go_wp2_with fail
    go_ret
    exact ⟨rfl,H2.out⟩
theorem soft_low9 {w:World} {B B':Nat} {v:Value} {n:Nat} (h:SoftE w B v n) (hB:B'≤B):SoftE w B' v n:=by
 obtain ⟨p,cap,h1,h2,h3⟩:=h
 refine ⟨p,cap,h1,h2,fun hn => ?_⟩
 obtain ⟨g,o,h4,h5,h6⟩:=h3 hn
 exact ⟨g,o,h4,Nat.le_trans hB h5,h6⟩
theorem holes_le:∀ (n:Nat) (m:Int) (H:List Iv),H.length=n→GoodE m H→(holesL (knownL m H)).length≤H.length
 | n,m,H,hn,hg=>by
   rcases List.eq_nil_or_concat H with rfl | ⟨G,y,rfl⟩
   ·rw [(fin_of (m:=m) (H := []) hg rfl rfl 0).2.2.1]
    exact Nat.le_refl _
   ·rw [List.concat_eq_append] at *
    by_cases hy:y.2<m
    ·rw [(fin_of hg (trim_done hg hy) rfl 0).2.2.1]
     exact Nat.le_refl _
    ·by_cases h0:y.1=0
     ·rw [trim_none hg hy h0]
      simp [holesL]
     ·obtain ⟨h1,h2⟩:=trim_step hg hy h0
      rw [← h2]
      have:=holes_le G.length _ G rfl h1
      rw [List.length_append]
      omega
termination_by n=>n
decreasing_by simp at hn;omega
def OutS (w:World) (B:Nat) (v:Value) (V:VcT):Prop:=
 ∃ es:List (Int × Int × Value),es.length=V.length∧w.ownsRow B 82 3 v es.length (entC es)∧(∀ (i:Nat) (e:Int × Int × Value) (x:Int × Int × List Iv),es[i]? = some e→V[i]? = some x→e.1=x.1∧e.2.1=x.2.1∧HolE w B v.ownBlock e.2.2 x.2.2)∧∀ e ∈ es,SaneE e.2.2
theorem OutS.nil (w:World) (B:Nat):OutS w B (.slice none 0 0) []:=⟨[],rfl,World.ownsRow_nil w B _ 3,fun i e x h=>by simp at h,fun e h=>by simp at h⟩
theorem OutS.shape {w:World} {B:Nat} {v:Value} {V:VcT} (h:OutS w B v V):∃ p cap,v = .slice p V.length cap:=by
 obtain ⟨es,h1,h2,_⟩:=h
 obtain ⟨p,cap,e,_⟩:=own_shape h2
 exact ⟨p,cap,by rw [e,h1]⟩
theorem OutS.call {w w':World} {B:Nat} {v:Value} {V:VcT} (h:OutS w B v V) (hb:Below w.heap.size w w'):OutS w' B v V:=by
 obtain ⟨es,h1,h2,h3,h4⟩:=h
 exact ⟨es,h1,own_below h2 hb,fun i e x he hx=>⟨(h3 i e x he hx).1,(h3 i e x he hx).2.1,(h3 i e x he hx).2.2.call hb⟩,h4⟩
theorem OutS.push {w w2:World} {B:Nat} {v v2:Value} {es:List (Int × Int × Value)} {V:VcT} {r m:Int} {s:Value} {H:List Iv} (hel:es.length=V.length)
 (hall:∀ (i:Nat) (e:Int × Int × Value) (x:Int × Int × List Iv),es[i]? = some e→V[i]? = some x→e.1=x.1∧e.2.1=x.2.1∧HolE w B v.ownBlock e.2.2 x.2.2)
 (hrow:w2.ownsRow B 82 3 v2 (es.length+1) (entC es ++ [.int .u64 r,.int .u64 m,s])) (hg:w.grownBy w2 v.ownBlock) (hat:v2.ownBlock=v.ownBlock∨v2.ownBlock=some w.heap.size) (hx:HolE w B v.ownBlock s H) (hs:∀ e ∈ es,SaneE e.2.2) (hss:SaneE s):OutS w2 B v2 (V ++ [(r,m,H)]):=by
 refine ⟨es ++ [(r,m,s)],by rw [List.length_append,List.length_append,hel];rfl,?_,fun i e x he hx' => ?_,fun e he => ?_⟩
 ·rw [List.length_append,entC_app];exact hrow
 ·by_cases hi:i<es.length
  ·rw [List.getElem?_append_left hi] at he
   rw [List.getElem?_append_left (by omega)] at hx'
   obtain ⟨h1,h2,h3⟩:=hall i e x he hx'
   exact ⟨h1,h2,h3.grown hg hat⟩
  ·rw [List.getElem?_append_right (by omega)] at he
   rw [List.getElem?_append_right (by omega)] at hx'
   have h0:i - es.length=0:=by
    have:=(List.getElem?_eq_some_iff.1 he).1
    simpa using this
   have h0':i - V.length=0:=by omega
   rw [h0] at he;rw [h0'] at hx'
   obtain rfl:(r,m,s)=e:=by simpa using he
   obtain rfl:(r,m,H)=x:=by simpa using hx'
   exact ⟨rfl,rfl,hx.grown hg hat⟩
 ·rcases List.mem_append.1 he with h | h
  ·exact hs e h
  ·obtain rfl:=List.mem_singleton.1 h
   exact hss
theorem sane_own {W:World} {B n sz:Nat} {t:TypeId} {v:Value} {xs:List Value} (h:W.ownsRow B t sz v n xs):SaneE v:=by
 rcases h.2 with ⟨h1,_⟩ | ⟨g,cap,cur,h1,_,_,hnc,_⟩
 ·refine ⟨fun n c e => ?_,fun a n c e => ?_⟩
  ·rw [e] at h1;cases h1;exact ⟨rfl,rfl⟩
  ·rw [e] at h1;cases h1
 ·refine ⟨fun n c e => ?_,fun a n c e => ?_⟩
  ·rw [e] at h1;cases h1
  ·rw [e] at h1;cases h1;exact hnc
theorem OutS.done {w:World} {B:Nat} {v:Value} {V:VcT} (h:OutS w B v V) (hl:V.length≤100000) (hg:∀ x ∈ V,(0≤x.1∧x.1≤18446744073709551615)∧All64 x.2.2∧(0≤x.2.1∧x.2.1≤18446744073709551615)∧x.2.2.length≤5000) :
 VecS w v V∧SoftW w B v (nsV V):=by
 obtain ⟨es,h1,h2,h3,h4⟩:=h
 refine ⟨⟨⟨⟨es,OutV.vecAt h2,h1,fun i e x he hx => ?_⟩,hl⟩,sane_own h2,fun x hx=>(hg x hx).1⟩,?_⟩
 ·obtain ⟨k1,k2,k3⟩:=h3 i e x he hx
  obtain ⟨g1,g2,g3,g4⟩:=hg x (List.mem_of_getElem? hx)
  exact ⟨k1,k2,k3.ivs,g2,h4 e (List.mem_of_getElem? he),g3.1,g3.2,g4⟩
 ·have hnl:(nsV V).length=es.length:=by unfold nsV;rw [List.length_map,h1]
  have hrow:=h2
  rcases h2.2 with ⟨rfl,h0⟩ | ⟨g,cap,cur,rfl,hbg,hgg,hnc,hcm,_⟩
  ·exact ⟨none,0,by rw [hnl,h0],by rw [hnl,h0];exact Nat.zero_le _,fun hne=>absurd (List.eq_nil_of_length_eq_zero (by rw [hnl,h0])) hne⟩
  ·refine ⟨_,cap,by rw [hnl],by rw [hnl];exact Nat.le_trans hnc hcm,fun _=>⟨g,0,rfl,hbg,fun i n hi => ?_⟩⟩
   have hilt:i<V.length:=by have:=(List.getElem?_eq_some_iff.1 hi).1;rw [hnl] at this;omega
   have hx:V[i]? = some V[i]:=by simp [hilt]
   have he:es[i]? = some es[i]:=by simp [show i<es.length by omega]
   obtain ⟨c0,c1,c2⟩:=own_cells3 hrow rfl i _ he
   obtain ⟨k1,k2,k3⟩:=h3 i _ _ he hx
   have hn:n=V[i].2.2.length:=by unfold nsV at hi;rw [List.getElem?_map,hx] at hi;exact (Option.some.inj hi).symm
   subst hn
   exact ⟨⟨_,c0⟩,⟨_,c1⟩,hrow.frozenAt _,hrow.frozenAt _,_,c2,k3.soft⟩
theorem canon_low {V:VcT} (hg:GoodV V) (h:∀ x ∈ V,(0≤x.1∧x.1≤18446744073709551615)∧x.2.2.length≤5000):∀ y ∈ canonV V,(0≤y.1∧y.1≤18446744073709551615)∧All64 y.2.2∧(0≤y.2.1∧y.2.1≤18446744073709551615)∧y.2.2.length≤5000:=by
 intro y hy
 obtain ⟨x,hx,hc⟩:=List.mem_filterMap.1 hy
 have hgx:=hg.ent x hx
 obtain ⟨h1,h2,_⟩:=canE_some hgx hc
 have hlen:y.2.2.length≤x.2.2.length:=by
  unfold canE at hc
  split at hc
  ·cases hc
  ·obtain rfl:=Option.some.inj hc
   exact holes_le _ _ _ rfl hgx
 have:=(h x hx).2
 refine ⟨by rw [h1];exact (h x hx).1,?_,?_,by omega⟩
 ·exact h2.good.all
 ·exact ⟨h2.low,h2.top⟩
set_option maxRecDepth 100000 in
set_option maxHeartbeats 4000000 in
theorem vCanon_any (V:VcT) (v:Value) (w:World) (hv:VecS w v V) (hg:GoodV V):Calls Tryz.prog 200 #[v] w (IsVN (canonV V) w):=by
 obtain ⟨i0,hi',hz0,hz1,hz2⟩:=info_parts infoE
 obtain ⟨p,cap,rfl⟩:=hv.m.shape
 have hlen:=hv.m.len
 have hlow:∀ x ∈ V,(0≤x.1∧x.1≤18446744073709551615)∧x.2.2.length≤5000:=fun x hx=>⟨hv.rng x hx,by
  obtain ⟨i,hi⟩:=List.mem_iff_getElem?.1 hx
  obtain ⟨_,_,_,_,_,_,_,_,_,_,ha⟩:=hv.m.elem hi
  exact ha.len⟩
 have HFIN:Hid (∀ y ∈ canonV V,(0≤y.1∧y.1≤18446744073709551615)∧All64 y.2.2∧(0≤y.2.1∧y.2.1≤18446744073709551615)∧y.2.2.length≤5000):=qh (canon_low hg hlow)
 have HV:=qh hv.m;clear hv hlow
 have HG:=qh hg;clear hg
 have KE:=qh eCanon_any
 go_enter Tryz.func200,Tryz.ntmps200
 go_wp2_with fail
 go_loopw [3,10] (fun vo i wr=>∃ k:Nat,i = .int .i64 k∧k≤V.length∧OutS wr w.heap.size vo (canonV (V.take k))∧Below w.heap.size w wr) (fun _ i _=>V.length - (intOf i).toNat)
 case atStart=>exact ⟨0,rfl,Nat.zero_le _,OutS.nil _ _,Below.refl _ _⟩
 case round =>
  obtain ⟨k,rfl,hk,hout,hb⟩:=hrel
  obtain ⟨pv,cv,rfl⟩:=hout.shape
  have HB:=qh hb;clear hb
  have hszw:=HB.out.size
  by_cases hlt:k<V.length
  ·obtain ⟨⟨r,m,H⟩,hx⟩:∃ x,V[k]? = some x:=⟨V[k],by simp [hlt]⟩
   obtain ⟨b,o,cp,q,n,c,e,c0,c1,c2,ha⟩:=(HV.out.call HB.out).elem hx
   cases e
   obtain ⟨_,_,es,_⟩:=ha.at'.shape
   cases es
   have hge:=HG.out.ent _ (List.mem_iff_getElem?.2 ⟨k,hx⟩)
   have hbn:=below_new wr (.cells #[.int .u64 r,.int .u64 m,.slice q H.length c] 82)
   have K:=qh (KE.out r m H (.slice q H.length c) _ ⟨ha.call hbn,hge⟩)
   have HBN:=qh hbn;clear hbn
   have hcl:=canonV_len (V.take k)
   rw [List.length_take] at hcl
   have HC:=qh (And.intro (canonV_snoc hx) (show (canonV (V.take k)).length≤100000 by omega))
   have i1:(0:Int)≤(k:Int):=by omega
   have i2:(k:Int)<(V.length:Int):=by omega
   clear ha hge hx hcl
   generalize knownL m H=KK at *
   generalize canonV (V.take k)=P at *
   go_wp2_with fail
   refine K.out.mono ?_
   rintro e w1 ⟨vc,rfl,hvc,hsa,hso,h⟩
   obtain ⟨pc,cc,rfl,_⟩:=hvc.shape
   have HH:=qh (And.intro hvc (And.intro hsa (soft_low9 hso HBN.out.size)));clear hvc hso hsa
   have H1:=qh (below_call HBN.out h);clear h c0 c1 c2
   by_cases hK:KK = []
   ·have e1:someE KK=false:=by rw [hK];rfl
    rw [e1]
    have hb2:=below_new w1 (.cells #[.int .u64 (repE r KK),.int .u64 (topL KK),.slice pc (holesL KK).length cc] 82)
    have HB2:=qh (below_call H1.out hb2);clear hb2
    have HO:=qh hout;clear hout
    have HC':=qh (HC.out.1.trans (if_pos hK));clear HC hK
    generalize repE r KK=rr at *
    generalize topL KK=tt at *
    generalize (holesL KK).length=ll at *
    go_wp2_with fail
    go_roundw
    case rel=>exact ⟨k+1,by go_num,by omega,by rw [HC'.out];exact HO.out.call HB2.out,below_call HB.out HB2.out⟩
    case measure=>simp [intOf];omega
   ·have e1:someE KK=true:=some9_of hK
    rw [e1]
    have HC':=qh (And.intro (HC.out.1.trans (if_neg hK)) HC.out.2);clear HC hK
    generalize repE r KK=rr at *
    generalize topL KK=tt at *
    generalize holesL KK=hh at *
    obtain ⟨w2,hw2⟩:∃ w2,w1.alloc (.cells #[.int .u64 rr,.int .u64 tt,.slice pc hh.length cc] 82)=w2:=⟨_,rfl⟩
    have e3:E3 w2 w1.heap.size rr tt (.slice pc hh.length cc):=hw2 ▸ E3.new w1 rr tt (.slice pc hh.length cc) 82 _ rfl
    have hb2:Below w1.heap.size w1 w2:=hw2 ▸ below_new w1 _
    obtain ⟨t0,t1,t2⟩:=e3
    have HB2:=qh (below_call H1.out hb2)
    obtain ⟨es,hel,hrow,hall,hsan⟩:=hout
    have HROW:=qh hrow
    have HALL:=qh (And.intro hall hsan)
    have HAP:=qh (fun h0=>own_apart hrow HH.out.2.2 h0)
    have HH2:=qh (And.intro (HH.out.1.call hb2) (And.intro (soft_low9 (HH.out.2.2.call hb2) hszw) HH.out.2.1))
    clear hrow hall hsan hb2 HH
    have hel2:es.length≤100000:=by rw [hel];exact HC'.out.2
    have HSZ:=qh (Nat.le_trans hszw HB2.out.size)
    go_wp2_with (at_builtin;go_loud (refine wpList_append_own_at _ rfl _ _ 44 rfl w.heap.size 82 i0 (.agg #[.int .u64 0,.int .u64 0,.slice none 0 0]) 3 40 Tryz.underlying44 hi' hz0 hz1 hz2 rfl (by decide) _ es.length (entC es) rfl (own_below HROW.out (below_call HB2.out (below_new _ _))) ⟨w2.heap.size,0,none⟩ 1 1 [.int .u64 rr,.int .u64 tt,.slice pc hh.length cc] rfl rfl (cell_three9 _ _ _ _ _ _ rfl) (by simp [Value.oneCell']) (by unfold maxLen;omega) (by omega) (Nat.le_trans HSZ.out (below_new _ _).size) ?_;intro v' w4 hown' hgrow _ hat;have HN:=qh (below_new w2 (.cells #[.int .u64 rr,.int .u64 tt,.slice pc hh.length cc] 82));have HW4:=qh (own_grown (below_call HB.out (below_call HB2.out HN.out)) (own_below HROW.out (below_call HB2.out HN.out)) hgrow (Nat.le_trans HSZ.out HN.out.size));have HP:=qh (OutS.push hel (fun i e x he hx=>⟨(HALL.out.1 i e x he hx).1,(HALL.out.1 i e x he hx).2.1,(HALL.out.1 i e x he hx).2.2.call (below_call HB2.out HN.out)⟩) hown' hgrow hat (⟨HH2.out.1.call HN.out,HH2.out.2.1.call HN.out,HAP.out⟩:HolE _ _ _ _ hh) HALL.out.2 HH2.out.2.2);clear hown' hgrow hat))
    go_roundw
    case rel=>exact ⟨k+1,by go_num,by omega,by rw [HC'.out.1];exact HP.out,HW4.out⟩
    case measure=>simp [intOf];omega
  ·obtain rfl:k=V.length:=by omega
   rw [List.take_of_length_le (Nat.le_refl _)] at hout ⊢
   have HO:=qh hout;clear hout
   have HCL:=qh (canonV_len V)
   have HFL:=qh HFIN.out
   go_wp2_with fail
   go_ret
   obtain ⟨s1,s2⟩:=HO.out.done (by have:=HCL.out;omega) HFL.out
   exact ⟨_,rfl,s1,s2,HB.out⟩
end
section
open Go.RowKit
theorem SoftW.call {w w':World} {B:Nat} {v:Value} {ns:List Nat} (h:SoftW w B v ns) (hb:Below w.heap.size w w'):SoftW w' B v ns:=by
 obtain ⟨p,cap,h1,h2,h3⟩:=h
 refine ⟨p,cap,h1,h2,fun hne => ?_⟩
 obtain ⟨b,o,h5,hB,h6⟩:=h3 hne
 refine ⟨b,o,h5,hB,fun i n hi => ?_⟩
 obtain ⟨⟨z,hz⟩,⟨y,hy⟩,f0,f1,s,hs,hso⟩:=h6 i n hi
 exact ⟨⟨z,keep_cell hz hb⟩,⟨y,keep_cell hy hb⟩,keep_free f0 (World.block_lt_of_cell? w _ hz) hb,keep_free f1 (World.block_lt_of_cell? w _ hy) hb,s,keep_cell hs hb,hso.call hb⟩
theorem kept_slice {w:World} {a c:Addr} {k:IntKind} {z:Int} {p:Option Addr} {n m:Nat} (ha:w.cell? a=some (.int k z)) (hc:w.cell? c=some (.slice p n m)) (y:Value):(w.setCell a y).cell? c=some (.slice p n m):=by
 rw [World.cell?_setCell_other _ _ _ _ (fun e=>by rw [e,hc] at ha;cases ha)];exact hc
theorem int_set {w:World} {a c:Addr} {y:Int} (h:∃ z:Int,w.cell? c=some (.int .u64 z)):∃ z:Int,(w.setCell a (.int .u64 y)).cell? c=some (.int .u64 z):=by
 obtain ⟨z,hz⟩:=h
 by_cases he:a=c
 ·subst he;exact ⟨y,World.cell?_setCell_same' _ _ _ (by rw [hz];rfl)⟩
 ·exact ⟨z,by rw [World.cell?_setCell_other _ _ _ _ he];exact hz⟩
theorem SoftE.setI {w:World} {B:Nat} {v:Value} {n:Nat} (h:SoftE w B v n) (a:Addr) (y:Int):SoftE (w.setCell a (.int .u64 y)) B v n:=by
 obtain ⟨p,cap,h1,h2,h3⟩:=h
 refine ⟨p,cap,h1,h2,fun hn => ?_⟩
 obtain ⟨g,o,h4,h5,h6⟩:=h3 hn
 refine ⟨g,o,h4,h5,fun i hi => ?_⟩
 obtain ⟨⟨hz,hf⟩,hy,hg⟩:=h6 i hi
 exact ⟨⟨int_set hz,by rw [World.frozen?_setCell];exact hf⟩,int_set hy,by rw [World.frozen?_setCell];exact hg⟩
theorem SoftW.setI {w:World} {B:Nat} {v:Value} {ns:List Nat} (h:SoftW w B v ns) {a:Addr} {z:Int} (hz:w.cell? a=some (.int .u64 z)) (y:Int):SoftW (w.setCell a (.int .u64 y)) B v ns:=by
 obtain ⟨p,cap,h1,h2,h3⟩:=h
 refine ⟨p,cap,h1,h2,fun hne => ?_⟩
 obtain ⟨b,o,h5,hB,h6⟩:=h3 hne
 refine ⟨b,o,h5,hB,fun i n hi => ?_⟩
 obtain ⟨k0,k1,f0,f1,s,hs,hso⟩:=h6 i n hi
 refine ⟨int_set k0,int_set k1,by rw [World.frozen?_setCell];exact f0,by rw [World.frozen?_setCell];exact f1,s,?_,hso.setI _ _⟩
 obtain ⟨q,c,e,_⟩:=hso
 rw [e] at hs ⊢
 exact kept_slice hz hs _
theorem SoftW.at {w:World} {B:Nat} {v:Value} {ns:List Nat} (h:SoftW w B v ns) {i n:Nat} (hi:ns[i]? = some n):∃ b o m cap z z' p c,v = .slice (some ⟨b,o,none⟩) m cap∧B≤b∧w.cell? ⟨b,o+i*3,none⟩=some (.int .u64 z)∧w.cell? ⟨b,o+i*3+1,none⟩=some (.int .u64 z') ∧
 w.frozen? ⟨b,o+i*3,none⟩=false∧w.frozen? ⟨b,o+i*3+1,none⟩=false∧w.cell? ⟨b,o+i*3+2,none⟩=some (.slice p n c)∧SoftE w B (.slice p n c) n:=by
 obtain ⟨p,cap,h1,_,h3⟩:=h
 obtain ⟨b,o,rfl,hB,h6⟩:=h3 (by intro e;rw [e] at hi;simp at hi)
 obtain ⟨⟨z,hz⟩,⟨y,hy⟩,f0,f1,s,hs,hso⟩:=h6 i n hi
 have hso':=hso
 obtain ⟨q,c,e,_⟩:=hso
 subst e
 exact ⟨b,o,_,cap,z,y,q,c,h1,hB,hz,hy,f0,f1,hs,hso'⟩
theorem SoftE.at {w:World} {B:Nat} {p:Option Addr} {n c:Nat} (h:SoftE w B (.slice p n c) n) {j:Nat} (hj:j<n):∃ g o z z',p=some ⟨g,o,none⟩∧B≤g∧w.cell? ⟨g,o+j*2,none⟩=some (.int .u64 z)∧w.frozen? ⟨g,o+j*2,none⟩=false∧w.cell? ⟨g,o+j*2+1,none⟩=some (.int .u64 z')∧w.frozen? ⟨g,o+j*2+1,none⟩=false:=by
 obtain ⟨p',cap,h1,_,h3⟩:=h
 cases h1
 obtain ⟨g,o,rfl,hB,h6⟩:=h3 (by omega)
 obtain ⟨⟨⟨z,hz⟩,hf⟩,⟨y,hy⟩,hg⟩:=h6 j hj
 exact ⟨g,o,z,y,rfl,hB,hz,hf,hy,hg⟩
end
end Go.Proofs.YtgcakgegboicjaaGreatDoor
