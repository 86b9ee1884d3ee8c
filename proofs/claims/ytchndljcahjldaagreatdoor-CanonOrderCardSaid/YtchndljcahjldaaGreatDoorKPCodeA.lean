/- Package vector: an entry behind a key, the search for a replica, Find, Has. -/
import Derived.Test.YtchndljcahjldaaGreatDoorKPMath
import Derived.Test.YtchndljcahjldaaGreatDoorKNKeeps
import Derived.Sort.Grow
namespace Go.Proofs.YtchndljcahjldaaGreatDoor
section
open Go.RowKit Go.Shelf Go.Sort
def z97 (w w':World):Prop:=∃ q os,w'=grow (w.drewN q) os
theorem z97.refl (w:World):z97 w w:=⟨0,#[],by rw [grow_empty];rfl⟩
theorem z97.drew {w w':World} (h:z97 w w'):z97 w w'.drew:=by
 obtain ⟨q,os,rfl⟩:=h
 exact ⟨q+1,os,rfl⟩
theorem z97.alloc {w w':World} (h:z97 w w') (o:Obj):z97 w (w'.alloc o):=by
 obtain ⟨q,os,rfl⟩:=h
 exact ⟨q,os++#[o],by rw [alloc_eq_grow,grow_grow]⟩
theorem z97.below {w w':World} (h:z97 w w'):Below w.heap.size w w':=by
 obtain ⟨q,os,rfl⟩:=h
 exact below_grown_sl _ _ _ _ (Nat.le_refl _)
set_option maxRecDepth 100000 in
theorem zy1 (k r m:Int) (p:Option Addr) (n c:Nat) (w:World) :
 Calls Tryz.prog 148 #[.int .u64 k,.agg #[.int .u64 r,.int .u64 m,.slice p n c]] w (fun e w'=>e = .returned (.bool (decide (r<k)))∧w'=w.alloc (.cells #[.int .u64 r,.int .u64 m,.slice p n c] 63)):=by
 go_enter Tryz.func148,Tryz.ntmps148
 go_wp2_with fail
 go_ret
 exact ⟨by simp,by simp⟩
def yc0 (V:x6) (r:Int) (i:Nat):Bool:=match V[i]? with | some x => !decide (x.1<r) | none=>false
theorem y15 {V:x6} {i:Nat} {x:Int × Int × List Iv} (r:Int) (h:V[i]? = some x):yc0 V r i = !decide (x.1<r):=by unfold yc0;rw [h]
theorem yt4 {V:x6} (h:V.Pairwise fun x y=>x.1<y.1) (r:Int):∀ a b,a≤b→b<V.length→yc0 V r a=true→yc0 V r b=true:=by
 intro a b hab hb ha
 have hy:V[a]? = some V[a]:=by simp [show a<V.length by omega]
 have hz:V[b]? = some V[b]:=by simp [hb]
 rw [y15 r hy] at ha
 rw [y15 r hz]
 rcases Nat.lt_or_eq_of_le hab with hlt | heq
 ·have:=List.pairwise_iff_getElem.1 h a b (by omega) hb hlt
  simp at ha ⊢;omega
 ·subst heq;exact ha
def r8 (V:x6) (r:Int):Nat:=V.findIdx fun x=>decide (r≤x.1)
theorem yi3 (V:x6) (r:Int):r8 V r≤V.length:=List.findIdx_le_length
theorem zq0 {V:x6} {r:Int} {j:Nat} {y:Int × Int × List Iv} (hj:j<r8 V r) (hy:V[j]? = some y):y.1<r:=by
 obtain ⟨h1,rfl⟩:=List.getElem?_eq_some_iff.1 hy
 have:=List.not_of_lt_findIdx (p:=fun x:Int × Int × List Iv=>decide (r≤x.1)) (xs:=V) (i:=j) hj
 simpa using this
theorem yi4 {V:x6} {r:Int} {y:Int × Int × List Iv} (hy:V[r8 V r]? = some y):r≤y.1:=by
 obtain ⟨h1,rfl⟩:=List.getElem?_eq_some_iff.1 hy
 have:=List.findIdx_getElem (p:=fun x:Int × Int × List Iv=>decide (r≤x.1)) (xs:=V) (w:=h1)
 exact of_decide_eq_true this
theorem yp0 {V:x6} (h:V.Pairwise fun x y=>x.1<y.1) (r:Int):(List.range V.length).countP (fun i => !yc0 V r i)=r8 V r:=by
 have hle:=yi3 V r
 have h1:∀ i,i<r8 V r→yc0 V r i=false:=by
  intro i hi
  have hy:V[i]? = some V[i]:=by simp [show i<V.length by omega]
  rw [y15 r hy]
  have:=zq0 hi hy
  simpa using this
 have h2:∀ i,r8 V r≤i→i<V.length→yc0 V r i=true:=by
  intro i hi hlt
  have hk:r8 V r<V.length:=by omega
  refine yt4 h r (r8 V r) i hi hlt ?_
  have hy:V[r8 V r]? = some V[r8 V r]:=by simp [hk]
  rw [y15 r hy]
  have:=yi4 hy
  simp;omega
 obtain ⟨m,hm⟩:∃ m,V.length=r8 V r+m:=⟨V.length - r8 V r,by omega⟩
 rw [hm,List.range_add,List.countP_append]
 have e1:(List.range (r8 V r)).countP (fun i => !yc0 V r i)=r8 V r:=by
  have:(List.range (r8 V r)).countP (fun i => !yc0 V r i)=(List.range (r8 V r)).length:=by
   rw [List.countP_eq_length]
   intro i hi
   rw [h1 i (by simpa using hi)];rfl
  simpa using this
 have e2:((List.range m).map (r8 V r + ·)).countP (fun i => !yc0 V r i)=0:=by
  rw [List.countP_eq_zero]
  intro i hi
  obtain ⟨j,hj,rfl⟩:=List.mem_map.1 hi
  rw [h2 (r8 V r+j) (by omega) (by have hjm:j<m:=(by simpa using hj);omega)]
  simp
 rw [e1,e2];rfl
theorem w19 {V:x6} {r:Int} {y:Int × Int × List Iv} (hy:V[r8 V r]? = some y) (h:y.1=r):z62 V r=(r8 V r:Int):=
 yj4 hy h fun j z hj hz=>by have:=zq0 hj hz;omega
theorem yt5 {V:x6} {r:Int} (hv:V.Pairwise fun x y=>x.1<y.1) (h:∀ y,V[r8 V r]? = some y→y.1≠r):z62 V r = -1:=by
 refine yj5 fun j y hy e => ?_
 have h1:¬ j<r8 V r:=fun hj=>by have:=zq0 hj hy;omega
 have hlt:=(List.getElem?_eq_some_iff.1 hy).1
 have hk:r8 V r<V.length:=by omega
 have hz:V[r8 V r]? = some V[r8 V r]:=by simp [hk]
 have h2:=yi4 hz
 have h3:=h _ hz
 rcases Nat.lt_or_eq_of_le (Nat.le_of_not_lt h1) with h4 | h4
 ·have h5:=List.pairwise_iff_getElem.1 hv (r8 V r) j hk hlt h4
  obtain ⟨_,e2⟩:=List.getElem?_eq_some_iff.1 hy
  rw [e2] at h5
  omega
 ·exact h y (by rw [h4];exact hy) e
def SrC (kb kk kl:Nat) (r:Int) (v:Value) (a0 a1 a2:Addr) (x m:Int) (s:Value) (W:World):Prop:=
 W.cell? ⟨kb,0,none⟩=some (.func (.func 148) #[] #[])∧W.cell? ⟨kk,0,none⟩=some (.int .u64 r)∧W.cell? ⟨kl,0,none⟩=some v∧W.cell? a0=some (.int .u64 x)∧W.cell? a1=some (.int .u64 m)∧W.cell? a2=some s
theorem SrC.call {kb kk kl:Nat} {r:Int} {v:Value} {a0 a1 a2:Addr} {x m:Int} {s:Value} {A B:World} (h:SrC kb kk kl r v a0 a1 a2 x m s A) (hb:Below A.heap.size A B):SrC kb kk kl r v a0 a1 a2 x m s B:=
 ⟨z6 h.1 hb,z6 h.2.1 hb,z6 h.2.2.1 hb,z6 h.2.2.2.1 hb,z6 h.2.2.2.2.1 hb,z6 h.2.2.2.2.2 hb⟩
theorem xs1 {w:World} {kb kk kl:Nat} {r:Int} {v:Value} {a0 a1 a2:Addr} {x m:Int} {s:Value} (h:SrC kb kk kl r v a0 a1 a2 x m s w):z97 w w.drew∧SrC kb kk kl r v a0 a1 a2 x m s w.drew:=
 ⟨(z97.refl w).drew,h.call (Below.refl _ _).drew⟩
theorem x87 {w w1:World} {kb kk kl:Nat} {r:Int} {v:Value} {a0 a1 a2:Addr} {x m:Int} {s:Value} (h:z97 w w1∧SrC kb kk kl r v a0 a1 a2 x m s w1) (o:Obj):z97 w (w1.alloc o)∧SrC kb kk kl r v a0 a1 a2 x m s (w1.alloc o):=
 ⟨h.1.alloc o,h.2.call (z8 _ _)⟩
set_option maxRecDepth 100000 in
set_option maxHeartbeats 2000000 in
theorem x88 (V:x6) (v:Value) (r:Int) (i kb kk kl:Nat) (w:World) (hv:z71 w v V) (hi:i<V.length)
 (hb:w.cell? ⟨kb,0,none⟩=some (.func (.func 148) #[] #[])) (hk:w.cell? ⟨kk,0,none⟩=some (.int .u64 r)) (hl:w.cell? ⟨kl,0,none⟩=some v) :
 Calls Tryz.prog 213 #[.int .i64 i,.pointer (some ⟨kb,0,none⟩),.pointer (some ⟨kk,0,none⟩),.pointer (some ⟨kl,0,none⟩)] w fun e w'=>e = .returned (.bool (yc0 V r i))∧z97 w w':=by
 have hy:V[i]? = some V[i]:=by simp [hi]
 have hlen:=hv.len
 rw [y15 r hy]
 generalize V[i]=y at *
 obtain ⟨x,m,H⟩:=y
 obtain ⟨b,o,cap,p,n,c,rfl,c0,c1,c2,_⟩:=hv.elem hy
 dsimp only
 have hj0:(0:Int)≤(i:Int):=by omega
 have hj1:(i:Int)<(V.length:Int):=by omega
 have HS:=qh (show SrC kb kk kl r (.slice (some ⟨b,o,none⟩) V.length cap) ⟨b,o+i*3,none⟩ ⟨b,o+i*3+1,none⟩ ⟨b,o+i*3+2,none⟩ x m (.slice p n c) w from ⟨hb,hk,hl,c0,c1,c2⟩)
 have KB:=qh zy1
 have HD:Hid (∀ W,z97 w W→z97 w W):=qh fun _ h=>h
 clear hv hy
 generalize V.length=ln at *
 obtain ⟨d,hd⟩:∃ d,decide (x<r)=d:=⟨_,rfl⟩
 rw [hd]
 have HDD:=qh hd;clear hd
 go_enter Tryz.func213,Tryz.ntmps213
 go_wp2_with fail
 go_region_held3 (fun w'=>z97 w w'∧w'.cell? ⟨kb,0,none⟩=some (.func (.func 148) #[] #[])∧w'.cell? ⟨kk,0,none⟩=some (.int .u64 r)∧w'.cell? ⟨kl,0,none⟩=some (.slice (some ⟨b,o,none⟩) ln cap)∧w'.cell? ⟨b,o+i*3,none⟩=some (.int .u64 x)∧w'.cell? ⟨b,o+i*3+1,none⟩=some (.int .u64 m)∧w'.cell? ⟨b,o+i*3+2,none⟩=some (.slice p n c))
  (first
    | exact xs1 HS.out
    | exact x87 (by assumption) _)
  ((go_at_call 148;refine (KB.out _ _ _ _ _ _ _).mono ?_;rintro en w3 ⟨rfl,hw⟩;obtain rfl:=hw;rw [HDD.out];have hG:=qh (x87 (xs1 HS.out) (.cells #[.int .u64 x,.int .u64 m,.slice p n c] 63)).1))
 go_wp2_with fail
 go_ret
 exact ⟨rfl,hG.out⟩
set_option maxRecDepth 100000 in
set_option maxHeartbeats 2000000 in
theorem xk1 (V:x6) (v:Value) (r:Int) (w:World) (hv:z71 w v V) (hg:V.Pairwise fun x y=>x.1<y.1) :
 Calls Tryz.prog 149 #[v,.int .u64 r,.func (.func 148) #[] #[]] w (zb9 (r8 V r) w):=by
 obtain ⟨p,cap,rfl⟩:=hv.shape
 have hlen:=hv.len
 have eg:∀ args w,(callFunc 213 args).run Tryz.prog w = .ok (.enter 213 args) w:=enters_of Tryz.func213 (by kernel_rfl) rfl
 have hA:=(Kp.start w).new1 (.slice p V.length cap) 43 w.heap.size rfl
 have hB:=hA.new1 (.int .u64 r) 183 (w.heap.size+1) (by simp)
 have hC:=hB.new1 (.func (.func 148) #[] #[]) 185 (w.heap.size+2) (by simp)
 obtain ⟨W0,hW0⟩:∃ W0,((w.alloc (.cells #[.slice p V.length cap] 43)).alloc (.cells #[.int .u64 r] 183)).alloc (.cells #[.func (.func 148) #[] #[]] 185)=W0:=⟨_,rfl⟩
 rw [hW0] at hC
 have hcon:=Any.sort_Search Tryz.search 213 #[.pointer (some ⟨w.heap.size+2,0,none⟩),.pointer (some ⟨w.heap.size+1,0,none⟩),.pointer (some ⟨w.heap.size,0,none⟩)] V.length (yc0 V r) W0 eg (by omega)
  (fun m os i hi=>by
    have hb:Below W0.heap.size W0 (grow (W0.drewN m) os):=below_grown_sl _ _ _ _ (Nat.le_refl _)
    exact x88 V _ r i (w.heap.size+2) (w.heap.size+1) w.heap.size _ (hv.call (z7 hC.1 hb)) hi (z6 hC.2.1 hb) (z6 hC.2.2.1 hb) (z6 hC.2.2.2.1 hb))
  (yt4 hg r)
 change Calls Tryz.prog 84 _ _ _ at hcon
 rw [yp0 hg r] at hcon
 obtain ⟨k,hk⟩:∃ k,r8 V r=k:=⟨_,rfl⟩
 rw [hk] at hcon ⊢
 have HC:=qh hcon;clear hcon
 have HBx:=qh hC.1;clear hC hB hA
 have HW0:=qh hW0;clear hW0
 clear eg hv hg hk
 go_enter Tryz.func149,Tryz.ntmps149
 go_wp2_with fail
 rw [HW0.out]
 refine HC.out.mono ?_
 rintro e w1 ⟨rfl,q,os,rfl⟩
 have hb1:Below W0.heap.size W0 (grow (W0.drewN q) os):=below_grown_sl _ _ _ _ (Nat.le_refl _)
 generalize grow (W0.drewN q) os=w1 at *
 have H1:=qh (z7 HBx.out hb1);clear hb1
 go_wp2_with fail
 go_ret
 exact ⟨rfl,H1.out⟩
set_option maxRecDepth 100000 in
set_option maxHeartbeats 2000000 in
theorem w20 (V:x6) (v:Value) (r:Int) (w:World) (hv:z71 w v V) (hg:V.Pairwise fun x y=>x.1<y.1):Calls Tryz.prog 95 #[v,.int .u64 r] w (zb9 (z62 V r) w):=by
 obtain ⟨p,cap,rfl⟩:=hv.shape
 have hlen:=hv.len
 have K:=qh (xk1 V _ r w hv hg)
 have HV:=qh hv;clear hv
 have hle:=yi3 V r
 by_cases hlt:r8 V r<V.length
 ·have hy:V[r8 V r]? = some V[r8 V r]:=by simp [hlt]
  generalize V[r8 V r]=y at *
  obtain ⟨x,m,H⟩:=y
  have h1:=w19 hy
  have h2:x≠r→z62 V r = -1:=fun hne=>yt5 hg fun z hz=>by rw [hy] at hz;obtain rfl:=Option.some.inj hz;exact hne
  generalize r8 V r=k at *
  obtain ⟨b,o,cap',q,n,c,e,_⟩:=HV.out.elem hy
  cases e
  have HY:=qh hy;clear hy
  have i1:(0:Int)≤(k:Int):=by omega
  have i2:(k:Int)<(V.length:Int):=by omega
  have e0:decide ((k:Int)<(V.length:Int))=true:=by simpa using hlt
  by_cases hr:x=r
  ·have HZ:=qh (h1 hr);clear h1 h2
   have e1:(x == r)=true:=by simpa using hr
   go_enter Tryz.func95,Tryz.ntmps95
   go_wp2_with fail
   refine K.out.mono ?_
   rintro e w1 ⟨rfl,h⟩
   have H1:=qh h;clear h
   obtain ⟨b',o',cap2,q',n',c',ee,c0,_⟩:=(HV.out.call H1.out).elem HY.out
   cases ee
   subst hr
   go_wp2_with fail
   go_ret
   exact ⟨by rw [HZ.out];rfl,H1.out⟩
  ·have HZ:=qh (h2 hr);clear h1 h2
   have e1:(x == r)=false:=by simpa using hr
   clear hr
   go_enter Tryz.func95,Tryz.ntmps95
   go_wp2_with fail
   refine K.out.mono ?_
   rintro e w1 ⟨rfl,h⟩
   have H1:=qh h;clear h
   obtain ⟨b',o',cap2,q',n',c',ee,c0,_⟩:=(HV.out.call H1.out).elem HY.out
   cases ee
   go_wp2_with fail
   go_ret
   exact ⟨by rw [HZ.out];rfl,H1.out⟩
 ·have h2:z62 V r = -1:=yt5 hg fun z hz=>absurd (List.getElem?_eq_some_iff.1 hz).1 hlt
  have HZ:=qh h2;clear h2
  generalize r8 V r=k at *
  have e0:decide ((k:Int)<(V.length:Int))=false:=by simp;omega
  go_enter Tryz.func95,Tryz.ntmps95
  go_wp2_with fail
  refine K.out.mono ?_
  rintro e w1 ⟨rfl,h⟩
  have H1:=qh h;clear h
  go_wp2_with fail
  go_ret
  exact ⟨by rw [HZ.out];rfl,H1.out⟩
end
section
open Go.RowKit
theorem w21 {V:x6} {r:Int} (c:Int) (h:z62 V r = -1):i7 V r c=false:=by
 unfold z62 at h
 unfold i7
 cases hf:V.findIdx? (fun x=>decide (x.1=r)) with
 | none=>rfl
 | some k=>rw [hf] at h;simp only at h;omega
theorem w22 {V:x6} {r:Int} {k:Nat} {x:Int × Int × List Iv} (c:Int) (h:z62 V r=(k:Int)) (hx:V[k]? = some x):i7 V r c=ze9 x.2.1 x.2.2 c:=by
 unfold z62 at h
 unfold i7
 cases hf:V.findIdx? (fun x=>decide (x.1=r)) with
 | none=>rw [hf] at h;simp only at h;omega
 | some j =>
   rw [hf] at h
   simp only at h
   obtain rfl:j=k:=by omega
   simp only [hx]
theorem w23 (V:x6) (r:Int):z62 V r = -1∨∃ (k:Nat) (x:Int × Int × List Iv),z62 V r=(k:Int)∧V[k]? = some x:=by
 unfold z62
 cases hf:V.findIdx? (fun x=>decide (x.1=r)) with
 | none=>exact .inl rfl
 | some k =>
   obtain ⟨hlt,_⟩:=List.findIdx?_eq_some_iff_getElem.1 hf
   exact .inr ⟨k,V[k],rfl,by simp [hlt]⟩
set_option maxRecDepth 100000 in
set_option maxHeartbeats 2000000 in
theorem we2 (V:x6) (v:Value) (r c:Int) (w:World) (hv:z71 w v V) (hg:t6 V) (h0:0≤c) (h1:c≤18446744073709551615):Calls Tryz.prog 50 #[v,.int .u64 r,.int .u64 c] w (t7 (i7 V r c) w):=by
 obtain ⟨p,cap,rfl⟩:=hv.shape
 have K:=qh (w20 V _ r w hv hg.asc)
 have hlen:=hv.len
 have HV:=qh hv;clear hv
 rcases w23 V r with hf | ⟨k,⟨x,m,H⟩,hf,hx⟩
 ·rw [w21 c hf]
  rw [hf] at K
  clear hf hg h0 h1
  go_enter Tryz.func50,Tryz.ntmps50
  go_wp2_with fail
  refine K.out.mono ?_
  rintro e w1 ⟨rfl,h⟩
  have H1:=qh h;clear h
  go_wp2_with fail
  go_ret
  exact ⟨rfl,H1.out⟩
 ·rw [w22 c hf hx]
  rw [hf] at K
  obtain ⟨b,o,cp,q,n,ce,e,_⟩:=HV.out.elem hx
  cases e
  have hlt:=(List.getElem?_eq_some_iff.1 hx).1
  have HX:=qh hx
  have HGE:=qh (hg.ent _ (List.mem_iff_getElem?.2 ⟨k,hx⟩));clear hg hx hf
  have HC:=qh (And.intro h0 h1);clear h0 h1
  have KH:=qh wd5
  have i1:(0:Int)≤(k:Int):=by omega
  have i2:(k:Int)<(V.length:Int):=by omega
  have e1:((k:Int) != -1)=true:=bne_iff_ne.2 (by omega)
  dsimp only
  obtain ⟨bb,hbb⟩:∃ bb,ze9 m H c=bb:=⟨_,rfl⟩
  rw [hbb]
  have HBB:=qh hbb;clear hbb
  clear hlt
  go_enter Tryz.func50,Tryz.ntmps50
  go_wp2_with fail
  refine K.out.mono ?_
  rintro e w1 ⟨rfl,h⟩
  have H1:=qh h;clear h
  obtain ⟨b',o',cp',q',n',ce',ee,c0,c1,c2,ha⟩:=(HV.out.call H1.out).elem HX.out
  cases ee
  have HE:=qh (show zw0 w1 (.slice q' n' ce') m H from ⟨ha,HGE.out⟩);clear ha
  go_wp2_with fail
  refine (KH.out x m H _ c _ HE.out HC.out.1 HC.out.2).mono ?_
  rintro e w2 ⟨rfl,h⟩
  have H2:=qh (z7 H1.out h);clear h
  rw [HBB.out]
  go_wp2_with fail
  go_ret
  exact ⟨rfl,H2.out⟩
theorem xs2 {m:Int} {H:List Iv} {e:Int × Option Int} (h:z09 m H=some e):o9 (some e)=o9 (z09 m H):=by rw [h]
theorem x89 {V:x6} {k:Nat} (hk:k<V.length) (h:∀ j,j<k→zd4 V j=0) {c:Int} (hb:zd4 V k=c) (hc:c≠0):zg9 V=some (c,some (k:Int)):=by
 unfold zg9
 rw [zq8 hk h (by rw [hb];exact hc),hb]
 rfl
theorem xk2 {V:x6} (h:∀ j,j<V.length→zd4 V j=0):zg9 V=none:=by unfold zg9;rw [zq7 h];rfl
theorem x90 {V:x6} {k:Nat} (h:∀ j,j<k→zd4 V j=0) (hk:zd4 V k=0):∀ j,j<k+1→zd4 V j=0:=fun j hj=>by
 rcases Nat.lt_or_eq_of_le (Nat.le_of_lt_succ hj) with h1 | h1
 ·exact h j h1
 ·rw [h1];exact hk
theorem xs3 {W w1 w2:World} {a0 b0 b1 b2:Addr} {u0 v0 v1 v2:Value} (h:Below W.heap.size W w1∧w1.cell? a0=some u0∧w1.cell? b0=some v0∧w1.cell? b1=some v1∧w1.cell? b2=some v2) (hb:Below w1.heap.size w1 w2) :
 Below W.heap.size W w2∧w2.cell? a0=some u0∧w2.cell? b0=some v0∧w2.cell? b1=some v1∧w2.cell? b2=some v2:=
 ⟨z7 h.1 hb,z6 h.2.1 hb,z6 h.2.2.1 hb,z6 h.2.2.2.1 hb,z6 h.2.2.2.2 hb⟩
set_option maxRecDepth 100000 in
set_option maxHeartbeats 4000000 in
theorem yi5 (V:x6) (v:Value) (w:World) (hg:z43 w) (hv:z71 w v V):Calls Tryz.prog 93 #[v] w (z40 (zg9 V) w):=by
 obtain ⟨p,cap,rfl⟩:=hv.shape
 have hlen:=hv.len
 have HV:=qh hv;clear hv
 have HG:=qh hg;clear hg
 have KC:=qh yh2
 have KF:=qh zo5
 have KN:=qh y67
 have KB:=qh zy1
 go_enter Tryz.func93,Tryz.ntmps93
 go_wp2_with fail
 go_loopw [8] (fun i wr=>∃ k:Nat,i = .int .i64 k∧k≤V.length∧(∀ j,j<k→zd4 V j=0)∧Below w.heap.size w wr) (fun i _=>V.length - (intOf i).toNat)
 case atStart=>exact ⟨0,rfl,Nat.zero_le _,fun j hj=>absurd hj (Nat.not_lt_zero j),Below.refl _ _⟩
 case round =>
  obtain ⟨k,rfl,hk,hbef,hb⟩:=hrel
  have HBF:=qh hbef;clear hbef
  have HB:=qh hb;clear hb
  by_cases hlt:k<V.length
  ·obtain ⟨⟨x,m,H⟩,hx⟩:∃ x,V[k]? = some x:=⟨V[k],by simp [hlt]⟩
   obtain ⟨b,o,cap',q,n,c,e,c0,c1,c2,ha⟩:=(HV.out.call HB.out).elem hx
   cases e
   have hbw:=z8 wr (.cells #[.int .u64 x,.int .u64 m,.slice q n c] 63)
   have t0:(wr.alloc (.cells #[.int .u64 x,.int .u64 m,.slice q n c] 63)).cell? ⟨wr.heap.size,0,none⟩=some (.int .u64 x):=by simp
   have HT:=qh t0;clear t0
   have HA:=qh (And.intro (HG.out.here (z7 HB.out hbw)) (ha.call hbw));clear ha
   have HBW:=qh (z7 HB.out hbw);clear hbw
   have HX:=qh hx;clear hx
   have i1:(0:Int)≤(k:Int):=by omega
   have i2:(k:Int)<(V.length:Int):=by omega
   have HLT:=qh hlt
   cases hc:z09 m H with
   | some x1 =>
     have hcd:o9 (z09 m H)≠0:=by rw [hc];exact yt1 hc
     have HZ:=qh (x89 hlt HBF.out (y56 HX.out hcd) hcd)
     obtain ⟨t,u,hu⟩:=z30 (x:=some x1) (by simp)
     have HCD:=qh (xs2 hc)
     have h00:(o9 (z09 m H) == 0)=false:=by simpa using hcd
     have H00:=qh h00;clear h00
     have kc:=KC.out x m H _ _ HA.out.1 HA.out.2
     have kf:=fun W h=>KF.out (some x1) W h
     rw [hc] at kc
     unfold z40 at kc
     rw [hu] at kc kf
     rw [xs2 hc] at kf
     have K:=qh kc;clear kc
     have KF1:=qh kf;clear kf hcd hu HCD
     generalize o9 (z09 m H)=cd at *
     go_wp2_with fail
     refine K.out.mono ?_
     rintro e w1 ⟨rfl,h⟩
     have H1:=qh (z7 HBW.out h);clear h
     go_wp2_with fail
     refine (KF1.out _ (HG.out.here H1.out)).mono ?_
     rintro e w2 ⟨rfl,h⟩
     have H2:=qh (z7 H1.out h);clear h
     go_wp2_with fail
     refine (KN.out cd (k:Int) _ H00.out).mono ?_
     rintro e w3 ⟨rfl,rfl⟩
     go_wp2_with fail
     go_ret
     exact ⟨by rw [HZ.out];rfl,H2.out⟩
   | none =>
     have hcd:o9 (z09 m H)=0:=by rw [hc];rfl
     have kc:=KC.out x m H _ _ HA.out.1 HA.out.2
     rw [hc] at kc
     have K:=qh kc;clear kc hc
     by_cases hk0:k=0
     ·subst hk0
      simp only [Nat.zero_mul,Nat.add_zero] at c0 c1 c2
      have HN:=qh (x90 HBF.out (zy5 HX.out hcd));clear hcd
      go_wp2_with fail
      refine K.out.mono ?_
      rintro e w1 ⟨rfl,h⟩
      have H1:=qh (z7 HBW.out h);clear h
      rw [show za0 none = .nilIface from rfl]
      go_wp2_with fail
      go_quiet (fail)
      go_wp2_with fail
      go_roundw
      case rel=>exact ⟨1,by go_num,by omega,HN.out,below_drewN H1.out _⟩
      case measure=>simp [intOf];omega
     ·obtain ⟨j,rfl⟩:∃ j,k=j+1:=⟨k - 1,by omega⟩
      obtain ⟨⟨y,my,Hy⟩,hy⟩:∃ y,V[j]? = some y:=⟨V[j],by simp [show j<V.length by omega]⟩
      have HN:=qh (zu0 HX.out hy hcd);clear hcd
      have HY:=qh hy;clear hy
      have j1:(0:Int)≤(j:Int):=by omega
      have j2:(j:Int)<(V.length:Int):=by omega
      have j3:IntKind.i64.wrap ((j:Int)+1 - 1)=(j:Int):=(IntWalk.i64_in _ (by omega)).trans (by omega)
      have j6:IntKind.i64.wrap (j:Int)=(j:Int):=IntWalk.i64_in _ (by omega)
      have j4:decide ((0:Int)<(j:Int)+1)=true:=decide_eq_true (by omega)
      have j5:((j+1:Nat):Int)=(j:Int)+1:=by omega
      rw [j5] at i1 i2
      obtain ⟨d,hd⟩:∃ d,decide (y<x)=d:=⟨_,rfl⟩
      have KB1:=qh (show ∀ (p:Option Addr) (n c:Nat) (w:World),Calls Tryz.prog 148 #[.int .u64 x,.agg #[.int .u64 y,.int .u64 my,.slice p n c]] w (fun e w'=>e = .returned (.bool d)∧w'=w.alloc (.cells #[.int .u64 y,.int .u64 my,.slice p n c] 63)) from fun p n c w=>hd ▸ zy1 x y my p n c w)
      have HD:=qh hd;clear hd hlt hk0
      rw [j5]
      go_wp2_with fail
      refine K.out.mono ?_
      rintro e w1 ⟨rfl,h⟩
      have T0:=z6 HT.out h
      have H1:=qh (z7 HBW.out h);clear h
      rw [show za0 none = .nilIface from rfl]
      obtain ⟨b',o',cp',q',n',ce',ee,d0,d1,d2,_⟩:=(HV.out.call H1.out).elem HY.out
      cases ee
      have HS:=qh (show Below w1.heap.size w1 w1∧_∧_∧_∧_ from ⟨Below.refl _ _,T0,d0,d1,d2⟩)
      clear T0 d0 d1 d2 c0 c1 c2
      go_wp2_with fail
      go_region_held3 (fun w'=>Below w1.heap.size w1 w'∧w'.cell? ⟨wr.heap.size,0,none⟩=some (.int .u64 x)∧w'.cell? ⟨b,o+j*3,none⟩=some (.int .u64 y)∧w'.cell? ⟨b,o+j*3+1,none⟩=some (.int .u64 my)∧w'.cell? ⟨b,o+j*3+2,none⟩=some (.slice q' n' ce'))
       (first
         | exact xs3 HS.out (Below.refl _ _).drew
         | exact xs3 (by assumption) (z8 _ _))
       ((go_at_call 148;refine (KB1.out _ _ _ _).mono ?_;rintro en w3 ⟨rfl,hw⟩;obtain rfl:=hw;have HW3:=qh (z7 H1.out (z7 (Below.refl _ _).drew (z8 w1.drew (.cells #[.int .u64 y,.int .u64 my,.slice q' n' ce'] 63))))))
      by_cases hle:x≤y
      ·have hdd:d=false:=by rw [← HD.out];exact decide_eq_false (by omega)
       subst hdd
       have HZ:=qh (x89 HLT.out HBF.out (HN.out.trans (if_pos hle)) (by decide));clear HN hle
       go_wp2_with fail
       refine (KN.out 3 _ _ (by decide)).mono ?_
       rintro e w4 ⟨rfl,rfl⟩
       go_wp2_with fail
       go_ret
       exact ⟨by rw [HZ.out];rfl,HW3.out⟩
      ·have hdd:d=true:=by rw [← HD.out];exact decide_eq_true (by omega)
       subst hdd
       have HZ:=qh (x90 HBF.out (HN.out.trans (if_neg hle)));clear HN hle
       go_wp2_with fail
       go_roundw
       case rel=>exact ⟨j+1+1,by go_num,by omega,HZ.out,HW3.out⟩
       case measure=>simp [intOf];omega
  ·obtain rfl:k=V.length:=by omega
   have HZ:=qh (xk2 HBF.out)
   go_wp2_with fail
   go_ret
   exact ⟨by rw [HZ.out];rfl,HB.out⟩
end
section
open Go.RowKit
def zg8 (x:Int × Int × List Iv):Bool := !(okN x.2.1 x.2.2 && r7 x.2.1 x.2.2)
def x91 (V:x6):Int:=match V.findIdx? zg8 with | some k=>(k:Int) | none => -1
theorem w24 {V:x6} {k:Nat} {x:Int × Int × List Iv} (hx:V[k]? = some x) (hr:zg8 x=true) (h:∀ j y,j<k→V[j]? = some y→zg8 y=false):x91 V=(k:Int):=by
 unfold x91
 have:V.findIdx? zg8=some k:=by
  rw [List.findIdx?_eq_some_iff_getElem]
  obtain ⟨hlt,he⟩:=List.getElem?_eq_some_iff.1 hx
  refine ⟨hlt,by rw [he];exact hr,fun j hj => ?_⟩
  have:=h j V[j] hj (by simp [show j<V.length by omega])
  simpa using this
 rw [this]
theorem w25 {V:x6} (h:∀ (j:Nat) y,V[j]? = some y→zg8 y=false):x91 V = -1:=by
 unfold x91
 have:V.findIdx? zg8=none:=by
  rw [List.findIdx?_eq_none_iff]
  intro x hx
  obtain ⟨i,hi⟩:=List.mem_iff_getElem?.1 hx
  exact h i x hi
 rw [this]
theorem we3 (V:x6):decide ((0:Int)≤x91 V) = !zd5 V:=by
 unfold x91
 cases hf:V.findIdx? zg8 with
 | none =>
   have:zd5 V=true:=by
    unfold zd5
    rw [List.all_eq_true]
    intro x hx
    have:=List.findIdx?_eq_none_iff.1 hf x hx
    unfold zg8 at this
    simpa using this
   rw [this];decide
 | some k =>
   obtain ⟨hlt,hb,_⟩:=List.findIdx?_eq_some_iff_getElem.1 hf
   have:zd5 V=false:=by
    unfold zd5
    rw [List.all_eq_false]
    refine ⟨V[k],List.getElem_mem hlt,?_⟩
    unfold zg8 at hb
    show ¬ (okN V[k].2.1 V[k].2.2 && r7 V[k].2.1 V[k].2.2)=true
    intro hh
    rw [hh] at hb
    cases hb
   rw [this]
   exact decide_eq_true (by simp)
set_option maxRecDepth 100000 in
theorem we4 (x m:Int) (H:List Iv) (s:Value) (w:World) (hg:z43 w) (ha:zi8 w s m H) :
 Calls Tryz.prog 110 #[.agg #[.int .u64 x,.int .u64 m,s]] w (t7 (zg8 (x,m,H)) w):=by
 obtain ⟨p,cap,rfl,_⟩:=ha.at'.shape
 have hb:=z8 w (.cells #[.int .u64 x,.int .u64 m,.slice p H.length cap] 63)
 have K:=qh (yh5 x m H _ _ (hg.here hb) (ha.call hb));clear hg ha
 have HB:=qh hb;clear hb
 obtain ⟨d,hd⟩:∃ d,(okN m H && r7 m H)=d:=⟨_,rfl⟩
 have HD:Hid (zg8 (x,m,H) = !d):=qh (by unfold zg8;rw [hd])
 rw [hd] at K;clear hd
 go_enter Tryz.func110,Tryz.ntmps110
 go_wp2_with fail
 refine K.out.mono ?_
 rintro e w1 ⟨rfl,h⟩
 have H1:=qh (z7 HB.out h);clear h
 go_wp2_with fail
 go_ret
 exact ⟨by rw [HD.out];rfl,H1.out⟩
set_option maxRecDepth 100000 in
set_option maxHeartbeats 2000000 in
theorem xk3 (V:x6) (v:Value) (w:World) (hg:z43 w) (hv:z71 w v V) :
 Calls Tryz.prog 156 #[v,.func (.func 110) #[] #[]] w (zb9 (x91 V) w):=by
 obtain ⟨p,cap,rfl⟩:=hv.shape
 have hlen:=hv.len
 have HV:=qh hv;clear hv
 have HG:=qh hg;clear hg
 have K:=qh we4
 go_enter Tryz.func156,Tryz.ntmps156
 go_wp2_with fail
 go_loopw [8] (fun i wr=>∃ k:Nat,i = .int .i64 k∧k≤V.length∧(∀ j y,j<k→V[j]? = some y→zg8 y=false)∧Below w.heap.size w wr) (fun i _=>V.length - (intOf i).toNat)
 case atStart=>exact ⟨0,rfl,Nat.zero_le _,fun j z hj=>absurd hj (Nat.not_lt_zero j),Below.refl _ _⟩
 case round =>
  obtain ⟨k,rfl,hk,hbef,hb⟩:=hrel
  have HBF:=qh hbef;clear hbef
  have HB:=qh hb;clear hb
  by_cases hlt:k<V.length
  ·obtain ⟨⟨x,m,H⟩,hx⟩:∃ x,V[k]? = some x:=⟨V[k],by simp [hlt]⟩
   obtain ⟨b,o,cap',q,n,c,e,c0,c1,c2,ha⟩:=(HV.out.call HB.out).elem hx
   cases e
   have HA:=qh ha;clear ha
   have HX:=qh hx;clear hx
   have i1:(0:Int)≤(k:Int):=by omega
   have i2:(k:Int)<(V.length:Int):=by omega
   cases hd:zg8 (x,m,H) with
   | true =>
     have HZ:=qh (w24 HX.out hd HBF.out)
     go_wp2_with fail
     refine (K.out x m H _ _ (HG.out.here HB.out) HA.out).mono ?_
     rintro e w1 ⟨rfl,h⟩
     have H1:=qh (z7 HB.out h);clear h
     rw [hd]
     clear hd
     go_wp2_with fail
     go_ret
     exact ⟨by rw [HZ.out];rfl,H1.out⟩
   | false =>
     have HD:=qh hd
     go_wp2_with fail
     refine (K.out x m H _ _ (HG.out.here HB.out) HA.out).mono ?_
     rintro e w1 ⟨rfl,h⟩
     have H1:=qh (z7 HB.out h);clear h
     rw [hd]
     clear hd
     go_wp2_with fail
     go_roundw
     case rel=>exact ⟨k+1,by go_num,by omega,fun j y hj hy=>by
      rcases Nat.lt_or_eq_of_le (Nat.le_of_lt_succ hj) with h | h
      ·exact HBF.out j y h hy
      ·subst h
       obtain rfl:=Option.some.inj (HX.out.symm.trans hy)
       exact HD.out,H1.out⟩
     case measure=>simp [intOf];omega
  ·obtain rfl:k=V.length:=by omega
   have HZ:=qh (w25 (V:=V) fun j y hy=>HBF.out j y (List.getElem?_eq_some_iff.1 hy).1 hy)
   go_wp2_with fail
   go_ret
   exact ⟨by rw [HZ.out];rfl,HB.out⟩
set_option maxRecDepth 100000 in
theorem yp1 (V:x6) (v:Value) (w:World) (hg:z43 w) (hv:z71 w v V) :
 Calls Tryz.prog 112 #[v,.func (.func 110) #[] #[]] w (t7 (!zd5 V) w):=by
 obtain ⟨p,cap,rfl⟩:=hv.shape
 have K:=qh (xk3 V _ w hg hv);clear hg hv
 have HZ:=qh (we3 V)
 generalize x91 V=j at *
 generalize zd5 V=d at *
 go_enter Tryz.func112,Tryz.ntmps112
 go_wp2_with fail
 refine K.out.mono ?_
 rintro e w1 ⟨rfl,h⟩
 have H1:=qh h;clear h
 go_wp2_with fail
 go_ret
 exact ⟨by rw [← HZ.out];rfl,H1.out⟩
set_option maxRecDepth 100000 in
set_option maxHeartbeats 2000000 in
theorem yi6 (V:x6) (v:Value) (w:World) (hg:z43 w) (hv:z71 w v V):Calls Tryz.prog 62 #[v] w (t7 (zd5 V && e8 V) w):=by
 obtain ⟨p,cap,rfl⟩:=hv.shape
 have kc:=yi5 V _ w hg hv
 have HV:=qh hv;clear hv
 have HG:=qh hg;clear hg
 have KX:=qh (fun W h h2=>yp1 V (.slice p V.length cap) W h h2)
 cases hc:z58 V with
 | some x =>
   have hr:e8 V=false:=by unfold e8;rw [hc];rfl
   have he:zg9 V=some (x.1,some (x.2:Int)):=by unfold zg9;rw [hc];rfl
   obtain ⟨t,u,hu⟩:=z30 (x:=some (x.1,some (x.2:Int))) (by simp)
   rw [he] at kc
   unfold z40 at kc
   rw [hu] at kc
   rw [hr,Bool.and_false]
   have K:=qh kc;clear kc he hu hr hc KX
   go_enter Tryz.func62,Tryz.ntmps62
   go_wp2_with fail
   refine K.out.mono ?_
   rintro e w1 ⟨rfl,h⟩
   have H1:=qh h;clear h
   go_wp2_with fail
   go_ret
   exact ⟨rfl,H1.out⟩
 | none =>
   have hr:e8 V=true:=by unfold e8;rw [hc];rfl
   have he:zg9 V=none:=by unfold zg9;rw [hc];rfl
   rw [he] at kc
   rw [hr,Bool.and_true]
   have K:=qh kc;clear kc he hr hc
   generalize zd5 V=d at *
   go_enter Tryz.func62,Tryz.ntmps62
   go_wp2_with fail
   refine K.out.mono ?_
   rintro e w1 ⟨rfl,h⟩
   have H1:=qh h;clear h
   rw [show za0 none = .nilIface from rfl]
   go_wp2_with fail
   refine (KX.out _ (HG.out.here H1.out) (HV.out.call H1.out)).mono ?_
   rintro e w2 ⟨rfl,h⟩
   have H2:=qh (z7 H1.out h);clear h
   cases d <;>
   ·go_wp2_with fail
    go_ret
    exact ⟨rfl,H2.out⟩
theorem z74 {w:World} {B B':Nat} {v:Value} {n:Nat} (h:b8 w B v n) (hB:B'≤B):b8 w B' v n:=by
 obtain ⟨p,cap,h1,h2,h3⟩:=h
 refine ⟨p,cap,h1,h2,fun hn => ?_⟩
 obtain ⟨g,o,h4,h5,h6⟩:=h3 hn
 exact ⟨g,o,h4,Nat.le_trans hB h5,h6⟩
theorem x92:∀ (n:Nat) (m:Int) (H:List Iv),H.length=n→z15 m H→(r9 (x9 m H)).length≤H.length
 | n,m,H,hn,hg=>by
   rcases List.eq_nil_or_concat H with rfl | ⟨G,y,rfl⟩
   ·rw [(yy5 (m:=m) (H := []) hg rfl rfl 0).2.2.1]
    exact Nat.le_refl _
   ·rw [List.concat_eq_append] at *
    by_cases hy:y.2<m
    ·rw [(yy5 hg (ys7 hg hy) rfl 0).2.2.1]
     exact Nat.le_refl _
    ·by_cases h0:y.1=0
     ·rw [ys8 hg hy h0]
      simp [r9]
     ·obtain ⟨h1,h2⟩:=ys9 hg hy h0
      rw [← h2]
      have:=x92 G.length _ G rfl h1
      rw [List.length_append]
      omega
termination_by n=>n
decreasing_by simp at hn;omega
def zo0 (w:World) (B:Nat) (v:Value) (V:x6):Prop:=
 ∃ es:List (Int × Int × Value),es.length=V.length∧w.ownsRow B 63 3 v es.length (zo1 es)∧(∀ (i:Nat) (e:Int × Int × Value) (x:Int × Int × List Iv),es[i]? = some e→V[i]? = some x→e.1=x.1∧e.2.1=x.2.1∧y19 w B v.ownBlock e.2.2 x.2.2)∧∀ e ∈ es,z03 e.2.2
theorem zo0.nil (w:World) (B:Nat):zo0 w B (.slice none 0 0) []:=⟨[],rfl,World.ownsRow_nil w B _ 3,fun i e x h=>by simp at h,fun e h=>by simp at h⟩
theorem zo0.shape {w:World} {B:Nat} {v:Value} {V:x6} (h:zo0 w B v V):∃ p cap,v = .slice p V.length cap:=by
 obtain ⟨es,h1,h2,_⟩:=h
 obtain ⟨p,cap,e,_⟩:=x8 h2
 exact ⟨p,cap,by rw [e,h1]⟩
theorem zo0.call {w w':World} {B:Nat} {v:Value} {V:x6} (h:zo0 w B v V) (hb:Below w.heap.size w w'):zo0 w' B v V:=by
 obtain ⟨es,h1,h2,h3,h4⟩:=h
 exact ⟨es,h1,y7 h2 hb,fun i e x he hx=>⟨(h3 i e x he hx).1,(h3 i e x he hx).2.1,(h3 i e x he hx).2.2.call hb⟩,h4⟩
theorem zo0.push {w w2:World} {B:Nat} {v v2:Value} {es:List (Int × Int × Value)} {V:x6} {r m:Int} {s:Value} {H:List Iv} (hel:es.length=V.length)
 (hall:∀ (i:Nat) (e:Int × Int × Value) (x:Int × Int × List Iv),es[i]? = some e→V[i]? = some x→e.1=x.1∧e.2.1=x.2.1∧y19 w B v.ownBlock e.2.2 x.2.2)
 (hrow:w2.ownsRow B 63 3 v2 (es.length+1) (zo1 es ++ [.int .u64 r,.int .u64 m,s])) (hg:w.grownBy w2 v.ownBlock) (hat:v2.ownBlock=v.ownBlock∨v2.ownBlock=some w.heap.size) (hx:y19 w B v.ownBlock s H) (hs:∀ e ∈ es,z03 e.2.2) (hss:z03 s):zo0 w2 B v2 (V ++ [(r,m,H)]):=by
 refine ⟨es ++ [(r,m,s)],by rw [List.length_append,List.length_append,hel];rfl,?_,fun i e x he hx' => ?_,fun e he => ?_⟩
 ·rw [List.length_append,x99];exact hrow
 ·by_cases hi:i<es.length
  ·rw [List.getElem?_append_left hi] at he
   rw [List.getElem?_append_left (by omega)] at hx'
   obtain ⟨h1,h2,h3⟩:=hall i e x he hx'
   exact ⟨h1,h2,h3.grown hg hat⟩
  ·rw [List.getElem?_append_right (by omega)] at he
   rw [List.getElem?_append_right (by omega)] at hx'
   have h0:i - es.length=0:=by
    have:=(List.getElem?_eq_some_iff.1 he).1
    simpa using this
   have h0':i - V.length=0:=by omega
   rw [h0] at he;rw [h0'] at hx'
   obtain rfl:(r,m,s)=e:=by simpa using he
   obtain rfl:(r,m,H)=x:=by simpa using hx'
   exact ⟨rfl,rfl,hx.grown hg hat⟩
 ·rcases List.mem_append.1 he with h | h
  ·exact hs e h
  ·obtain rfl:=List.mem_singleton.1 h
   exact hss
theorem zq1 {W:World} {B n sz:Nat} {t:TypeId} {v:Value} {xs:List Value} (h:W.ownsRow B t sz v n xs):z03 v:=by
 rcases h.2 with ⟨h1,_⟩ | ⟨g,cap,cur,h1,_,_,hnc,_⟩
 ·refine ⟨fun n c e => ?_,fun a n c e => ?_⟩
  ·rw [e] at h1;cases h1;exact ⟨rfl,rfl⟩
  ·rw [e] at h1;cases h1
 ·refine ⟨fun n c e => ?_,fun a n c e => ?_⟩
  ·rw [e] at h1;cases h1
  ·rw [e] at h1;cases h1;exact hnc
theorem zo0.done {w:World} {B:Nat} {v:Value} {V:x6} (h:zo0 w B v V) (hl:V.length≤100000) (hg:∀ x ∈ V,(0≤x.1∧x.1≤18446744073709551615)∧o6 x.2.2∧(0≤x.2.1∧x.2.1≤18446744073709551615)∧x.2.2.length≤5000) :
 z23 w v V∧z05 w B v (nsV V):=by
 obtain ⟨es,h1,h2,h3,h4⟩:=h
 refine ⟨⟨⟨⟨es,zq3.vecAt h2,h1,fun i e x he hx => ?_⟩,hl⟩,zq1 h2,fun x hx=>(hg x hx).1⟩,?_⟩
 ·obtain ⟨k1,k2,k3⟩:=h3 i e x he hx
  obtain ⟨g1,g2,g3,g4⟩:=hg x (List.mem_of_getElem? hx)
  exact ⟨k1,k2,k3.ivs,g2,h4 e (List.mem_of_getElem? he),g3.1,g3.2,g4⟩
 ·have hnl:(nsV V).length=es.length:=by unfold nsV;rw [List.length_map,h1]
  have hrow:=h2
  rcases h2.2 with ⟨rfl,h0⟩ | ⟨g,cap,cur,rfl,hbg,hgg,hnc,hcm,_⟩
  ·exact ⟨none,0,by rw [hnl,h0],by rw [hnl,h0];exact Nat.zero_le _,fun hne=>absurd (List.eq_nil_of_length_eq_zero (by rw [hnl,h0])) hne⟩
  ·refine ⟨_,cap,by rw [hnl],by rw [hnl];exact Nat.le_trans hnc hcm,fun _=>⟨g,0,rfl,hbg,fun i n hi => ?_⟩⟩
   have hilt:i<V.length:=by have:=(List.getElem?_eq_some_iff.1 hi).1;rw [hnl] at this;omega
   have hx:V[i]? = some V[i]:=by simp [hilt]
   have he:es[i]? = some es[i]:=by simp [show i<es.length by omega]
   obtain ⟨c0,c1,c2⟩:=yj0 hrow rfl i _ he
   obtain ⟨k1,k2,k3⟩:=h3 i _ _ he hx
   have hn:n=V[i].2.2.length:=by unfold nsV at hi;rw [List.getElem?_map,hx] at hi;exact (Option.some.inj hi).symm
   subst hn
   exact ⟨⟨_,c0⟩,⟨_,c1⟩,hrow.frozenAt _,hrow.frozenAt _,_,c2,k3.soft⟩
theorem w26 {V:x6} (hg:t6 V) (h:∀ x ∈ V,(0≤x.1∧x.1≤18446744073709551615)∧x.2.2.length≤5000):∀ y ∈ i8 V,(0≤y.1∧y.1≤18446744073709551615)∧o6 y.2.2∧(0≤y.2.1∧y.2.1≤18446744073709551615)∧y.2.2.length≤5000:=by
 intro y hy
 obtain ⟨x,hx,hc⟩:=List.mem_filterMap.1 hy
 have hgx:=hg.ent x hx
 obtain ⟨h1,h2,_⟩:=za4 hgx hc
 have hlen:y.2.2.length≤x.2.2.length:=by
  unfold yc1 at hc
  split at hc
  ·cases hc
  ·obtain rfl:=Option.some.inj hc
   exact x92 _ _ _ rfl hgx
 have:=(h x hx).2
 refine ⟨by rw [h1];exact (h x hx).1,?_,?_,by omega⟩
 ·exact h2.good.all
 ·exact ⟨h2.low,h2.top⟩
set_option maxRecDepth 100000 in
set_option maxHeartbeats 4000000 in
theorem xk4 (V:x6) (v:Value) (w:World) (hv:z23 w v V) (hg:t6 V):Calls Tryz.prog 136 #[v] w (wq4 (i8 V) w):=by
 obtain ⟨i0,hi',hz0,hz1,hz2⟩:=info_parts ww5
 obtain ⟨p,cap,rfl⟩:=hv.m.shape
 have hlen:=hv.m.len
 have hlow:∀ x ∈ V,(0≤x.1∧x.1≤18446744073709551615)∧x.2.2.length≤5000:=fun x hx=>⟨hv.rng x hx,by
  obtain ⟨i,hi⟩:=List.mem_iff_getElem?.1 hx
  obtain ⟨_,_,_,_,_,_,_,_,_,_,ha⟩:=hv.m.elem hi
  exact ha.len⟩
 have HFIN:Hid (∀ y ∈ i8 V,(0≤y.1∧y.1≤18446744073709551615)∧o6 y.2.2∧(0≤y.2.1∧y.2.1≤18446744073709551615)∧y.2.2.length≤5000):=qh (w26 hg hlow)
 have HV:=qh hv.m;clear hv hlow
 have HG:=qh hg;clear hg
 have KE:=qh xj8
 go_enter Tryz.func136,Tryz.ntmps136
 go_wp2_with fail
 go_loopw [3,10] (fun vo i wr=>∃ k:Nat,i = .int .i64 k∧k≤V.length∧zo0 wr w.heap.size vo (i8 (V.take k))∧Below w.heap.size w wr) (fun _ i _=>V.length - (intOf i).toNat)
 case atStart=>exact ⟨0,rfl,Nat.zero_le _,zo0.nil _ _,Below.refl _ _⟩
 case round =>
  obtain ⟨k,rfl,hk,hout,hb⟩:=hrel
  obtain ⟨pv,cv,rfl⟩:=hout.shape
  have HB:=qh hb;clear hb
  have hszw:=HB.out.size
  by_cases hlt:k<V.length
  ·obtain ⟨⟨r,m,H⟩,hx⟩:∃ x,V[k]? = some x:=⟨V[k],by simp [hlt]⟩
   obtain ⟨b,o,cp,q,n,c,e,c0,c1,c2,ha⟩:=(HV.out.call HB.out).elem hx
   cases e
   obtain ⟨_,_,es,_⟩:=ha.at'.shape
   cases es
   have hge:=HG.out.ent _ (List.mem_iff_getElem?.2 ⟨k,hx⟩)
   have hbn:=z8 wr (.cells #[.int .u64 r,.int .u64 m,.slice q H.length c] 63)
   have K:=qh (KE.out r m H (.slice q H.length c) _ ⟨ha.call hbn,hge⟩)
   have HBN:=qh hbn;clear hbn
   have hcl:=yi8 (V.take k)
   rw [List.length_take] at hcl
   have HC:=qh (And.intro (xa1 hx) (show (i8 (V.take k)).length≤100000 by omega))
   have i1:(0:Int)≤(k:Int):=by omega
   have i2:(k:Int)<(V.length:Int):=by omega
   clear ha hge hx hcl
   generalize x9 m H=KK at *
   generalize i8 (V.take k)=P at *
   go_wp2_with fail
   refine K.out.mono ?_
   rintro e w1 ⟨vc,rfl,hvc,hsa,hso,h⟩
   obtain ⟨pc,cc,rfl,_⟩:=hvc.shape
   have HH:=qh (And.intro hvc (And.intro hsa (z74 hso HBN.out.size)));clear hvc hso hsa
   have H1:=qh (z7 HBN.out h);clear h c0 c1 c2
   by_cases hK:KK = []
   ·have e1:ze8 KK=false:=by rw [hK];rfl
    rw [e1]
    have hb2:=z8 w1 (.cells #[.int .u64 (zi7 r KK),.int .u64 (z04 KK),.slice pc (r9 KK).length cc] 63)
    have HB2:=qh (z7 H1.out hb2);clear hb2
    have HO:=qh hout;clear hout
    have HC':=qh (HC.out.1.trans (if_pos hK));clear HC hK
    generalize zi7 r KK=rr at *
    generalize z04 KK=tt at *
    generalize (r9 KK).length=ll at *
    go_wp2_with fail
    go_roundw
    case rel=>exact ⟨k+1,by go_num,by omega,by rw [HC'.out];exact HO.out.call HB2.out,z7 HB.out HB2.out⟩
    case measure=>simp [intOf];omega
   ·have e1:ze8 KK=true:=xa0 hK
    rw [e1]
    have HC':=qh (And.intro (HC.out.1.trans (if_neg hK)) HC.out.2);clear HC hK
    generalize zi7 r KK=rr at *
    generalize z04 KK=tt at *
    generalize r9 KK=hh at *
    obtain ⟨w2,hw2⟩:∃ w2,w1.alloc (.cells #[.int .u64 rr,.int .u64 tt,.slice pc hh.length cc] 63)=w2:=⟨_,rfl⟩
    have e3:E3 w2 w1.heap.size rr tt (.slice pc hh.length cc):=hw2 ▸ E3.new w1 rr tt (.slice pc hh.length cc) 63 _ rfl
    have hb2:Below w1.heap.size w1 w2:=hw2 ▸ z8 w1 _
    obtain ⟨t0,t1,t2⟩:=e3
    have HB2:=qh (z7 H1.out hb2)
    obtain ⟨es,hel,hrow,hall,hsan⟩:=hout
    have HROW:=qh hrow
    have HALL:=qh (And.intro hall hsan)
    have HAP:=qh (fun h0=>yt7 hrow HH.out.2.2 h0)
    have HH2:=qh (And.intro (HH.out.1.call hb2) (And.intro (z74 (HH.out.2.2.call hb2) hszw) HH.out.2.1))
    clear hrow hall hsan hb2 HH
    have hel2:es.length≤100000:=by rw [hel];exact HC'.out.2
    have HSZ:=qh (Nat.le_trans hszw HB2.out.size)
    go_wp2_with (at_builtin;go_loud (refine wpList_append_own_at _ rfl _ _ 44 rfl w.heap.size 63 i0 (.agg #[.int .u64 0,.int .u64 0,.slice none 0 0]) 3 40 Tryz.underlying44 hi' hz0 hz1 hz2 rfl (by decide) _ es.length (zo1 es) rfl (y7 HROW.out (z7 HB2.out (z8 _ _))) ⟨w2.heap.size,0,none⟩ 1 1 [.int .u64 rr,.int .u64 tt,.slice pc hh.length cc] rfl rfl (ya0 _ _ _ _ _ _ rfl) (by simp [Value.oneCell']) (by unfold maxLen;omega) (by omega) (Nat.le_trans HSZ.out (z8 _ _).size) ?_;intro v' w4 hown' hgrow _ hat;have HN:=qh (z8 w2 (.cells #[.int .u64 rr,.int .u64 tt,.slice pc hh.length cc] 63));have HW4:=qh (t8 (z7 HB.out (z7 HB2.out HN.out)) (y7 HROW.out (z7 HB2.out HN.out)) hgrow (Nat.le_trans HSZ.out HN.out.size));have HP:=qh (zo0.push hel (fun i e x he hx=>⟨(HALL.out.1 i e x he hx).1,(HALL.out.1 i e x he hx).2.1,(HALL.out.1 i e x he hx).2.2.call (z7 HB2.out HN.out)⟩) hown' hgrow hat (⟨HH2.out.1.call HN.out,HH2.out.2.1.call HN.out,HAP.out⟩:y19 _ _ _ _ hh) HALL.out.2 HH2.out.2.2);clear hown' hgrow hat))
    go_roundw
    case rel=>exact ⟨k+1,by go_num,by omega,by rw [HC'.out.1];exact HP.out,HW4.out⟩
    case measure=>simp [intOf];omega
  ·obtain rfl:k=V.length:=by omega
   rw [List.take_of_length_le (Nat.le_refl _)] at hout ⊢
   have HO:=qh hout;clear hout
   have HCL:=qh (yi8 V)
   have HFL:=qh HFIN.out
   go_wp2_with fail
   go_ret
   obtain ⟨s1,s2⟩:=HO.out.done (by have:=HCL.out;omega) HFL.out
   exact ⟨_,rfl,s1,s2,HB.out⟩
end
section
open Go.RowKit
theorem z05.call {w w':World} {B:Nat} {v:Value} {ns:List Nat} (h:z05 w B v ns) (hb:Below w.heap.size w w'):z05 w' B v ns:=by
 obtain ⟨p,cap,h1,h2,h3⟩:=h
 refine ⟨p,cap,h1,h2,fun hne => ?_⟩
 obtain ⟨b,o,h5,hB,h6⟩:=h3 hne
 refine ⟨b,o,h5,hB,fun i n hi => ?_⟩
 obtain ⟨⟨z,hz⟩,⟨y,hy⟩,f0,f1,s,hs,hso⟩:=h6 i n hi
 exact ⟨⟨z,z6 hz hb⟩,⟨y,z6 hy hb⟩,y9 f0 (World.block_lt_of_cell? w _ hz) hb,y9 f1 (World.block_lt_of_cell? w _ hy) hb,s,z6 hs hb,hso.call hb⟩
theorem zl8 {w:World} {a c:Addr} {k:IntKind} {z:Int} {p:Option Addr} {n m:Nat} (ha:w.cell? a=some (.int k z)) (hc:w.cell? c=some (.slice p n m)) (y:Value):(w.setCell a y).cell? c=some (.slice p n m):=by
 rw [World.cell?_setCell_other _ _ _ _ (fun e=>by rw [e,hc] at ha;cases ha)];exact hc
theorem yd6 {w:World} {a c:Addr} {y:Int} (h:∃ z:Int,w.cell? c=some (.int .u64 z)):∃ z:Int,(w.setCell a (.int .u64 y)).cell? c=some (.int .u64 z):=by
 obtain ⟨z,hz⟩:=h
 by_cases he:a=c
 ·subst he;exact ⟨y,World.cell?_setCell_same' _ _ _ (by rw [hz];rfl)⟩
 ·exact ⟨z,by rw [World.cell?_setCell_other _ _ _ _ he];exact hz⟩
theorem b8.setI {w:World} {B:Nat} {v:Value} {n:Nat} (h:b8 w B v n) (a:Addr) (y:Int):b8 (w.setCell a (.int .u64 y)) B v n:=by
 obtain ⟨p,cap,h1,h2,h3⟩:=h
 refine ⟨p,cap,h1,h2,fun hn => ?_⟩
 obtain ⟨g,o,h4,h5,h6⟩:=h3 hn
 refine ⟨g,o,h4,h5,fun i hi => ?_⟩
 obtain ⟨⟨hz,hf⟩,hy,hg⟩:=h6 i hi
 exact ⟨⟨yd6 hz,by rw [World.frozen?_setCell];exact hf⟩,yd6 hy,by rw [World.frozen?_setCell];exact hg⟩
theorem z05.setI {w:World} {B:Nat} {v:Value} {ns:List Nat} (h:z05 w B v ns) {a:Addr} {z:Int} (hz:w.cell? a=some (.int .u64 z)) (y:Int):z05 (w.setCell a (.int .u64 y)) B v ns:=by
 obtain ⟨p,cap,h1,h2,h3⟩:=h
 refine ⟨p,cap,h1,h2,fun hne => ?_⟩
 obtain ⟨b,o,h5,hB,h6⟩:=h3 hne
 refine ⟨b,o,h5,hB,fun i n hi => ?_⟩
 obtain ⟨k0,k1,f0,f1,s,hs,hso⟩:=h6 i n hi
 refine ⟨yd6 k0,yd6 k1,by rw [World.frozen?_setCell];exact f0,by rw [World.frozen?_setCell];exact f1,s,?_,hso.setI _ _⟩
 obtain ⟨q,c,e,_⟩:=hso
 rw [e] at hs ⊢
 exact zl8 hz hs _
theorem z05.at {w:World} {B:Nat} {v:Value} {ns:List Nat} (h:z05 w B v ns) {i n:Nat} (hi:ns[i]? = some n):∃ b o m cap z z' p c,v = .slice (some ⟨b,o,none⟩) m cap∧B≤b∧w.cell? ⟨b,o+i*3,none⟩=some (.int .u64 z)∧w.cell? ⟨b,o+i*3+1,none⟩=some (.int .u64 z') ∧
 w.frozen? ⟨b,o+i*3,none⟩=false∧w.frozen? ⟨b,o+i*3+1,none⟩=false∧w.cell? ⟨b,o+i*3+2,none⟩=some (.slice p n c)∧b8 w B (.slice p n c) n:=by
 obtain ⟨p,cap,h1,_,h3⟩:=h
 obtain ⟨b,o,rfl,hB,h6⟩:=h3 (by intro e;rw [e] at hi;simp at hi)
 obtain ⟨⟨z,hz⟩,⟨y,hy⟩,f0,f1,s,hs,hso⟩:=h6 i n hi
 have hso':=hso
 obtain ⟨q,c,e,_⟩:=hso
 subst e
 exact ⟨b,o,_,cap,z,y,q,c,h1,hB,hz,hy,f0,f1,hs,hso'⟩
theorem b8.at {w:World} {B:Nat} {p:Option Addr} {n c:Nat} (h:b8 w B (.slice p n c) n) {j:Nat} (hj:j<n):∃ g o z z',p=some ⟨g,o,none⟩∧B≤g∧w.cell? ⟨g,o+j*2,none⟩=some (.int .u64 z)∧w.frozen? ⟨g,o+j*2,none⟩=false∧w.cell? ⟨g,o+j*2+1,none⟩=some (.int .u64 z')∧w.frozen? ⟨g,o+j*2+1,none⟩=false:=by
 obtain ⟨p',cap,h1,_,h3⟩:=h
 cases h1
 obtain ⟨g,o,rfl,hB,h6⟩:=h3 (by omega)
 obtain ⟨⟨⟨z,hz⟩,hf⟩,⟨y,hy⟩,hg⟩:=h6 j hj
 exact ⟨g,o,z,y,rfl,hB,hz,hf,hy,hg⟩
end
end Go.Proofs.YtchndljcahjldaaGreatDoor
