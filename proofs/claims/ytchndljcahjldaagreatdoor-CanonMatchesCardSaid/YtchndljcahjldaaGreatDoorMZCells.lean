/- The intervals from each start up to the next one: cells of package atoms. -/
import Derived.Test.YtchndljcahjldaaGreatDoorMZTree
import Derived.Test.YtchndljcahjldaaGreatDoorMGOut
namespace Go.Proofs.YtchndljcahjldaaGreatDoor
section
open Go.RowKit
variable {S:List Int} {k i g B n cap:Nat} {s x:Int} {l L:List Iv} {w W:World} {y:Iv}
theorem yu3:∀ (A:List Int) (a s:Int),∃ X,pcs (A ++ [a])=X ++ [(a,UM)]∧pcs (A ++ [a,s])=X ++ [(a,s - 1),(s,UM)]
 | [],a,s=>⟨[],rfl,rfl⟩
 | [b],a,s=>⟨[(b,a - 1)],rfl,rfl⟩
 | b :: c :: A,a,s=>by
   obtain ⟨X,h1,h2⟩:=yu3 (c :: A) a s
   grind [pcs]
def zh0 (S:List Int) (k:Nat):List Iv:=pcs (S.take k)++List.replicate (S.length - k) (0,0)
theorem xd6 (hk:k≤S.length):(zh0 S k).length=S.length:=by grind [zh0,List.length_append,zh2,List.length_take,List.length_replicate]
theorem wj4 (S:List Int):zh0 S S.length=pcs S:=by unfold zh0;simp
theorem w59 (S:List Int):zh0 S 0=List.replicate S.length (0,0):=by unfold zh0;simp [pcs]
theorem xn8 (h:S[0]? = some s):(zh0 S 0).set 0 (s,UM)=zh0 S 1:=by
 cases S with
 | nil=>simp at h
 | cons a S =>
   grind [zh0,pcs]
theorem w60 {a:Int} (h:S[k]? = some a) (h2:S[k+1]? = some s):(((zh0 S (k+1)).set (k+1) (s,UM)).set k (a,s - 1))=zh0 S (k+2)∧((zh0 S (k+1)).set (k+1) (s,UM))[k]? = some (a,UM):=by
 have e1:S.take (k+1)=S.take k ++ [a]:=by rw [List.take_add_one,h];rfl
 have e2:S.take (k+2)=S.take k ++ [a,s]:=by rw [List.take_add_one,h2,e1];simp
 obtain ⟨X,h3,h4⟩:=yu3 (S.take k) a s
 have hlt:=(List.getElem?_eq_some_iff.1 h2).1
 grind [List.length,zh2,List.length_append,List.length_take,zh0]
theorem x21:∀ (l:List Iv) (i:Nat) (x:Iv),ivC (l.set i x)=((ivC l).set (i*2) (.int .u64 x.1)).set (i*2+1) (.int .u64 x.2)
 | [],i,x=>by simp [ivC]
 | y :: l,0,x=>by simp [ivC]
 | y :: l,i+1,x=>by
   have e:ivC (y :: l) = .int .u64 y.1 :: .int .u64 y.2 :: ivC l:=by simp [ivC]
   have e2:ivC ((y :: l).set (i+1) x) = .int .u64 y.1 :: .int .u64 y.2 :: ivC (l.set i x):=by simp [ivC]
   rw [e,e2,x21 l i x,show (i+1)*2=i*2+2 by omega]
   rfl
theorem wj5 {x:Iv} {z:Int} (h:l[i]? = some x):ivC (l.set i (x.1,z))=(ivC l).set (i*2+1) (.int .u64 z):=by
 rw [x21]
 congr 1
 refine List.ext_getElem? fun j => ?_
 rw [List.getElem?_set]
 split
 ·rename_i e
  subst e
  rw [(y72 l i x h).1,if_pos (by
   have:=(List.getElem?_eq_some_iff.1 h).1
   rw [zd9];omega)]
 ·rfl
theorem z36 (W:World) (g i:Nat) (v:Value):y5 (fun k=>k=g) W (W.setCell ⟨g,i,none⟩ v):=y5.set W v rfl
theorem ym1 {W':World} (hb:Below g w W) (hap:y5 (fun k=>k=g) W W') (hg:g≤W.heap.size):Below g w W':=hb.trans (hap.below hg fun k hk e=>by omega)
theorem r9.set (h:r9 W B (.slice (some ⟨g,0,none⟩) n cap) L) (hn:L.length=n) (i:Nat) (x y:Int):r9 ((W.setCell ⟨g,i*2,none⟩ (.int .u64 x)).setCell ⟨g,i*2+1,none⟩ (.int .u64 y)) B (.slice (some ⟨g,0,none⟩) n cap) (L.set i (x,y)):=by
 subst hn
 unfold r9
 rw [List.length_set,x21]
 exact ((World.ownsRow.stored h (i*2) _).1.stored (i*2+1) _).1
theorem r9.set1 (h:r9 W B (.slice (some ⟨g,0,none⟩) n cap) L) (hn:L.length=n) {y:Int} (hi:L[i]? = some (x,y)) (z:Int):r9 (W.setCell ⟨g,i*2+1,none⟩ (.int .u64 z)) B (.slice (some ⟨g,0,none⟩) n cap) (L.set i (x,z)):=by
 subst hn
 unfold r9
 rw [List.length_set,wj5 (x:=(x,y)) (z:=z) hi]
 exact (World.ownsRow.stored h (i*2+1) _).1
theorem xd7 (z:Value) (n:Nat):(madeCells #[z,z] (n*2)).toList=List.replicate (n*2) z:=by
 apply List.ext_getElem?
 intro j
 by_cases hj:j<n*2
 ·have e:([z,z]:List Value)[j % 2]?.getD default=z:=by
   rcases Nat.mod_two_eq_zero_or_one j with h | h <;> rw [h] <;> rfl
  simp [madeCells,hj,e]
 ·simp [madeCells,hj]
theorem xv1:∀ n:Nat,ivC (List.replicate n (0,0))=List.replicate (n*2) (.int .u64 0)
 | 0=>rfl
 | n+1=>by
   have e:ivC (List.replicate (n+1) (0,0)) = .int .u64 0 :: .int .u64 0 :: ivC (List.replicate n (0,0)):=by simp [ivC,List.replicate_succ]
   rw [e,xv1 n,show (n+1)*2=n*2+1+1 by omega,List.replicate_succ,List.replicate_succ]
set_option maxRecDepth 100000 in
set_option maxHeartbeats 4000000 in
theorem w61 (S:List Int) (v:Value) (w:World) (hv:yy5 w v S) (hl:S.length≤5000) (hr:∀ x ∈ S,0≤x∧x≤UM) (hz:∀ (i:Nat) x,S[i+1]? = some x→0<x):Calls Tryz.prog 130 #[v] w (z69 (pcs S) w):=by
 obtain ⟨i0,hi',hz0,hz1,hz2⟩:=info_parts zb2
 obtain ⟨p,cap,rfl,_,hcell⟩:=hv
 have hlen:S.length≤5000:=hl
 obtain ⟨w1,hmk,hown,hgr⟩:=run_makeSlice_full (P:=Tryz.prog) w w.heap.size 42 65 i0 (.agg #[.int .u64 0,.int .u64 0]) 2 Tryz.underlying42 hi' hz0 hz1 .i64 .i64 S.length (by omega) (by rw [hz2];omega) (by unfold maxLen;omega) (Nat.le_refl _)
 have h1:Below w.heap.size w w1:=(y5.of_grown (q:=fun _=>False) hgr (fun r e=>by cases e)).below (Nat.le_refl _) fun _ _ h=>h
 rw [show (Value.agg #[.int .u64 0,.int .u64 0]).cells=#[.int .u64 0,.int .u64 0] from rfl,xd7,← xv1,← w59] at hown
 have hgw:w.heap.size<w1.heap.size:=(hown.lt _ rfl).2
 have HO:=qh (show r9 w1 w.heap.size (.slice (some ⟨w.heap.size,0,none⟩) S.length S.length) (zh0 S 0) by unfold r9;rw [xd6 (Nat.zero_le _)];exact hown)
 have H1:=qh h1
 have HC:=qh (And.intro hcell (And.intro hr hz))
 obtain ⟨g,hg⟩:∃ g,w.heap.size=g:=⟨_,rfl⟩
 rw [hg] at hmk HO H1
 have HG:=qh hg
 clear hown hgr h1 hcell hr hz
 go_enter Tryz.func130,Tryz.ntmps130
 go_wp2_with fail
 go_loopw [11] (fun i wr=>∃ k:Nat,i = .int .i64 k∧k≤S.length∧r9 wr g (.slice (some ⟨g,0,none⟩) S.length S.length) (zh0 S k)∧Below g w wr) (fun i _=>S.length - (intOf i).toNat)
 case atStart=>exact ⟨0,rfl,Nat.zero_le _,HO.out,H1.out⟩
 case round =>
  clear HO H1 hgw
  obtain ⟨k,rfl,hk,hown,hb⟩:=hrel
  have HZ:=qh (show g≤wr.heap.size by have:=hb.size;have:=HG.out;omega)
  have HB:=qh hb;clear hb
  have HO:=qh hown
  by_cases hlt:k<S.length
  ·obtain ⟨x,hx⟩:∃ x,S[k]? = some x:=⟨S[k],by simp [hlt]⟩
   obtain ⟨b,o,e,hcell⟩:=HC.out.1 (by rintro rfl;simp at hlt)
   subst e
   have c0:=z6 (hcell k x hx) (HG.out ▸ HB.out)
   have hcl:(zh0 S k).length=S.length:=xd6 hk
   have hcc:=hown
   unfold r9 at hcc
   obtain ⟨z0,hz0'⟩:∃ z,(zh0 S k)[k]? = some z:=⟨(zh0 S k)[k]'(by omega),by simp [hcl,hlt]⟩
   obtain ⟨m0,m1⟩:=y72 _ _ _ hz0'
   have d0:wr.cell? ⟨g,k*2,none⟩=some (.int .u64 z0.1):=by
    rw [hcl] at hcc
    rw [hcc.cellAt (k*2) (by omega)];exact m0
   have d1:wr.cell? ⟨g,k*2+1,none⟩=some (.int .u64 z0.2):=by
    rw [hcl] at hcc
    rw [hcc.cellAt (k*2+1) (by omega)];exact m1
   have f0:wr.frozen? ⟨g,k*2,none⟩=false:=by rw [hcl] at hcc;exact hcc.frozenAt _
   have f1:wr.frozen? ⟨g,k*2+1,none⟩=false:=by rw [hcl] at hcc;exact hcc.frozenAt _
   have i1:(0:Int)≤(k:Int):=by omega
   have i2:(k:Int)<(S.length:Int):=by omega
   have HX:=qh hx
   clear hcc hcell hx m0 m1 hz0'
   have d1':(wr.setCell ⟨g,k*2,none⟩ (.int .u64 x)).cell? ⟨g,k*2+1,none⟩=some (.int .u64 z0.2):=(World.cell?_setCell_other _ _ _ _ (by intro e;have:=congrArg Addr.off e;simp at this)).trans d1
   have HS:=qh (hown.set hcl k x 18446744073709551615)
   clear hown
   by_cases h0:k=0
   ·have i3:¬ (0:Int)<(k:Int):=by omega
    have HK:=qh (show (zh0 S k).set k (x,18446744073709551615)=zh0 S (k+1) by subst h0;exact xn8 HX.out);clear h0
    go_wp2_with fail
    go_roundw
    case rel=>exact ⟨k+1,by go_num,by omega,HK.out ▸ HS.out,ym1 HB.out ((z36 _ _ _ _).trans (z36 _ _ _ _)) HZ.out⟩
    case measure=>simp [intOf] <;> omega
   ·obtain ⟨m,hm⟩:∃ m,k=m+1:=⟨k - 1,by omega⟩
    obtain ⟨a,ha⟩:∃ a,S[m]? = some a:=⟨S[m]'(by omega),by simp [show m<S.length by omega]⟩
    have hxx:=HX.out
    rw [hm] at hxx
    have hpos:=HC.out.2.2 m x hxx
    have hxm:=(HC.out.2.1 x (List.mem_of_getElem? hxx)).2
    have hU:UM=18446744073709551615:=rfl
    have HN:=qh (hm ▸ w60 ha hxx)
    have hs2:=HS.out
    unfold r9 at hs2
    rw [List.length_set,hcl] at hs2
    have d2:=hs2.cellAt (m*2+1) (by omega)
    rw [(y72 _ _ _ (show ((zh0 S k).set k (x,18446744073709551615))[m]? = some (a,UM) from HN.out.2)).2] at d2
    have f2:=hs2.frozenAt (m*2+1)
    have i3:(0:Int)<(k:Int):=by omega
    have e1:(k:Int) - 1=(m:Int):=by omega
    have i4:(m:Int)<(S.length:Int):=by omega
    have i5:(0:Int)≤(m:Int):=by omega
    have hw1:IntKind.u64.wrap (x - 1)=x - 1:=by simp [IntKind.wrap,IntKind.bits,IntKind.signed];omega
    have HS2:=qh (HS.out.set1 (by rw [List.length_set,hcl]) HN.out.2 (x - 1))
    have HM:=qh (And.intro hm h0)
    clear hs2 ha hxx hm h0 hU
    go_wp2_with fail
    go_roundw
    case rel=>exact ⟨k+1,by go_num,by omega,by have h:r9 _ g _ (((zh0 S k).set k (x,UM)).set m (a,x - 1)):=HS2.out;rw [HN.out.1] at h;rw [show k+1=m+2 by have:=HM.out.1;omega];exact h,ym1 HB.out (((z36 _ _ _ _).trans (z36 _ _ _ _)).trans (z36 _ _ _ _)) HZ.out⟩
    case measure=>simp [intOf] <;> omega
  ·obtain rfl:k=S.length:=by omega
   rw [wj4] at HO
   go_wp2_with fail
   go_ret
   exact ⟨_,rfl,HG.out.symm ▸ HO.out,HG.out.symm ▸ HB.out⟩
theorem wj6 {b o c:Nat} (h:v7 w (.slice (some ⟨b,o,none⟩) n c) (y :: l)) (c':Nat):v7 w (.slice (some ⟨b,o+2,none⟩) l.length c') l:=by
 obtain ⟨p,cp,e,hl,hc⟩:=h
 rw [List.length_cons] at hl
 refine ⟨_,c',rfl,by omega,fun hne=>⟨b,o+2,rfl,fun j x hj => ?_⟩⟩
 obtain ⟨b',o',e3,h6⟩:=hc (by simp)
 cases e;cases e3
 have:=h6 (j+1) x (by simpa using hj)
 rw [show o+2+j*2=o+(j+1)*2 by omega]
 exact this
theorem zs7:∀ {T R:List Iv},m5 (T++R)→m5 R
 | [],_,h=>h
 | y :: T,R,h=>by
   cases T with
   | nil =>
     cases R with
     | nil=>trivial
     | cons z r=>exact h.2.2
   | cons z T=>exact zs7 (T:=z :: T) h.2.2
theorem ym2 {T R:List Iv} (hd:∀ y ∈ T,y.2<x):y9 (T++R) x=y9 R x:=by grind [b5,y9,t7]
theorem xd8 (h:m5 (y :: l)) (hx:x≤y.2):y9 (y :: l) x=decide (y.1≤x):=by
 have e:y9 (y :: l) x=(inI y x || y9 l x):=rfl
 rw [e]
 have h0:y9 l x=false:=by
  cases hh:y9 l x with
  | false=>rfl
  | true =>
    obtain ⟨z,hz,h1,h2⟩:=(t7 l x).1 hh
    obtain ⟨k,hk⟩:=List.mem_iff_getElem?.1 hz
    have:=z59 (y :: l) h 0 (k+1) y z (by omega) rfl (by simpa using hk)
    omega
 rw [h0,Bool.or_false]
 unfold inI
 grind
theorem xd9 {C:List Iv} {c:Iv} (h:C[k]? = some c) (f:Iv→Bool):(C.take (k+1)).filter f=if f c=true then (C.take k).filter f ++ [c] else (C.take k).filter f:=by grind [List.take_add_one]
theorem xv2 {α:Type} {R:α→α→Prop} {l:List α} (h:l.Pairwise R) {j:Nat} {a b:α} (ha:l[i]? = some a) (hb:l[j]? = some b) (hij:i<j):R a b:=by grind [List.getElem?_eq_some_iff,List.pairwise_iff_getElem]
theorem xn9 {F:t8} (hF:x9 F) (x:Int):y9 (z15 F) x=zb7 F x:=by
 have:=zn7 x F [] z34 hF
 rw [show y9 ([]:List Iv) x=false from rfl,Bool.false_or] at this
 exact this
set_option maxRecDepth 100000 in
set_option maxHeartbeats 8000000 in
theorem xo0 (F:t8) (v:Value) (w:World) (hv:z08 w v F) (hF:x9 F) (hs:midI F):Calls Tryz.prog 77 #[v] w (z69 (r7 F) w):=by
 obtain ⟨i0,hi',hz0,hz1,hz2⟩:=info_parts zb2
 obtain ⟨p,cap,rfl⟩:=hv.m.shape
 have K1:=qh (yj2 F _ w hv hF hs)
 have K2:=qh (fun W (hb:Below w.heap.size w W)=>w71 F _ W (hv.m.call hb) hF hs)
 have hsl:(r8 F).length≤3000:=by have:=zb9 F;have:=hs.2;omega
 have K3:=qh (fun u W (h:yy5 W u (r8 F))=>w61 (r8 F) u W h (by omega) (c9 hF) fun i x hx=>by
  obtain ⟨r,hr⟩:=zz3 hF
  have ha:=a8 F
  rw [hr] at ha hx
  exact (List.pairwise_cons.1 ha).1 x (List.mem_of_getElem? (show r[i]? = some x by simpa using hx)))
 have hcn:(z15 F).length≤1000:=Nat.le_trans (xa1 hF) hs.2
 have HM:=qh (And.intro (zc1 F [] z34 hF).can (And.intro (yw4 (a8 F) (c9 hF)) (And.intro (fun p hp=>zz4 (a8 F) (c9 hF) p hp) (xn9 hF))))
 have hpl:(pcs (r8 F)).length≤3000:=by rw [zh2];exact hsl
 have HPK:Hid ((pcs (r8 F)).filter (fun p=>zb7 F p.1)=r7 F):=qh rfl
 clear hv hF hs hsl
 have hI:(F.foldl (fun A x=>orL A x.1) [])=z15 F:=rfl
 rw [hI] at HM
 clear hI
 generalize hPQ:r7 F=PQ at *
 generalize hIL:z15 F=IL at *
 generalize hC:pcs (r8 F)=C at *
 clear hPQ hIL hC
 go_enter Tryz.func77,Tryz.ntmps77
 go_wp2_with fail
 refine K1.out.mono ?_
 rintro e w1 ⟨u,rfl,hu,hsu,_,h1⟩
 have HU:=qh (And.intro hu hsu)
 obtain ⟨pu,cu,rfl,_⟩:=hu.shape
 have H1:=qh h1
 clear hu hsu h1
 go_wp2_with fail
 refine (K2.out _ H1.out).mono ?_
 rintro e w2 ⟨s,rfl,hos,h2⟩
 have HN:=qh (x96 hos)
 obtain ⟨ps,cs,rfl,_⟩:=y8 hos
 have H2:=qh h2
 clear hos h2
 go_wp2_with fail
 refine (K3.out _ _ HN.out).mono ?_
 rintro e w3 ⟨c,rfl,hoc,h3⟩
 have HCC:=qh (hoc.ivs (by omega))
 obtain ⟨pc,cc,rfl,_⟩:=y8 hoc
 have HU3:=qh (And.intro (HU.out.1.call (z7 H2.out h3)) HU.out.2)
 have H3:=qh (z7 (z7 H1.out H2.out) h3)
 clear hoc h3 HU HN
 go_wp2_with fail
 go_loopw [3,4,13] (fun u it i wr=>∃ (k:Nat) (T R:List Iv),i = .int .i64 k∧k≤C.length∧r9 wr w3.heap.size u ((C.take k).filter fun p=>zb7 F p.1)∧v7 w3 it R∧z02 it∧IL=T++R∧(∀ y ∈ T,∀ c ∈ C.drop k,y.2<c.1)∧Below w3.heap.size w3 wr) (fun _ _ i _=>C.length - (intOf i).toNat)
 case atStart=>exact ⟨0,[],IL,rfl,Nat.zero_le _,r9.nil _ _,HU3.out.1,HU3.out.2,rfl,(fun y hy=>absurd hy (by simp)),Below.refl _ _⟩
 case round =>
  obtain ⟨k,T,R,rfl,hk,hown,hit,hsn,hd,hlow,hb⟩:=hrel
  have HB:=qh hb;clear hb
  obtain ⟨pw,cw,rfl,_⟩:=y8 hown
  have HO:=qh hown;clear hown
  obtain ⟨pi,ci,rfl,_⟩:=hit.shape
  by_cases hlt:k<C.length
  ·obtain ⟨⟨x1,x2⟩,hx⟩:∃ x,C[k]? = some x:=⟨C[k],by simp [hlt]⟩
   obtain ⟨b,o,cap',e,c0,c1⟩:=HCC.out.elem hx
   cases e
   have t0:=z6 c0 HB.out
   have t1:=z6 c1 HB.out
   obtain ⟨wE,hwE⟩:∃ wE,wr.alloc (.cells #[.int .u64 x1,.int .u64 x2] 65)=wE:=⟨_,rfl⟩
   have hbE:Below wr.heap.size wr wE:=hwE ▸ z8 wr _
   have s0:wE.cell? ⟨wr.heap.size,0,none⟩=some (.int .u64 x1):=by rw [← hwE];simp
   have s1:wE.cell? ⟨wr.heap.size,1,none⟩=some (.int .u64 x2):=by rw [← hwE];simp
   have HS:=qh (And.intro s0 s1)
   have HBE:=qh (z7 HB.out hbE)
   have HOE:=qh (HO.out.below hbE)
   have HX:=qh hx
   have HLO:=qh (fun y hy=>hlow y hy (x1,x2) (by rw [List.drop_eq_getElem_cons hlt];have:=(List.getElem?_eq_some_iff.1 hx).2;rw [this];simp):∀ y ∈ T,y.2<x1)
   have HIT:=qh (And.intro hit (And.intro hsn hd))
   have i1:(0:Int)≤(k:Int):=by omega
   have i2:(k:Int)<(C.length:Int):=by omega
   clear hbE hx hlow hit hsn hd c0 c1
   go_wp2_with fail
   clear hwE
   go_loopw [4] (fun it wr=>∃ T R:List Iv,v7 w3 it R∧z02 it∧IL=T++R∧(∀ y ∈ T,y.2<x1)∧Below wE.heap.size wE wr) (fun it _=>zv0 it)
   case atStart=>exact ⟨T,R,HIT.out.1,HIT.out.2.1,HIT.out.2.2,HLO.out,Below.refl _ _⟩
   case round =>
    clear HIT HLO s0 s1 t0 t1
    obtain ⟨T,R,hit,hsn,hTR,hlow,hb⟩:=hrel
    have HB2:=qh hb;clear hb
    have HLO:=qh hlow;clear hlow
    have HTR:=qh hTR;clear hTR
    have s0:=z6 HS.out.1 HB2.out
    have s1:=z6 HS.out.2 HB2.out
    obtain ⟨pi,ci,rfl,_⟩:=hit.shape
    have HIT:=qh (And.intro hit hsn)
    have HST:=qh (z7 HBE.out HB2.out)
    have HFS:=qh (xd9 HX.out fun p=>zb7 F p.1)
    have HNX:Hid (∀ (T':List Iv),(∀ y ∈ T',y.2<x1)→∀ y ∈ T',∀ c ∈ C.drop (k+1),y.2<c.1):=qh fun T' hT y hy c hc=>by
     obtain ⟨j,hj⟩:=List.mem_iff_getElem?.1 hc
     rw [List.getElem?_drop] at hj
     have h1:=xv2 HM.out.2.1 HX.out hj (by omega)
     have h2:=(HM.out.2.2.1 _ (List.mem_of_getElem? HX.out)).2.1
     have h3:=hT y hy
     dsimp only at h1 h2
     omega
    cases R with
    | nil =>
      have HNO:=qh (show zb7 F x1=false by rw [← HM.out.2.2.2 x1,HTR.out,ym2 HLO.out];rfl)
      clear hit hsn
      go_wp2_with fail
      go_quiet (fail)
      go_wp2_with fail
      go_quiet (fail)
      go_wp2_with fail
      go_roundw
      case rel=>exact ⟨k+1,T,[],by go_num,by omega,by rw [HFS.out,if_neg (by rw [HNO.out];simp)];exact HOE.out.below (below_drewN HB2.out _),HIT.out.1,HIT.out.2,HTR.out,HNX.out T HLO.out,below_drewN HST.out _⟩
      case measure=>simp [intOf] <;> omega
    | cons y R =>
      obtain ⟨y1,y2⟩:=y
      obtain ⟨b2,o2,cap2,e,z0,z1⟩:=hit.elem (i:=0) (x:=(y1,y2)) rfl
      cases e
      rw [Nat.zero_mul,Nat.add_zero] at z0 z1
      have q0:=z6 z0 HST.out
      have q1:=z6 z1 HST.out
      have hcn2:=HM.out.1
      rw [HTR.out] at hcn2
      have hc0:(0:Int)<((R.length+1:Nat):Int):=by omega
      have hcp:R.length+1≤ci:=by have:=hsn.2 _ _ _ rfl;simpa using this
      rw [List.length_cons] at hit hsn HIT ⊢
      have HR:=qh hcn2;clear hcn2
      by_cases hlo:y2<x1
      ·have hb1:decide (y2<x1)=true:=by simpa using hlo
       have HLT:=qh (show ∀ z ∈ T ++ [(y1,y2)],z.2<x1 from fun z hz=>by
        rcases List.mem_append.1 hz with hz | hz
        ·exact HLO.out z hz
        ·obtain rfl:=List.mem_singleton.1 hz;exact hlo)
       have HT:=qh (And.intro (fun c'=>wj6 HIT.out.1 c') hcp)
       clear hlo
       by_cases hc1:ci=1
       ·subst hc1
        obtain rfl:R = []:=List.eq_nil_of_length_eq_zero (by omega)
        go_wp2_with fail
        go_quiet (fail)
        go_wp2_with fail
        go_roundw
        case rel =>
         exact ⟨T ++ [(y1,y2)],[],⟨_,0,rfl,by simp,fun h=>absurd rfl h⟩,a7 _ _ _ (Nat.le_refl _),by rw [HTR.out];simp,HLT.out,below_drewN HB2.out _⟩
        case measure=>first | (simp [zv0];done) | (simp [zv0];omega)
       ·go_wp2_with fail
        go_quiet (fail)
        go_wp2_with fail
        go_roundw
        case rel =>
         exact ⟨T ++ [(y1,y2)],R,HT.out.1 _,a7 _ _ _ (by have:=HT.out.2;omega),by rw [HTR.out];simp,HLT.out,below_drewN HB2.out _⟩
        case measure=>first | (simp [zv0];done) | (simp [zv0];omega)
      ·have hb1:decide (y2<x1)=false:=by simpa using hlo
       by_cases hyx:y1≤x1
       ·have hb2:decide (y1≤x1)=true:=by simpa using hyx
        have HAS:=qh (show zb7 F x1=true by rw [← HM.out.2.2.2 x1,HTR.out,ym2 HLO.out,xd8 (zs7 HR.out) (by simpa using hlo),hb2])
        have hpl2:((C.take k).filter fun p=>zb7 F p.1).length≤3000:=by
         have:=List.length_filter_le (fun p:Iv=>zb7 F p.1) (C.take k)
         rw [List.length_take] at this
         omega
        generalize ((C.take k).filter fun p=>zb7 F p.1)=PP at *
        have HPL:=qh hpl2;clear hpl2
        go_wp2_with fail
        go_quiet (fail)
        have HB3:=qh (below_drewN HB2.out nq)
        clear s0 s1 q0 q1
        have s0:=z6 HS.out.1 HB3.out
        have s1:=z6 HS.out.2 HB3.out
        have q0:=z6 z0 (z7 HBE.out HB3.out)
        have q1:=z6 z1 (z7 HBE.out HB3.out)
        generalize wr.drewN nq=W2 at HB3 s0 s1 q0 q1 ⊢
        go_wp2_with fail
        go_quiet (fail)
        have HB4:=qh (below_drewN HB3.out nq)
        clear s0 s1 q0 q1
        have s0:=z6 HS.out.1 HB4.out
        have s1:=z6 HS.out.2 HB4.out
        generalize W2.drewN nq=W3 at HB4 s0 s1 ⊢
        have HO3:=qh (HOE.out.below HB4.out)
        have HW3:=qh (z7 HBE.out HB4.out)
        go_wp2_with (at_builtin;go_loud (refine wpList_append_own _ rfl _ _ 42 rfl w3.heap.size 65 i0 (.agg #[.int .u64 0,.int .u64 0]) 2 16 Tryz.underlying42 hi' hz0 hz1 hz2 rfl (by decide) _ PP.length (ivC PP) rfl (y6 HO3.out (z8 _ _)) ⟨W3.heap.size,0,none⟩ 1 1 [.int .u64 x1,.int .u64 x2] rfl rfl (za6 _ _ _ _) (by simp [Value.oneCell']) (by have:=HPL.out;unfold maxLen;omega) (by have:=HPL.out;omega) (Nat.le_trans HW3.out.size (z8 _ _).size) ?_;intro v' w4 hown' hgrow _;have HN:=qh (z8 W3 (.cells #[.int .u64 x1,.int .u64 x2] 65));have HW4:=qh (x8 (z7 HW3.out HN.out) (y6 HO3.out HN.out) hgrow (Nat.le_trans HW3.out.size HN.out.size));obtain ⟨g',cap4,rfl,_⟩:=y8 hown';have HP:=qh hown';clear hown' hgrow))
        go_roundw
        case rel=>exact ⟨k+1,T,(y1,y2) :: R,by go_num,by omega,by rw [HFS.out,if_pos HAS.out];unfold r9;rw [List.length_append,zc3];exact HP.out,HIT.out.1,HIT.out.2,HTR.out,HNX.out T HLO.out,HW4.out⟩
        case measure=>simp [intOf] <;> omega
       ·have hb2:decide (y1≤x1)=false:=by simpa using hyx
        have HNO:=qh (show zb7 F x1=false by rw [← HM.out.2.2.2 x1,HTR.out,ym2 HLO.out,xd8 (zs7 HR.out) (by simpa using hlo),hb2])
        go_wp2_with fail
        go_quiet (fail)
        go_wp2_with fail
        go_quiet (fail)
        go_wp2_with fail
        go_roundw
        case rel=>exact ⟨k+1,T,(y1,y2) :: R,by go_num,by omega,by rw [HFS.out,if_neg (by rw [HNO.out];simp)];exact HOE.out.below (below_drewN HB2.out _),HIT.out.1,HIT.out.2,HTR.out,HNX.out T HLO.out,below_drewN HST.out _⟩
        case measure=>simp [intOf] <;> omega
  ·obtain rfl:k=C.length:=by omega
   rw [List.take_length,HPK.out] at HO ⊢
   go_wp2_with fail
   go_ret
   exact ⟨_,rfl,p8 HO.out H3.out.size,z7 H3.out HB.out⟩
end
end Go.Proofs.YtchndljcahjldaaGreatDoor
