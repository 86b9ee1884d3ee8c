/- Package lattice: a pair's known, and the map of pairs. -/
import Derived.Test.YtchndljcahjldaaGreatDoorMLIter
import Derived.Maps.Own
import Derived.Test.YtchndljcahjldaaGreatDoorMLPut
import Derived.Test.YtchndljcahjldaaGreatDoorMPCodeA
import Derived.Maps.RangeWalk
namespace Go.Proofs.YtchndljcahjldaaGreatDoor
section
open Go.RowKit Go.Maps
variable {w w' w1 wr:World} {m r:Int} {s v:Value} {K:List Iv} {A B:v6} {x:Int × Int × List Iv} {b n:Nat} {ks:List Int}
def z65 (w:World) (m:Int) (s:Value) (K:List Iv):Prop:=∃ H,y96 w s m H∧x7 m H=K
theorem z65.call (h:z65 w m s K) (hb:Below w.heap.size w w'):z65 w' m s K:=by
 obtain ⟨H,h1,h2⟩:=h
 exact ⟨H,h1.call hb,h2⟩
theorem z65.shape (h:z65 w m s K):∃ p n c,s = .slice p n c:=by
 obtain ⟨H,h1,_⟩:=h
 obtain ⟨p,c,e,_⟩:=h1.any.at'.shape
 exact ⟨p,_,c,e⟩
def yr2 (w:World) (v:Value) (K L:List Iv):Prop:=∃ r m s r2 m2 s2,v = .agg #[.int .u64 r,.int .u64 m,s,.int .u64 r2,.int .u64 m2,s2]∧z65 w m s K∧z65 w m2 s2 L
theorem yr2.call {L:List Iv} (h:yr2 w v K L) (hb:Below w.heap.size w w'):yr2 w' v K L:=by
 obtain ⟨r,m,s,r2,m2,s2,e,h1,h2⟩:=h
 exact ⟨r,m,s,r2,m2,s2,e,h1.call hb,h2.call hb⟩
def v58 (K L:List Iv) (w:World) (e:Ending) (w':World):Prop:=∃ s t,e = .returned (.tuple #[s,t])∧z19 w' s K∧z19 w' t L∧Below w.heap.size w w'
theorem x65 {H:List Iv} (hi:v7 w v (x7 m H)) (hg:z04 m H) (hl:H.length≤5000):z19 w v (x7 m H):=
 ⟨hi,z14 hg,by have:=zh6 hg;omega⟩
set_option maxRecDepth 100000 in
set_option maxHeartbeats 4000000 in
theorem xi8 (r m r2 m2:Int) (s s2:Value) (K L:List Iv) (w:World) (h1:z65 w m s K) (h2:z65 w m2 s2 L) :
 Calls Tryz.prog 246 #[.agg #[.int .u64 r,.int .u64 m,s,.int .u64 r2,.int .u64 m2,s2]] w (v58 K L w):=by
 obtain ⟨H,ha,rfl⟩:=h1
 obtain ⟨H2,hb,rfl⟩:=h2
 obtain ⟨p,cap,rfl,_⟩:=ha.any.at'.shape
 obtain ⟨p',cap',rfl,_⟩:=hb.any.at'.shape
 obtain ⟨wA,hwA⟩:∃ wA,w.alloc (.cells #[.int .u64 r,.int .u64 m,.slice p H.length cap,.int .u64 r2,.int .u64 m2,.slice p' H2.length cap'] 276)=wA:=⟨_,rfl⟩
 have hbA:Below w.heap.size w wA:=hwA ▸ z8 w _
 have t0:wA.cell? ⟨w.heap.size,0,none⟩=some (.int .u64 r):=by rw [← hwA];simp
 have t1:wA.cell? ⟨w.heap.size,1,none⟩=some (.int .u64 m):=by rw [← hwA];simp
 have t2:wA.cell? ⟨w.heap.size,2,none⟩=some (.slice p H.length cap):=by rw [← hwA];simp
 have t3:wA.cell? ⟨w.heap.size,3,none⟩=some (.int .u64 r2):=by rw [← hwA];simp
 have t4:wA.cell? ⟨w.heap.size,4,none⟩=some (.int .u64 m2):=by rw [← hwA];simp
 have t5:wA.cell? ⟨w.heap.size,5,none⟩=some (.slice p' H2.length cap'):=by rw [← hwA];simp
 have HS0:=qh (yy0 (show Below wA.heap.size wA wA∧_∧_∧_∧_∧_∧_ from ⟨Below.refl _ _,t0,t1,t2,t3,t4,t5⟩))
 have HOA:=qh (ha.call hbA)
 have HOB:=qh (hb.call hbA)
 have KA:=qh (fun W h=>yg9 r m H (.slice p H.length cap) W h)
 have KB:=qh (fun W h=>yg9 r2 m2 H2 (.slice p' H2.length cap') W h)
 have HG:=qh (And.intro (And.intro ha.good ha.any.len) (And.intro hb.good hb.any.len))
 have HBA:=qh hbA
 clear ha hb hbA
 go_enter Tryz.func246,Tryz.ntmps246
 go_wp2_with fail
 clear hwA
 generalize hKA:x7 m H=KKA at *
 generalize hKB:x7 m2 H2=KKB at *
 have HKA:=qh (And.intro hKA hKB);clear hKA hKB
 go_region_held3 (fun w'=>Below wA.heap.size wA w'∧w'.cell? ⟨w.heap.size,0,none⟩=some (.int .u64 r)∧w'.cell? ⟨w.heap.size,1,none⟩=some (.int .u64 m)∧w'.cell? ⟨w.heap.size,2,none⟩=some (.slice p H.length cap)∧w'.cell? ⟨w.heap.size,3,none⟩=some (.int .u64 r2)∧w'.cell? ⟨w.heap.size,4,none⟩=some (.int .u64 m2)∧w'.cell? ⟨w.heap.size,5,none⟩=some (.slice p' H2.length cap'))
  (first
    | exact yd6 (by assumption) (by assumption)
    | exact HS0.out
    | assumption)
  (first
    | (go_at_call 269;(with_reducible change Calls _ _ #[.agg #[.int .u64 r,.int .u64 m,.slice p H.length cap]] _ _);refine (KA.out _ (HOA.out.call (Below.refl _ _).drew)).mono ?_;rintro en w3 ⟨v1,rfl,hv1,_,_,h'⟩;have hh:Below wA.heap.size wA w3:=(Below.refl _ _).drew.trans h';replace HOB:=qh (HOB.out.call hh);have HV1:=qh hv1;clear hv1 hh;have h':=qh h')
    | (go_at_call 269;(with_reducible change Calls _ _ #[.agg #[.int .u64 r2,.int .u64 m2,.slice p' H2.length cap']] _ _);refine (KB.out _ HOB.out).mono ?_;rintro en w4 ⟨v2,rfl,hv2,_,_,h'⟩;replace HV1:=qh (HV1.out.call h');have HV2:=qh hv2;clear hv2;have h':=qh h';have hSw:=yd6 (by assumption) h'))
 have HSW:=qh hSw.1;clear hSw
 obtain ⟨pa,ca,rfl,_⟩:=HV1.out.shape
 obtain ⟨pb,cb,rfl,_⟩:=HV2.out.shape
 go_wp2_with fail
 go_ret2
 refine ⟨_,_,rfl,?_,?_,z7 HBA.out HSW.out⟩
 ·rw [← HKA.out.1];exact x65 (by rw [HKA.out.1];exact HV1.out) HG.out.1.1 HG.out.1.2
 ·rw [← HKA.out.2];exact x65 (by rw [HKA.out.2];exact HV2.out) HG.out.2.1 HG.out.2.2
theorem yr3 {y:DataW Value × List MemPlace} (h:zj8 v=some y):∃ a b p n c a2 b2 p2 n2 c2,v = .agg #[.int .u64 a,.int .u64 b,.slice p n c,.int .u64 a2,.int .u64 b2,.slice p2 n2 c2]:=by
 unfold zj8 at h
 split at h
 ·rename_i cs
  split at h
  ·rename_i a b p n c a2 b2 p2 n2 c2 e
   refine ⟨a,b,p,n,c,a2,b2,p2,n2,c2,?_⟩
   rw [← e]
  ·cases h
 ·cases h
theorem x66 (w:World):(zeroValue 276).run Tryz.prog w = .ok (.agg #[.int .u64 0,.int .u64 0,.slice none 0 0,.int .u64 0,.int .u64 0,.slice none 0 0]) w:=by kernel_rfl
structure c6 (w1:World) (A B:v6) (D:DataW Value):Prop where
 isMap:IsMap D
 has:∀ r:Int,Maps.has D (.int .u64 r)=true↔(∃ x ∈ A,x.1=r)∨(∃ x ∈ B,x.1=r)
 at':∀ r:Int,Maps.has D (.int .u64 r)=true→∃ v,(∀ zd,D.atKey (.int .u64 r) zd = .held v)∧yr2 w1 v (knV A r) (knV B r)
theorem c6.start (w1:World):c6 w1 [] [] (.map []):=⟨isMap_empty,fun r=>by simp [Maps.has],fun r h=>by simp [Maps.has] at h⟩
theorem x67 (h:(A ++ [x]).Pairwise fun x y=>x.1<y.1):(∀ y ∈ A,y.1≠x.1)∧knV (A ++ [x]) x.1=x7 x.2.1 x.2.2∧∀ r,r≠x.1→knV (A ++ [x]) r=knV A r:=by
 have hp:=List.pairwise_append.1 h
 refine ⟨fun y hy e=>by have:=hp.2.2 y hy x (by simp);omega,y15 h (by simp),fun r hr => ?_⟩
 rcases z63 hp.1 r with ⟨y,hy,rfl,e⟩ | ⟨hn,e⟩
 ·grind [y15]
 grind [zr0,List.mem_singleton]
theorem zq3 (r:Int) (h0:0≤r) (h1:r≤18446744073709551615):keyOf Tryz.prog 36 (.int .u64 r)=some (.int .u64 r):=keyOf_int_mk Tryz.underlying36 (by unfold Lit.wf;exact Bool.and_eq_true_iff.2 ⟨decide_eq_true h0,decide_eq_true h1⟩)
theorem yd1 (r:Int) (h0:0≤r) (h1:r≤18446744073709551615):WideAt.IsKeyLit (.int .u64 r):=z54.key (zq3 r h0 h1)
theorem zq4 {s:Int} (h:r≠s):(Lit.int .u64 r) ≠ .int .u64 s:=fun e=>h (by cases e;rfl)
theorem c6.put0 {D:DataW Value} (h:c6 w1 A [] D) (hp:(A ++ [x]).Pairwise fun x y=>x.1<y.1) (hk:WideAt.IsKeyLit (.int .u64 x.1)) (hv:yr2 w1 v (x7 x.2.1 x.2.2) []) :
 c6 w1 (A ++ [x]) [] (D.put (.int .u64 x.1) (.held v)):=by
 obtain ⟨h1,h2,h3⟩:=x67 hp
 refine ⟨h.isMap.put _ _,fun r => ?_,fun r hr => ?_⟩
 ·by_cases e:r=x.1
  ·subst e;rw [has_put_same h.isMap hk];simp
  ·rw [has_put_other (zq4 e),h.has r]
   simp only [List.mem_append,List.mem_singleton,List.not_mem_nil,false_and,exists_false,or_false]
   constructor
   ·rintro ⟨y,hy,e2⟩;exact ⟨y,.inl hy,e2⟩
   ·rintro ⟨y,hy | rfl,e2⟩
    ·exact ⟨y,hy,e2⟩
    ·exact absurd e2.symm e
 ·by_cases e:r=x.1
  ·subst e;exact ⟨v,fun zd=>atKey_put_same h.isMap hk _ zd,by rw [h2];exact hv⟩
  ·rw [has_put_other (zq4 e)] at hr
   obtain ⟨u,h4,h5⟩:=h.at' r hr
   exact ⟨u,fun zd=>by rw [atKey_put_other (zq4 e)];exact h4 zd,by rw [h3 r e];exact h5⟩
theorem c6.put1 {D:DataW Value} (h:c6 w1 A B D) (hp:(B ++ [x]).Pairwise fun x y=>x.1<y.1) (hk:WideAt.IsKeyLit (.int .u64 x.1)) (hv:yr2 w1 v (knV A x.1) (x7 x.2.1 x.2.2)) :
 c6 w1 A (B ++ [x]) (D.put (.int .u64 x.1) (.held v)):=by
 obtain ⟨h1,h2,h3⟩:=x67 hp
 refine ⟨h.isMap.put _ _,fun r => ?_,fun r hr => ?_⟩
 ·by_cases e:r=x.1
  ·subst e;rw [has_put_same h.isMap hk];simp
  ·rw [has_put_other (zq4 e),h.has r]
   constructor
   ·rintro (hh | ⟨y,hy,e2⟩)
    ·exact .inl hh
    ·exact .inr ⟨y,by simp [hy],e2⟩
   ·rintro (hh | ⟨y,hy,e2⟩)
    ·exact .inl hh
    ·rcases List.mem_append.1 hy with hy | hy
     ·exact .inr ⟨y,hy,e2⟩
     ·rcases List.mem_singleton.1 hy with rfl;exact absurd e2.symm e
 ·by_cases e:r=x.1
  ·subst e;exact ⟨v,fun zd=>atKey_put_same h.isMap hk _ zd,by rw [h2];exact hv⟩
  ·rw [has_put_other (zq4 e)] at hr
   obtain ⟨u,h4,h5⟩:=h.at' r hr
   exact ⟨u,fun zd=>by rw [atKey_put_other (zq4 e)];exact h4 zd,by rw [h3 r e];exact h5⟩
theorem yg5 {D:DataW Value} (h:c6 w1 A B D) (hown:zm7 wr b n D) (r:Int) (h0:0≤r) (h1:r≤18446744073709551615) :
 ∃ a m p n' c a2 m2 p2 n2 c2,(Instr.lookup 271 (.map (some b)) (.int .u64 r) true).run Tryz.prog wr = .ok (.tuple #[.agg #[.int .u64 a,.int .u64 m,.slice p n' c,.int .u64 a2,.int .u64 m2,.slice p2 n2 c2],.bool (Maps.has D (.int .u64 r))]) wr ∧
  (Maps.has D (.int .u64 r)=true→z65 w1 m (.slice p n' c) (knV A r)∧z65 w1 m2 (.slice p2 n2 c2) (knV B r)):=by
 obtain ⟨v,ps,hrun,hv⟩:=hown.look_ok z54 Tryz.underlying271 (x66 wr) (x64 _ _ _ _ _ _ _ _ _ _) (zq3 r h0 h1)
 obtain ⟨a,m,p,n',c,a2,m2,p2,n2,c2,rfl⟩:=yr3 hv
 refine ⟨a,m,p,n',c,a2,m2,p2,n2,c2,hrun,fun hh => ?_⟩
 obtain ⟨u,h2,h3⟩:=h.at' r hh
 have e:=yg2 hv
 rw [h2] at e
 have e:DataW.held u=DataW.held _:=congrArg Prod.fst e
 cases e
 obtain ⟨r1,m1,s1,r2,m2',s2,e,h4,h5⟩:=h3
 cases e
 exact ⟨h4,h5⟩
theorem x68 {D:DataW Value} (h:c6 w1 A B D) (hn:Maps.has D (.int .u64 r)=false):knV A r = []∧knV B r = []:=by
 have hh:¬ ((∃ x ∈ A,x.1=r)∨(∃ x ∈ B,x.1=r)):=fun hh=>by rw [(h.has r).2 hh] at hn;cases hn
 exact ⟨zr0 fun x hx e=>hh (.inl ⟨x,hx,e⟩),zr0 fun x hx e=>hh (.inr ⟨x,hx,e⟩)⟩
theorem xi9 (c0:w.cell? ⟨b,0,none⟩=some (.int .u64 0)) (c1:w.cell? ⟨b,1,none⟩=some (.int .u64 0)):z65 w 0 (.slice (some ⟨b,0,none⟩) 1 1) []:=by
 have hg:t6 [((0:Int),(0:Int))]:=z20 (by decide) (by decide) (by decide)
 have hge:z04 0 [((0:Int),(0:Int))]:=⟨hg,by decide,by decide,fun y hy=>by simp at hy;subst hy;decide⟩
 refine ⟨[(0,0)],⟨⟨⟨_,1,rfl,by decide,fun _=>⟨b,0,rfl,fun i x hx => ?_⟩⟩,hg.all,a7 _ _ _ (Nat.le_refl _),by decide,by decide,by decide⟩,hge⟩,?_⟩
 ·cases i with
  | zero=>simp at hx;subst hx;exact ⟨c0,c1⟩
  | succ i=>simp at hx
 ·refine yh4 (z14 hge) z34 fun c hc => ?_
  rw [z21 hge hc]
  unfold yy2 y9 inI
  simp
  omega
def wp1 (A B:v6) (w:World) (e:Ending) (w':World):Prop:=∃ b D,e = .returned (.map (some b))∧zm7 w' b (A.length+B.length) D∧c6 w' A B D∧Below w.heap.size w w'
theorem c6.call {D:DataW Value} (h:c6 w A B D) (hb:Below w.heap.size w w'):c6 w' A B D:=
 ⟨h.isMap,h.has,fun r hr=>by obtain ⟨v,h1,h2⟩:=h.at' r hr;exact ⟨v,h1,h2.call hb⟩⟩
theorem x69 (n:Nat) (w:World):(Instr.makeMap 271 (some (.int .i64 (n:Int)))).run Tryz.prog w = .ok (.map (some w.heap.size)) (w.alloc (.map #[] 0)):=by
 simp [Instr.makeMap,run_underlying Tryz.underlying271,go_sem,Result.andThen]
theorem Below.of_two (n:Nat) (w:World) (o p:Obj) (h:n≤w.heap.size):Below n w ((w.alloc o).alloc p):=((z8 w o).trans ((z8 _ p).mono (by simp))).mono h
set_option maxRecDepth 100000 in
set_option maxHeartbeats 8000000 in
theorem xz2 (A B:v6) (a b:Value) (w:World) (ha:z30 w a A) (hb:z30 w b B) (gA:s8 A) (gB:s8 B) (lA:A.length≤10000) (lB:B.length≤10000):Calls Tryz.prog 243 #[a,b] w (wp1 A B w):=by
 obtain ⟨pa,ca,rfl⟩:=ha.m.shape
 obtain ⟨pb,cb,rfl⟩:=hb.m.shape
 obtain ⟨h,hh⟩:∃ h,w.heap.size=h:=⟨_,rfl⟩
 obtain ⟨wa,hwa⟩:∃ wa,w.alloc (.cells #[.int .u64 0,.int .u64 0] 65)=wa:=⟨_,rfl⟩
 have hba:Below w.heap.size w wa:=hwa ▸ z8 w _
 have hsa:wa.heap.size=h+1:=by rw [← hwa,← hh];simp
 have d0:wa.cell? ⟨h,0,none⟩=some (.int .u64 0):=by rw [← hwa,← hh];simp
 have d1:wa.cell? ⟨h,1,none⟩=some (.int .u64 0):=by rw [← hwa,← hh];simp
 obtain ⟨w1,hw1⟩:∃ w1,wa.alloc (.cells #[.int .u64 0,.int .u64 0,.slice (some ⟨h,0,none⟩) 1 1] 63)=w1:=⟨_,rfl⟩
 have hb1':Below wa.heap.size wa w1:=hw1 ▸ z8 wa _
 have hs1:w1.heap.size=h+2:=by rw [← hw1,World.size_alloc,hsa]
 have t0:w1.cell? ⟨h+1,0,none⟩=some (.int .u64 0):=by rw [← hw1,← hsa];simp
 have t1:w1.cell? ⟨h+1,1,none⟩=some (.int .u64 0):=by rw [← hw1,← hsa];simp
 have t2:w1.cell? ⟨h+1,2,none⟩=some (.slice (some ⟨h,0,none⟩) 1 1):=by rw [← hw1,← hsa];simp
 have HN:=qh (xi9 (z6 d0 hb1') (z6 d1 hb1'))
 have hb1:=z7 hba hb1'
 have HT:=qh (And.intro t0 (And.intro t1 t2))
 have HV:=qh (And.intro (ha.call hb1) (hb.call hb1))
 have HG:=qh (And.intro gA gB)
 have HB1:=qh hb1
 have HS1:=qh hs1
 have hM0:zm7 (w1.alloc (.map #[] 0)) (h+2) 0 (.map []):=by rw [← hs1];exact World.ownsMap_made _ _ _ _
 have HM0:=qh hM0
 have HB0:=qh (z8 w1 (.map #[] 0))
 clear ha hb gA gB d0 d1 t0 t1 t2 hb1 hb1' hba hM0
 obtain ⟨mx,hmx⟩:∃ mx:Nat,max (A.length:Int) (B.length:Int)=(mx:Int):=⟨max A.length B.length,by omega⟩
 have hmm:(Instr.makeMap 271 (some (.int .i64 (mx:Int)))).run Tryz.prog w1 = .ok (.map (some w1.heap.size)) (w1.alloc (.map #[] 0)):=x69 mx w1
 rw [hs1] at hmm
 go_enter Tryz.func243,Tryz.ntmps243
 go_wp2_with fail
 go_loopw [25] (fun vi wr=>∃ (D:DataW Value) (n:Nat),zm7 wr (h+2) n D∧Below (h+2) w1 wr∧((vi = .int .i64 0∧n=0∧c6 w1 [] [] D)∨(vi = .int .i64 1∧n=A.length∧c6 w1 A [] D)∨(vi = .int .i64 2∧n=A.length+B.length∧c6 w1 A B D))) (fun vi _=>2 - (intOf vi).toNat)
 case atStart=>exact ⟨_,0,HM0.out,hs1 ▸ HB0.out,.inl ⟨rfl,rfl,c6.start w1⟩⟩
 case round =>
  obtain ⟨D,n,hown,hbw,hcase⟩:=hrel
  have HBW:=qh hbw;clear hbw
  clear HM0 HB0 hmm
  rcases hcase with ⟨rfl,rfl,hpd⟩ | ⟨rfl,rfl,hpd⟩ | ⟨rfl,rfl,hpd⟩
  ·have HPD0:=qh hpd;clear hpd
   have hix:(Instr.index 297 (.agg #[.slice pa A.length ca,.slice pb B.length cb]) (.int .i64 0)).run Tryz.prog wr = .ok (.slice pa A.length ca) wr:=by kernel_rfl
   go_wp2_with fail
   go_loopw [31] (fun vk wr=>∃ (k:Nat) (D:DataW Value),vk = .int .i64 k∧k≤A.length∧zm7 wr (h+2) (k) D∧Below (h+2) w1 wr∧c6 w1 (A.take k) [] D) (fun vk _=>A.length - (intOf vk).toNat)
   case atStart=>exact ⟨0,D,rfl,Nat.zero_le _,hown,HBW.out,by simpa using HPD0.out⟩
   case round =>
    clear hown HBW HPD0
    obtain ⟨k,D,rfl,hk,hown,hbw,hpd⟩:=hrel
    have HB:=qh hbw;clear hbw
    have HPD:=qh hpd;clear hpd
    have hszr:h+2≤wr.heap.size:=by have:=HB.out.size;have:=HS1.out;omega
    by_cases hlt:k<A.length
    ·obtain ⟨⟨r,m,H⟩,hx⟩:∃ x,A[k]? = some x:=⟨A[k],by simp [hlt]⟩
     obtain ⟨b,o,cp,q,n,c,e,c0,c1,c2,haa⟩:=HV.out.1.m.elem hx
     cases e
     have hmem:=List.mem_iff_getElem?.2 ⟨k,hx⟩
     have hrng:=HV.out.1.rng _ hmem
     have HSD:=qh (show z65 w1 m (.slice q n c) (x7 m H) from ⟨H,⟨haa,HG.out.1.ent _ hmem⟩,rfl⟩)
     have HTK:=qh (show A.take (k+1)=A.take k ++ [(r,m,H)] from by rw [List.take_add_one,hx];rfl)
     have HASC:=qh (show (A.take (k+1)).Pairwise (fun x y=>x.1<y.1) from List.Pairwise.sublist (List.take_sublist _ _) HG.out.1.asc)
     have HKL:=qh (yd1 r hrng.1 hrng.2)
     have hkey:=zq3 r hrng.1 hrng.2
     have hb2:=HS1.out ▸ HB.out
     have k0:=z6 c0 hb2
     have k1:=z6 c1 hb2
     have k2:=z6 c2 hb2
     have u0:=z6 HT.out.1 hb2
     have u1:=z6 HT.out.2.1 hb2
     have u2:=z6 HT.out.2.2 hb2
     obtain ⟨a0,m0,p0,n0,c0',a2,m2,p2,n2,c2',hrun,hlook⟩:=yg5 HPD.out (hown.alloc (.cells #[.int .u64 r,.int .u64 m,.slice q n c] 63)) r hrng.1 hrng.2
     have HNN:=qh (x68 (r:=r) HPD.out)
     have HLO:=qh hlook
     clear hlook haa hx hmem hrng c0 c1 c2 hb2
     have hs4:h+1<wr.heap.size:=by omega
     have hs5:h+1<wr.heap.size+1:=by omega
     have i1:(0:Int)≤(k:Int):=by omega
     have i2:(k:Int)<(A.length:Int):=by omega
     cases hhas:Maps.has D (.int .u64 r) with
     | true =>
       rw [hhas] at hrun
       have HLK:=qh (HLO.out hhas);clear hhas HLO HNN
       have HNK:Hid (knV ([]:v6) r = []):=qh rfl
       go_wp2_with (first
        | (at_mapUpdate;go_loud (refine wpList_mapUpdate_own _ rfl _ _ _ 271 rfl 36 276 z54 Tryz.underlying271 zj8 (h+2) (k) D rfl ((hown.alloc _).alloc _) (by unfold maxLen;omega) (.int .u64 r) (.agg #[.int .u64 r,.int .u64 m,.slice q n c,.int .u64 a2,.int .u64 m2,.slice p2 n2 c2']) (.int .u64 r) rfl rfl hkey (.held (.agg #[.int .u64 r,.int .u64 m,.slice q n c,.int .u64 a2,.int .u64 m2,.slice p2 n2 c2'])) [] rfl ?_;intro w4 hown4 hgrow4))
        | go_in)
       go_roundw
       case rel=>exact ⟨k+1,_,by go_num,by omega,hown4,(HB.out.trans ((Below.of_two _ _ _ _ (by omega)))).trans ((y5.of_grown (q:=fun j=>j=h+2) hgrow4 (fun j e=>by cases e;rfl)).below (by simp;omega) (fun j hj e=>by omega)),by rw [HTK.out];exact c6.put0 HPD.out (by rw [← HTK.out];exact HASC.out) HKL.out ⟨_,_,_,_,_,_,rfl,HSD.out,HNK.out ▸ (HLK.out.2)⟩⟩
       case measure=>simp [intOf] <;> omega
     | false =>
       rw [hhas] at hrun
       have HNK:=qh (HNN.out hhas).1;clear hhas HLO HNN
       go_wp2_with (first
        | (at_mapUpdate;go_loud (refine wpList_mapUpdate_own _ rfl _ _ _ 271 rfl 36 276 z54 Tryz.underlying271 zj8 (h+2) (k) D rfl ((hown.alloc _).alloc _) (by unfold maxLen;omega) (.int .u64 r) (.agg #[.int .u64 r,.int .u64 m,.slice q n c,.int .u64 0,.int .u64 0,.slice (some ⟨h,0,none⟩) 1 1]) (.int .u64 r) rfl rfl hkey (.held (.agg #[.int .u64 r,.int .u64 m,.slice q n c,.int .u64 0,.int .u64 0,.slice (some ⟨h,0,none⟩) 1 1])) [] rfl ?_;intro w4 hown4 hgrow4))
        | go_in)
       go_roundw
       case rel=>exact ⟨k+1,_,by go_num,by omega,hown4,(HB.out.trans ((Below.of_two _ _ _ _ (by omega)))).trans ((y5.of_grown (q:=fun j=>j=h+2) hgrow4 (fun j e=>by cases e;rfl)).below (by simp;omega) (fun j hj e=>by omega)),by rw [HTK.out];exact c6.put0 HPD.out (by rw [← HTK.out];exact HASC.out) HKL.out ⟨_,_,_,_,_,_,rfl,HSD.out,HN.out⟩⟩
       case measure=>simp [intOf] <;> omega
    ·obtain rfl:k=A.length:=by omega
     rw [List.take_length] at HPD
     go_wp2_with fail
     go_roundw
     case rel=>exact ⟨D,_,hown,HB.out,.inr (.inl ⟨by go_num,rfl,HPD.out⟩)⟩
     case measure=>simp [intOf] <;> omega
  ·have HPD0:=qh hpd;clear hpd
   have hix:(Instr.index 297 (.agg #[.slice pa A.length ca,.slice pb B.length cb]) (.int .i64 1)).run Tryz.prog wr = .ok (.slice pb B.length cb) wr:=by kernel_rfl
   go_wp2_with fail
   go_loopw [31] (fun vk wr=>∃ (k:Nat) (D:DataW Value),vk = .int .i64 k∧k≤B.length∧zm7 wr (h+2) (A.length+k) D∧Below (h+2) w1 wr∧c6 w1 A (B.take k) D) (fun vk _=>B.length - (intOf vk).toNat)
   case atStart=>exact ⟨0,D,rfl,Nat.zero_le _,hown,HBW.out,by simpa using HPD0.out⟩
   case round =>
    clear hown HBW HPD0
    obtain ⟨k,D,rfl,hk,hown,hbw,hpd⟩:=hrel
    have HB:=qh hbw;clear hbw
    have HPD:=qh hpd;clear hpd
    have hszr:h+2≤wr.heap.size:=by have:=HB.out.size;have:=HS1.out;omega
    by_cases hlt:k<B.length
    ·obtain ⟨⟨r,m,H⟩,hx⟩:∃ x,B[k]? = some x:=⟨B[k],by simp [hlt]⟩
     obtain ⟨b,o,cp,q,n,c,e,c0,c1,c2,haa⟩:=HV.out.2.m.elem hx
     cases e
     have hmem:=List.mem_iff_getElem?.2 ⟨k,hx⟩
     have hrng:=HV.out.2.rng _ hmem
     have HSD:=qh (show z65 w1 m (.slice q n c) (x7 m H) from ⟨H,⟨haa,HG.out.2.ent _ hmem⟩,rfl⟩)
     have HTK:=qh (show B.take (k+1)=B.take k ++ [(r,m,H)] from by rw [List.take_add_one,hx];rfl)
     have HASC:=qh (show (B.take (k+1)).Pairwise (fun x y=>x.1<y.1) from List.Pairwise.sublist (List.take_sublist _ _) HG.out.2.asc)
     have HKL:=qh (yd1 r hrng.1 hrng.2)
     have hkey:=zq3 r hrng.1 hrng.2
     have hb2:=HS1.out ▸ HB.out
     have k0:=z6 c0 hb2
     have k1:=z6 c1 hb2
     have k2:=z6 c2 hb2
     have u0:=z6 HT.out.1 hb2
     have u1:=z6 HT.out.2.1 hb2
     have u2:=z6 HT.out.2.2 hb2
     obtain ⟨a0,m0,p0,n0,c0',a2,m2,p2,n2,c2',hrun,hlook⟩:=yg5 HPD.out (hown.alloc (.cells #[.int .u64 r,.int .u64 m,.slice q n c] 63)) r hrng.1 hrng.2
     have HNN:=qh (x68 (r:=r) HPD.out)
     have HLO:=qh hlook
     clear hlook haa hx hmem hrng c0 c1 c2 hb2
     have hs4:h+1<wr.heap.size:=by omega
     have hs5:h+1<wr.heap.size+1:=by omega
     have i1:(0:Int)≤(k:Int):=by omega
     have i2:(k:Int)<(B.length:Int):=by omega
     cases hhas:Maps.has D (.int .u64 r) with
     | true =>
       rw [hhas] at hrun
       have HLK:=qh (HLO.out hhas);clear hhas HLO HNN
       go_wp2_with (first
        | (at_mapUpdate;go_loud (refine wpList_mapUpdate_own _ rfl _ _ _ 271 rfl 36 276 z54 Tryz.underlying271 zj8 (h+2) (A.length+k) D rfl ((hown.alloc _).alloc _) (by unfold maxLen;omega) (.int .u64 r) (.agg #[.int .u64 a0,.int .u64 m0,.slice p0 n0 c0',.int .u64 r,.int .u64 m,.slice q n c]) (.int .u64 r) rfl rfl hkey (.held (.agg #[.int .u64 a0,.int .u64 m0,.slice p0 n0 c0',.int .u64 r,.int .u64 m,.slice q n c])) [] rfl ?_;intro w4 hown4 hgrow4))
        | go_in)
       go_roundw
       case rel=>exact ⟨k+1,_,by go_num,by omega,hown4,(HB.out.trans ((Below.of_two _ _ _ _ (by omega)))).trans ((y5.of_grown (q:=fun j=>j=h+2) hgrow4 (fun j e=>by cases e;rfl)).below (by simp;omega) (fun j hj e=>by omega)),by rw [HTK.out];exact c6.put1 HPD.out (by rw [← HTK.out];exact HASC.out) HKL.out ⟨_,_,_,_,_,_,rfl,HLK.out.1,HSD.out⟩⟩
       case measure=>simp [intOf] <;> omega
     | false =>
       rw [hhas] at hrun
       have HNK:=qh (HNN.out hhas).1;clear hhas HLO HNN
       go_wp2_with (first
        | (at_mapUpdate;go_loud (refine wpList_mapUpdate_own _ rfl _ _ _ 271 rfl 36 276 z54 Tryz.underlying271 zj8 (h+2) (A.length+k) D rfl ((hown.alloc _).alloc _) (by unfold maxLen;omega) (.int .u64 r) (.agg #[.int .u64 0,.int .u64 0,.slice (some ⟨h,0,none⟩) 1 1,.int .u64 r,.int .u64 m,.slice q n c]) (.int .u64 r) rfl rfl hkey (.held (.agg #[.int .u64 0,.int .u64 0,.slice (some ⟨h,0,none⟩) 1 1,.int .u64 r,.int .u64 m,.slice q n c])) [] rfl ?_;intro w4 hown4 hgrow4))
        | go_in)
       go_roundw
       case rel=>exact ⟨k+1,_,by go_num,by omega,hown4,(HB.out.trans ((Below.of_two _ _ _ _ (by omega)))).trans ((y5.of_grown (q:=fun j=>j=h+2) hgrow4 (fun j e=>by cases e;rfl)).below (by simp;omega) (fun j hj e=>by omega)),by rw [HTK.out];exact c6.put1 HPD.out (by rw [← HTK.out];exact HASC.out) HKL.out ⟨_,_,_,_,_,_,rfl,HNK.out.symm ▸ HN.out,HSD.out⟩⟩
       case measure=>simp [intOf] <;> omega
    ·obtain rfl:k=B.length:=by omega
     rw [List.take_length] at HPD
     go_wp2_with fail
     go_roundw
     case rel=>exact ⟨D,_,hown,HB.out,.inr (.inr ⟨by go_num,rfl,HPD.out⟩)⟩
     case measure=>simp [intOf] <;> omega
  ·have HPD0:=qh hpd;clear hpd
   go_wp2_with fail
   go_ret
   exact ⟨h+2,D,rfl,hown,c6.call HPD0.out (HS1.out ▸ HBW.out),HB1.out.trans (HBW.out.mono (by omega))⟩
theorem wb2 {D:DataW Value} (h:c6 w1 A B D) (hown:zm7 wr b n D) (h0:0≤r) (h1:r≤18446744073709551615) (hh:Maps.has D (.int .u64 r)=true) :
 ∃ a m p n' c a2 m2 p2 n2 c2,(Instr.lookup 271 (.map (some b)) (.int .u64 r) false).run Tryz.prog wr = .ok (.agg #[.int .u64 a,.int .u64 m,.slice p n' c,.int .u64 a2,.int .u64 m2,.slice p2 n2 c2]) wr ∧
  z65 w1 m (.slice p n' c) (knV A r)∧z65 w1 m2 (.slice p2 n2 c2) (knV B r):=by
 obtain ⟨v,ps,hrun,hv⟩:=hown.lookup z54 Tryz.underlying271 (x66 wr) (x64 _ _ _ _ _ _ _ _ _ _) (zq3 r h0 h1)
 obtain ⟨a,m,p,n',c,a2,m2,p2,n2,c2,rfl⟩:=yr3 hv
 obtain ⟨u,h2,h3⟩:=h.at' r hh
 have e:=yg2 hv
 rw [h2] at e
 have e:DataW.held u=DataW.held _:=congrArg Prod.fst e
 cases e
 obtain ⟨r1,m1,s1,r2,m2',s2,e,h4,h5⟩:=h3
 cases e
 exact ⟨a,m,p,n',c,a2,m2,p2,n2,c2,hrun,h4,h5⟩
theorem z05.low {B B':Nat} {ns:List Nat} (h:z05 w B v ns) (hB:B'≤B):z05 w B' v ns:=by
 obtain ⟨p,cap,h1,h2,h3⟩:=h
 refine ⟨p,cap,h1,h2,fun hn => ?_⟩
 obtain ⟨b,o,h4,h5,h6⟩:=h3 hn
 refine ⟨b,o,h4,Nat.le_trans hB h5,fun i n hi => ?_⟩
 obtain ⟨a1,a2,a3,a4,s,a5,a6⟩:=h6 i n hi
 exact ⟨a1,a2,a3,a4,s,a5,z89 a6 hB⟩
theorem xr0:∀ {l m:List Int},l.Pairwise (· < ·)→m.Pairwise (· < ·)→(∀ x,x ∈ l↔x ∈ m)→l=m
 | [],[],_,_,_=>rfl
 | [],y :: m,_,_,h=>by have:=(h y).2 (by simp);cases this
 | x :: l,[],_,_,h=>by have:=(h x).1 (by simp);cases this
 | x :: l,y :: m,hl,hm,h=>by
   have h1:=List.pairwise_cons.1 hl
   have h2:=List.pairwise_cons.1 hm
   have hxy:x=y:=by
    rcases List.mem_cons.1 ((h x).1 (by simp)) with e | hx
    ·exact e
    ·rcases List.mem_cons.1 ((h y).2 (by simp)) with e | hy
     all_goals grind
   subst hxy
   rw [xr0 h1.2 h2.2 fun z => ?_]
   grind
theorem xz3 {D:DataW Value} (h:c6 w A B D) (hp:ks.Pairwise (· < ·)) (hk:∀ x:Int,x ∈ ks↔Maps.has D (.int .u64 x)=true):ks=zd0 A B:=
 xr0 hp (yi6 A B) fun x=>(hk x).trans ((h.has x).trans (zk6 A B x).symm)
theorem wp2 (f:List Iv→List Iv→List Iv) (A B:v6) {k:Nat} (h:ks[k]? = some r) :
 (ks.take (k+1)).filterMap (opE f A B)=if f (knV A r) (knV B r) = [] then (ks.take k).filterMap (opE f A B) else (ks.take k).filterMap (opE f A B) ++ [(z56 r (f (knV A r) (knV B r)),i8 (f (knV A r) (knV B r)),r5 (f (knV A r) (knV B r)))]:=by grind [List.take_add_one,knV,opE,z56]
theorem yd2 {h:Nat} (g:s8 A) (s:n7 n h A) (r:Int):(knV A r).length≤h+1:=by
 rcases z63 g.asc r with ⟨x,hx,_,e⟩ | ⟨_,e⟩
 ·rw [e];have:=zh6 (g.ent x hx);have:=s.2 x hx;omega
 grind
theorem wy5 {f:List Iv→List Iv→List Iv} (hf:∀ K L,t6 K→t6 L→t6 (f K L)) (hc:∀ K L,t6 K→t6 L→(f K L).length≤K.length+L.length) (gA:s8 A) (gB:s8 B) (sA:n7 1000 1000 A) (sB:n7 1000 1000 B)
 (rA:∀ x ∈ A,0≤x.1∧x.1≤18446744073709551615) (rB:∀ x ∈ B,0≤x.1∧x.1≤18446744073709551615):∀ y ∈ opV f A B,(0≤y.1∧y.1≤18446744073709551615)∧m9 y.2.2∧(0≤y.2.1∧y.2.1≤18446744073709551615)∧y.2.2.length≤5000:=by
 intro y hy
 have hg:=(zk7 hf gA gB).1.ent y hy
 obtain ⟨r,hr,e⟩:=List.mem_filterMap.1 hy
 obtain ⟨h1,_,e2⟩:=zf6 e
 have h3:=hc _ _ (m8 gA r) (m8 gB r)
 have h4:=y97 (hf _ _ (m8 gA r) (m8 gB r))
 have h5:=yd2 gA sA r
 have h6:=yd2 gB sB r
 refine ⟨?_,hg.good.all,⟨hg.low,hg.top⟩,by rw [e2];dsimp only;omega⟩
 rw [h1]
 rcases (zk6 A B r).1 hr with ⟨x,hx,rfl⟩ | ⟨x,hx,rfl⟩
 all_goals grind
set_option maxRecDepth 100000 in
set_option maxHeartbeats 8000000 in
theorem wb3 (A B:v6) (a b:Value) (w:World) (ha:z30 w a A) (hb:z30 w b B) (gA:s8 A) (gB:s8 B) (sA:n7 1000 1000 A) (sB:n7 1000 1000 B) :
 Calls Tryz.prog 224 #[a,b,.func (.func 225) #[] #[]] w (wq4 (opV orL A B) w):=by
 obtain ⟨i0,hi',hz0,hz1,hz2⟩:=info_parts xs6
 obtain ⟨pa,ca,rfl⟩:=ha.m.shape
 obtain ⟨pb,cb,rfl⟩:=hb.m.shape
 have HFIN:=qh (wy5 (f:=orL) (fun _ _ h h'=>z03 h h') (fun _ _ h h'=>zf3 h h') gA gB sA sB ha.rng hb.rng)
 have HRR:=qh (fun r (hr:r ∈ zd0 A B)=>show 0≤r∧r≤18446744073709551615 from by
  rcases (zk6 A B r).1 hr with ⟨x,hx,rfl⟩ | ⟨x,hx,rfl⟩
  ·exact ha.rng x hx
  ·exact hb.rng x hx)
 have HLEN:=qh (show (zd0 A B).length≤2000 from by
  have h1:(zd0 A B).length≤(A.map (·.1)++B.map (·.1)).length:=List.Nodup.length_le_of_subset ((yi6 A B).imp fun h e=>by omega) (fun x hx=>by
   rcases (zk6 A B x).1 hx with ⟨y,hy,rfl⟩ | ⟨y,hy,rfl⟩
   ·exact List.mem_append.2 (.inl (List.mem_map.2 ⟨y,hy,rfl⟩))
   ·exact List.mem_append.2 (.inr (List.mem_map.2 ⟨y,hy,rfl⟩)))
  have:=sA.1
  have:=sB.1
  simp at h1
  omega)
 have HKL:=qh (fun r=>And.intro (yd2 gA sA r) (yd2 gB sB r))
 have HNN:=qh (show A.length+B.length≤60000 from by have:=sA.1;have:=sB.1;omega)
 have KP:=qh (xz2 A B _ _ w ha hb gA gB (by have:=sA.1;omega) (by have:=sB.1;omega))
 have HG:=qh (And.intro gA gB);clear gA gB sA sB ha hb
 have KY:=qh xz1
 have KK:=qh xi8
 have KD:=qh x16
 have KO:=qh wp9
 go_enter Tryz.func224,Tryz.ntmps224
 go_wp2_with fail
 refine KP.out.mono ?_
 rintro e w1 ⟨bm,D,rfl,hown,hpd,hb1⟩
 have HPD:=qh hpd
 have HB1:=qh hb1
 have HOW:=qh hown
 clear hpd hb1 hown
 go_wp2_with fail
 refine (KY.out bm _ D w1 HOW.out HNN.out).mono ?_
 rintro e w2 ⟨v,ks,rfl,hnum,hasc,hmem,hb2⟩
 have hks:=xz3 HPD.out hasc hmem
 obtain ⟨p,cap,rfl,hle,hcell⟩:=hnum
 have HKS:=qh (And.intro hks hmem);clear hks hmem hasc
 have HC:=qh hcell;clear hcell
 have HB2:=qh hb2;clear hb2
 have hkl:ks.length≤2000:=by rw [HKS.out.1];exact HLEN.out
 clear hle
 go_wp2_with fail
 go_loopw [7,19] (fun vo vi wr=>∃ k:Nat,vi = .int .i64 k∧k≤ks.length∧zp6 wr w2.heap.size vo ((ks.take k).filterMap (opE orL A B))∧Below w2.heap.size w2 wr) (fun _ vi _=>ks.length - (intOf vi).toNat)
 case atStart=>exact ⟨0,rfl,Nat.zero_le _,zp6.nil _ _,Below.refl _ _⟩
 case round =>
  obtain ⟨k,rfl,hk,hout,hb⟩:=hrel
  obtain ⟨pv,cv,rfl⟩:=hout.shape
  have HB:=qh hb;clear hb
  have HBX:=qh (z7 HB2.out HB.out)
  have hszw:=HB.out.size
  by_cases hlt:k<ks.length
  ·obtain ⟨r,hx⟩:∃ r,ks[k]? = some r:=⟨ks[k],by simp [hlt]⟩
   have hrm:=List.mem_iff_getElem?.2 ⟨k,hx⟩
   have hrng:=HRR.out r (by rw [← HKS.out.1];exact hrm)
   obtain ⟨g,o,rfl,hcl⟩:=HC.out (by intro e;rw [e] at hlt;exact absurd hlt (Nat.not_lt_zero k))
   have c0:=z6 (hcl k r hx) HB.out
   obtain ⟨a0,m0,p0,n0,c0',a2,m2,p2,n2,c2',hrun,hs1,hs2⟩:=wb2 HPD.out (za7 HOW.out (y5.of_below (fun _=>False) HBX.out) id) hrng.1 hrng.2 ((HKS.out.2 r).1 hrm)
   have K:=qh (KK.out a0 m0 a2 m2 (.slice p0 n0 c0') (.slice p2 n2 c2') (knV A r) (knV B r) wr (hs1.call HBX.out) (hs2.call HBX.out))
   have hKg:=m8 HG.out.1 r
   have hLg:=m8 HG.out.2 r
   have hlen2:=zf3 hKg hLg
   have hh2:=HKL.out r
   have HKK:=qh (And.intro (z03 hKg hLg) (show (orL (knV A r) (knV B r)).length≤2002 from by omega))
   have HPL:((ks.take k).filterMap (opE orL A B)).length≤k:=Nat.le_trans (List.length_filterMap_le _ _) (by rw [List.length_take];omega)
   have HCS:=qh (And.intro (wp2 orL A B hx) (show ((ks.take k).filterMap (opE orL A B)).length≤100000 by omega))
   have i1:(0:Int)≤(k:Int):=by omega
   have i2:(k:Int)<(ks.length:Int):=by omega
   clear hs1 hs2 hrm hrng hcl hx hKg hLg hlen2 hh2 HPL
   generalize knV A r=KA at *
   generalize knV B r=KB at *
   generalize (ks.take k).filterMap (opE orL A B)=P at *
   go_wp2_with fail
   refine K.out.mono ?_
   rintro e w3 ⟨s,t,rfl,hos,hot,hb3⟩
   obtain ⟨ps,cs,rfl,_⟩:=hos.1.shape
   obtain ⟨pt,ct,rfl,_⟩:=hot.1.shape
   have KDD:=qh (KD.out KA KB _ _ w3 hos hot)
   have HB3:=qh hb3
   clear hos hot hb3
   go_wp2_with fail
   refine KDD.out.mono ?_
   rintro e w4 ⟨v4,rfl,hv4,hb4⟩
   obtain ⟨p4,c4,rfl,_⟩:=(hv4.ivs (by have:=HKK.out.2;omega)).shape
   have KOO:=qh (KO.out r (orL KA KB) _ w4 ⟨hv4.ivs (by have:=HKK.out.2;omega),HKK.out.1,x73 hv4,by have:=HKK.out.2;omega⟩)
   have HB4:=qh (z7 HB3.out hb4)
   clear hv4 hb4
   generalize hKF:orL KA KB=KF at *
   clear hKF
   go_wp2_with fail
   refine KOO.out.mono ?_
   rintro e w1' ⟨vc,rfl,hvc,hsa,hso,h⟩
   obtain ⟨pc,cc,rfl,_⟩:=hvc.shape
   have HH:=qh (And.intro hvc (And.intro hsa (z89 hso HB4.out.size)));clear hvc hso hsa
   have H1:=qh (z7 HB4.out h);clear h c0 hrun
   by_cases hK:KF = []
   ·have e1:z44 KF=false:=by rw [hK];rfl
    rw [e1]
    have hb2:=z8 w1' (.cells #[.int .u64 (z56 r KF),.int .u64 (i8 KF),.slice pc (r5 KF).length cc] 63)
    have HB2':=qh (z7 H1.out hb2);clear hb2
    have HO:=qh hout;clear hout
    have HC':=qh (HCS.out.1.trans (if_pos hK));clear HCS hK
    generalize z56 r KF=rr at *
    generalize i8 KF=tt at *
    generalize (r5 KF).length=ll at *
    go_wp2_with fail
    go_roundw
    case rel=>exact ⟨k+1,by go_num,by omega,by rw [HC'.out];exact HO.out.call HB2'.out,z7 HB.out HB2'.out⟩
    case measure=>simp [intOf] <;> omega
   ·have e1:z44 KF=true:=y14 hK
    rw [e1]
    have HC':=qh (And.intro (HCS.out.1.trans (if_neg hK)) HCS.out.2);clear HCS hK
    generalize z56 r KF=rr at *
    generalize i8 KF=tt at *
    generalize r5 KF=hh at *
    obtain ⟨w5,hw5⟩:∃ w5,w1'.alloc (.cells #[.int .u64 rr,.int .u64 tt,.slice pc hh.length cc] 63)=w5:=⟨_,rfl⟩
    have e3:E3 w5 w1'.heap.size rr tt (.slice pc hh.length cc):=hw5 ▸ E3.new w1' rr tt (.slice pc hh.length cc) 63 _ rfl
    have hb5:Below w1'.heap.size w1' w5:=hw5 ▸ z8 w1' _
    obtain ⟨t0,t1,t2⟩:=e3
    have HB5:=qh (z7 H1.out hb5)
    obtain ⟨es,hel,hrow,hall,hsan⟩:=hout
    have HROW:=qh hrow
    have HALL:=qh (And.intro hall hsan)
    have HAP:=qh (fun h0=>zt8 hrow HH.out.2.2 h0)
    have HH2:=qh (And.intro (HH.out.1.call hb5) (And.intro (z89 (HH.out.2.2.call hb5) hszw) HH.out.2.1))
    clear hrow hall hsan hb5 HH
    have hel2:es.length≤100000:=by rw [hel];exact HC'.out.2
    have HSZ:=qh (Nat.le_trans hszw HB5.out.size)
    go_wp2_with (at_builtin;go_loud (refine wpList_append_own_at _ rfl _ _ 44 rfl w2.heap.size 63 i0 (.agg #[.int .u64 0,.int .u64 0,.slice none 0 0]) 3 40 Tryz.underlying44 hi' hz0 hz1 hz2 rfl (by decide) _ es.length (zk5 es) rfl (y6 HROW.out (z7 HB5.out (z8 _ _))) ⟨w5.heap.size,0,none⟩ 1 1 [.int .u64 rr,.int .u64 tt,.slice pc hh.length cc] rfl rfl (zh8 _ _ _ _ _ _ rfl) (by simp [Value.oneCell']) (by unfold maxLen;omega) (by omega) (Nat.le_trans HSZ.out (z8 _ _).size) ?_;intro v' w6 hown' hgrow _ hat;have HN:=qh (z8 w5 (.cells #[.int .u64 rr,.int .u64 tt,.slice pc hh.length cc] 63));have HW6:=qh (x8 (z7 HB.out (z7 HB5.out HN.out)) (y6 HROW.out (z7 HB5.out HN.out)) hgrow (Nat.le_trans HSZ.out HN.out.size));have HP:=qh (zp6.push hel (fun i e x he hx=>⟨(HALL.out.1 i e x he hx).1,(HALL.out.1 i e x he hx).2.1,(HALL.out.1 i e x he hx).2.2.call (z7 HB5.out HN.out)⟩) hown' hgrow hat (⟨HH2.out.1.call HN.out,HH2.out.2.1.call HN.out,HAP.out⟩:zu9 _ _ _ _ hh) HALL.out.2 HH2.out.2.2);clear hown' hgrow hat))
    go_roundw
    case rel=>exact ⟨k+1,by go_num,by omega,by rw [HC'.out.1];exact HP.out,HW6.out⟩
    case measure=>simp [intOf] <;> omega
  ·obtain rfl:k=ks.length:=by omega
   rw [List.take_of_length_le (Nat.le_refl _)] at hout ⊢
   have HO:=qh (show zp6 wr w2.heap.size (.slice pv (ks.filterMap (opE orL A B)).length cv) (opV orL A B) from by unfold opV;rw [← HKS.out.1];exact hout);clear hout
   have HPL:=qh (show (opV orL A B).length≤2000 from Nat.le_trans (List.length_filterMap_le _ _) HLEN.out)
   go_wp2_with fail
   go_ret
   obtain ⟨s1,s2⟩:=HO.out.done (by have:=HPL.out;omega) HFIN.out
   exact ⟨_,rfl,s1,z05.low s2 (Nat.le_trans HB1.out.size HB2.out.size),z7 HB1.out HBX.out⟩
set_option maxRecDepth 100000 in
theorem xj0 (A B:v6) (a b:Value) (w:World) (ha:z30 w a A) (hb:z30 w b B) (gA:s8 A) (gB:s8 B) (sA:n7 1000 1000 A) (sB:n7 1000 1000 B) :
 Calls Tryz.prog 182 #[a,b] w (wq4 (opV orL A B) w):=by
 have K:=qh (wb3 A B a b w ha hb gA gB sA sB)
 obtain ⟨pa,ca,rfl⟩:=ha.m.shape
 obtain ⟨pb,cb,rfl⟩:=hb.m.shape
 clear ha hb gA gB sA sB
 go_enter Tryz.func182,Tryz.ntmps182
 go_wp2_with fail
 refine K.out.mono ?_
 rintro e w1 ⟨u,rfl,h1,h2,h3⟩
 obtain ⟨pu,cu,rfl⟩:=h1.m.shape
 have H:=qh (And.intro h1 (And.intro h2 h3));clear h1 h2 h3
 go_wp2_with fail
 go_ret
 exact ⟨_,rfl,H.out⟩
end
end Go.Proofs.YtchndljcahjldaaGreatDoor
