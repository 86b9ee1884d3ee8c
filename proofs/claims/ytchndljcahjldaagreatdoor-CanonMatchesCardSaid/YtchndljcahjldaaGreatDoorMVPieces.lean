/- The range-function of package setops that yields the pieces that are taken, once for each operation. Conditions: the lists are correct, kept in memory between two rounds. -/
import Derived.Test.YtchndljcahjldaaGreatDoorMVEdge
import Derived.Laws.Externs
import Derived.LoopTactic
namespace Go.Proofs.YtchndljcahjldaaGreatDoor
section
open Go.RowKit Go.Shelf
attribute [local go_sem] Oper.semAt_some
variable {e l kT c:Nat} {T:Value} {s s':Int} {t t':Bool} {A B w5 A0 W W3:World} {pre L:List Iv} {x:Act}
def IsB (b:Bool) (w:World) (e:Ending) (w':World):Prop:=e = .returned (.bool b)∧w'=w
def ivA (x:Iv):Array Value:=#[.agg #[.int .u64 x.1,.int .u64 x.2]]
structure zv4 (e:Nat) (l:Nat) (kT:Nat) (T:Value) (s:Int) (t:Bool) (W:World):Prop where
 y:Boxed W e 144 (.func (.yield l) #[] #[])
 st:Boxed W (e+1) 36 (.int .u64 s)
 tk:Boxed W (e+1+1) 4 (.bool t)
 ct:W.cell? ⟨kT,0,none⟩=some T
theorem zv4.apart {q:Nat→Prop} (h:zv4 e l kT T s t A) (hb:y5 q A B) (h0:¬ q e) (h1:¬ q (e+1)) (h2:¬ q (e+1+1)) (hT:¬ q kT):zv4 e l kT T s t B:=
 ⟨hb.boxed h.y h0,hb.boxed h.st h1,hb.boxed h.tk h2,hb.cell h.ct hT⟩
theorem zv4.set (h:zv4 e l kT T s t A) (hT:kT<e) (s':Int) (t':Bool):zv4 e l kT T s' t' ((A.setCell ⟨e+1,0,none⟩ (.int .u64 s')).setCell ⟨e+1+1,0,none⟩ (.bool t')):=by
 refine ⟨(h.y.other (by omega) _).other (by omega) _,((h.st.set _).other (by omega) _),((h.tk.other (by omega) _).set _),?_⟩
 rw [World.cell?_setCell_other _ _ _ _ (fun h=>by cases h;omega),World.cell?_setCell_other _ _ _ _ (fun h=>by cases h;omega)]
 exact h.ct
theorem zv4.set2 (h:zv4 e l kT T s t A) (hT:kT<e) (s':Int) (t':Bool):zv4 e l kT T s' t' ((A.setCell ⟨e+1+1,0,none⟩ (.bool t')).setCell ⟨e+1,0,none⟩ (.int .u64 s')):=by
 refine ⟨(h.y.other (by omega) _).other (by omega) _,((h.st.other (by omega) _).set _),((h.tk.set _).other (by omega) _),?_⟩
 rw [World.cell?_setCell_other _ _ _ _ (fun h=>by cases h;omega),World.cell?_setCell_other _ _ _ _ (fun h=>by cases h;omega)]
 exact h.ct
def yl8 (b:Nat) (x:Ch) (W:World):Prop:=At W [(b,0,.int .u64 x.1),(b,1,.bool x.2.1),(b,2,.bool x.2.2)]
theorem yl8.apart {q:Nat→Prop} {b:Nat} {x:Ch} (h:yl8 b x A) (hb:y5 q A B) (hn:¬ q b):yl8 b x B:=
 ⟨hb.cell h.1 hn,hb.cell h.2.1 hn,hb.cell h.2.2.1 hn,trivial⟩
theorem yl8.new (W:World) (x:Ch) (t:TypeId):yl8 W.heap.size x (W.alloc (.cells #[.int .u64 x.1,.bool x.2.1,.bool x.2.2] t)):=by
 refine ⟨?_,?_,?_,trivial⟩ <;> simp
def vb8 (s t:Value) (w:World) (e:Ending) (w':World):Prop:=
 e = .returned (.func (.func 286) #[] #[.pointer (some ⟨w.heap.size,0,none⟩),.pointer (some ⟨w.heap.size+1,0,none⟩)])∧w'=(w.alloc (.cells #[s] 42)).alloc (.cells #[t] 42)
theorem y28 (p q:Option Addr) (m k cp cq:Nat) (w:World):Calls Tryz.prog 282 #[.slice p m cp,.slice q k cq] w (vb8 (.slice p m cp) (.slice q k cq) w):=by
 go_enter Tryz.func282,Tryz.ntmps282
 go_wp2
 go_ret
 exact ⟨rfl,rfl⟩
theorem wj1 (W0 w5:World) (e l kA kB kT:Nat) (T:Value) (pA pB:Option Addr) (nA nB:Nat) (a b:List Iv) (he:W0.heap.size=e) (h0:zc4 kA kB (.slice pA a.length nA) (.slice pB b.length nB) a b W0) (hT:W0.cell? ⟨kT,0,none⟩=some T)
 (h5:((((W0.alloc (.cells #[.func (.yield l) #[] #[]] 144)).alloc (.cells #[.int .u64 0] 36)).alloc (.cells #[.bool false] 4)).alloc (.cells #[.slice pA a.length nA] 42)).alloc (.cells #[.slice pB b.length nB] 42)=w5) :
 Below W0.heap.size W0 w5∧w5.heap.size=e+5∧zv4 e l kT T 0 false w5∧zc4 (e+1+1+1) (e+1+1+1+1) (.slice pA a.length nA) (.slice pB b.length nB) a b w5:=by
 subst h5 he
 have hb:=y7 (y7 (y7 (y7 (z8 W0 (.cells #[.func (.yield l) #[] #[]] 144)) (.cells #[.int .u64 0] 36)) (.cells #[.bool false] 4)) (.cells #[.slice pA a.length nA] 42)) (.cells #[.slice pB b.length nB] 42)
 have b0:=(((Boxed.new W0 144 (.func (.yield l) #[] #[])).alloc (.cells #[.int .u64 0] 36)).alloc (.cells #[.bool false] 4)).alloc (.cells #[.slice pA a.length nA] 42) |>.alloc (.cells #[.slice pB b.length nB] 42)
 have b1:=((Boxed.new (W0.alloc (.cells #[.func (.yield l) #[] #[]] 144)) 36 (.int .u64 0)).alloc (.cells #[.bool false] 4)).alloc (.cells #[.slice pA a.length nA] 42) |>.alloc (.cells #[.slice pB b.length nB] 42)
 have b2:=(Boxed.new ((W0.alloc (.cells #[.func (.yield l) #[] #[]] 144)).alloc (.cells #[.int .u64 0] 36)) 4 (.bool false)).alloc (.cells #[.slice pA a.length nA] 42) |>.alloc (.cells #[.slice pB b.length nB] 42)
 have b3:=(Boxed.new (((W0.alloc (.cells #[.func (.yield l) #[] #[]] 144)).alloc (.cells #[.int .u64 0] 36)).alloc (.cells #[.bool false] 4)) 42 (.slice pA a.length nA)).alloc (.cells #[.slice pB b.length nB] 42)
 have b4:=Boxed.new ((((W0.alloc (.cells #[.func (.yield l) #[] #[]] 144)).alloc (.cells #[.int .u64 0] 36)).alloc (.cells #[.bool false] 4)).alloc (.cells #[.slice pA a.length nA] 42)) 42 (.slice pB b.length nB)
 simp only [World.size_alloc] at b1 b2 b3 b4
 exact ⟨hb,by simp,⟨b0,b1,b2,z6 hT hb⟩,⟨b3.cell,b4.cell,h0.la.call hb,h0.lb.call hb⟩⟩
theorem zs6 {front:List Ch} {J:List Iv→World→Prop} {Jx:World→Prop} {f:Bool→Bool→Bool} {C:List Ch}
 (hs:w5.heap.size=e+5) (hc:c≤e) (hT:kT<c) (hz:e+7≤A0.heap.size) (hap:y5 (fun k=>¬ ((k<c∨e≤k∧k<e+7)∨A0.heap.size≤k)) W W3) (how:zv4 e l kT T s t W3) (hJ:J pre W3)
 (hK:∀ (front:List Iv) (A B:World),J front A→y5 (fun k=>e≤k∧k<e+7) A B→J front B) (hst:StP UM f C L pre s' t' front) :
 x10 w5.heap.size A0.heap.size (fun k=>k<c∨k=e+1+1+1∨k=e+1+1+1+1) (fun front W=>∃ pre s0 t0,StP UM f C L pre s0 t0 front∧J pre W∧zv4 e l kT T s0 t0 W) Jx front W .normal x
  ((W3.setCell ⟨e+1,0,none⟩ (.int .u64 s')).setCell ⟨e+1+1,0,none⟩ (.bool t')):=by
 have hk:∀ q:Nat→Prop,q (e+1)→q (e+1+1)→y5 q W3 ((W3.setCell ⟨e+1,0,none⟩ (.int .u64 s')).setCell ⟨e+1+1,0,none⟩ (.bool t')):=fun q h1 h2=>(y5.set W3 _ h1).trans (y5.set _ _ h2)
 have h1:¬ ((e+1<c∨e+1=e+1+1+1∨e+1=e+1+1+1+1)∨e+1=w5.heap.size∨e+1=w5.heap.size+1∨A0.heap.size≤e+1):=by omega
 have h2:¬ ((e+1+1<c∨e+1+1=e+1+1+1∨e+1+1=e+1+1+1+1)∨e+1+1=w5.heap.size∨e+1+1=w5.heap.size+1∨A0.heap.size≤e+1+1):=by omega
 refine ⟨y5.trans (B:=W3) (hap.mono fun k _ h hn=>h ?_) (hk (fun k=>¬ ((k<c∨k=e+1+1+1∨k=e+1+1+1+1)∨k=w5.heap.size∨k=w5.heap.size+1∨A0.heap.size≤k)) h1 h2),pre,s',t',hst,hK _ _ _ hJ (hk _ (by omega) (by omega)),how.set (by omega) s' t'⟩
 have hn:(k<c∨k=e+1+1+1∨k=e+1+1+1+1)∨k=w5.heap.size∨k=w5.heap.size+1∨A0.heap.size≤k:=hn
 omega
theorem yl9 {front:List Ch} {J:List Iv→World→Prop} {Jx:World→Prop} {f:Bool→Bool→Bool} {C:List Ch}
 (hs:w5.heap.size=e+5) (hc:c≤e) (hT:kT<c) (hz:e+7≤A0.heap.size) (hap:y5 (fun k=>¬ ((k<c∨e≤k∧k<e+7)∨A0.heap.size≤k)) W W3) (how:zv4 e l kT T s t W3) (hJ:J pre W3)
 (hK:∀ (front:List Iv) (A B:World),J front A→y5 (fun k=>e≤k∧k<e+7) A B→J front B) (hst:StP UM f C L pre s' t' front) :
 x10 w5.heap.size A0.heap.size (fun k=>k<c∨k=e+1+1+1∨k=e+1+1+1+1) (fun front W=>∃ pre s0 t0,StP UM f C L pre s0 t0 front∧J pre W∧zv4 e l kT T s0 t0 W) Jx front W .normal x
  ((W3.setCell ⟨e+1,0,none⟩ (.int .u64 s')).setCell ⟨e+1+1,0,none⟩ (.bool t')).drew:=by
 obtain ⟨h1,pre',s1,t1,h2,h3,h4⟩:=zs6 (Jx:=Jx) (x:=x) hs hc hT hz hap how hJ hK hst
 exact ⟨h1.trans (y5.drew _ _),pre',s1,t1,h2,hK _ _ _ h3 (y5.drew _ _),h4.apart (y5.drew (fun _=>False) _) id id id id⟩
end
section
open Go.RowKit Go.Shelf
attribute [local go_sem] Oper.semAt_some
theorem ya9 (p q:Bool) (w:World):Calls Tryz.prog 272 #[.bool p,.bool q] w (IsB (fOr p q) w):=by
 cases p <;> cases q <;>
 (go_enter Tryz.func272,Tryz.ntmps272
  go_wp2
  go_ret
  exact ⟨rfl,rfl⟩)
set_option maxRecDepth 100000 in
set_option maxHeartbeats 8000000 in
theorem x14 (n:Nat) (hn:3≤n) (c kA kB kT:Nat) (s t:Value) (a b:List Iv) (W0:World) (hc:c≤W0.heap.size) (hkT:kT<c) (h3:zg7 (fun k=>k<c) s a) (h4:zg7 (fun k=>k<c) t b)
 (h0:zc4 kA kB s t a b W0) (hT:W0.cell? ⟨kT,0,none⟩=some (.func (.func 272) #[] #[])) :
 xd0 n Tryz.prog 281 #[.pointer (some ⟨kA,0,none⟩),.pointer (some ⟨kB,0,none⟩),.pointer (some ⟨kT,0,none⟩)] ivA (pc UM fOr (chL UM a b) 0 false)
  (fun k=>W0.heap.size≤k∧k<W0.heap.size+7) (fun k=>k<c∨(W0.heap.size≤k∧k<W0.heap.size+7)) (W0.heap.size+7) W0:=by
 intro l J Jx hJ hJx hY hJ0
 obtain ⟨e,he⟩:∃ e,W0.heap.size=e:=⟨_,rfl⟩
 rw [he] at hc hJ hJx hY
 obtain ⟨L,hL⟩:∃ L,pc UM fOr (chL UM a b) 0 false=L:=⟨_,rfl⟩
 rw [hL] at hY ⊢
 have hup:=wd8 h0.la.good.can h0.lb.good.can h0.la.good.ok h0.lb.good.ok
 have HS0:=qh (StP.start hup hL)
 clear hup hL
 have HY:=qh hY;clear hY
 have HK:=qh (And.intro hJ hJx);clear hJ hJx
 have H34:=qh (And.intro h3 h4);clear h3 h4
 have HJ0:=qh hJ0;clear hJ0
 obtain ⟨pA,nA,rfl,_⟩:=h0.la.at'.shape
 obtain ⟨pB,nB,rfl,_⟩:=h0.lb.at'.shape
 have hb3:=y7 (y7 (z8 W0 (.cells #[.func (.yield l) #[] #[]] 144)) (.cells #[.int .u64 0] 36)) (.cells #[.bool false] 4)
 have hcA:=z6 h0.ca hb3
 have hcB:=z6 h0.cb hb3
 clear hb3
 have H0:=qh h0;clear h0
 have HT:=qh hT;clear hT
 have HN:=qh (And.intro hc hkT);clear hc hkT
 have hn1:1≤n:=by omega
 have hn2:1≤n - 1:=by omega
 have hn3:1≤n - 1 - 1:=by omega
 clear hn
 have HE:=qh he;clear he
 refine callsIn_of_wp_marks Tryz.func281 rfl trivial ?_ rfl
 simp only [Tryz.ntmps281,List.size_toArray,List.length_cons,List.length_nil,Nat.reduceAdd,Nat.reduceSub,Array.replicate_succ,Array.replicate_zero,List.push_toArray,List.append_toArray,List.nil_append,List.cons_append]
 have KC:=qh y28
 gi_wp2_with (refine ⟨trivial,?_⟩;gi_at_call 282;refine (callsIn_wide.2 (KC.out _ _ _ _ _ _ _)).mono ?_;rintro e w' ⟨rfl,hw⟩;obtain rfl:=hw)
 clear hcA hcB
 obtain ⟨w5,hw5⟩:∃ w5,((((W0.alloc (.cells #[.func (.yield l) #[] #[]] 144)).alloc (.cells #[.int .u64 0] 36)).alloc (.cells #[.bool false] 4)).alloc (.cells #[.slice pA a.length nA] 42)).alloc (.cells #[.slice pB b.length nB] 42)=w5:=⟨_,rfl⟩
 obtain ⟨hb5,hs5,ho5,ht5⟩:=wj1 W0 w5 e l kA kB kT (.func (.func 272) #[] #[]) pA pB nA nB a b HE.out H0.out HT.out hw5
 rw [hw5,HE.out]
 clear hw5
 have HS5:=qh hs5
 have HC:=qh HN.out.1
 have hkT:=HN.out.2
 have hce:=HN.out.1
 have HB5:=qh hb5;clear hb5
 have HO5:=qh ho5;clear ho5
 have HT5:=qh ht5;clear ht5
 have HJ5:=qh (HK.out.1 _ _ _ HJ0.out (y5.of_below _ HB5.out))
 refine x11 (n:=n) hn1 (gf:=286) (lb:=#[.pointer (some ⟨e+1+1+1,0,none⟩),.pointer (some ⟨e+1+1+1+1,0,none⟩)]) (encs:=chV) (L:=chL UM a b) (own:=fun _=>False) (keep:=fun k=>k<c∨k=e+1+1+1∨k=e+1+1+1+1) (lo:=0)
  rfl (enters_of Tryz.func286 (by kernel_rfl) rfl) (fun _=>rfl) (fun k hk=>by omega) (fun _ h=>h.elim)
  (fun W _ hb=>y27 _ hn2 (e+1+1+1) (e+1+1+1+1) _ _ a b _ (.inr (.inl rfl)) (.inr (.inr rfl)) (fun hne b o n cap h => .inl (H34.out.1 hne b o n cap h)) (fun hne b o n cap h => .inl (H34.out.2 hne b o n cap h)) W (HT5.out.below hb))
  (fun front W=>∃ pre s0 t0,StP UM fOr (chL UM a b) L pre s0 t0 front∧J pre W∧zv4 e l kT (.func (.func 272) #[] #[]) s0 t0 W) Jx (fun k=>k=e+5∨k=e+6) (by omega) (fun _ h=>h.elim)
  (fun front A B h hab=>by
    obtain ⟨pre,s0,t0,h1,h2,h3⟩:=h
    exact ⟨pre,s0,t0,h1,HK.out.1 _ _ _ h2 (hab.mono fun k _ h=>by omega),h3.apart hab (by omega) (by omega) (by omega) (by omega)⟩)
  (fun A B h hab=>HK.out.2 _ _ h (hab.mono fun k _ h=>by omega))
  ⟨[],0,false,HS0.out,HJ5.out,HO5.out⟩
  (fun z x a' W=>∃ Bx,z≤Bx∧yl8 Bx x W∧a'={ tmps:=#[.func (.yield l) #[] #[],.pointer (some ⟨kA,0,none⟩),.pointer (some ⟨kB,0,none⟩),.pointer (some ⟨kT,0,none⟩),.pointer (some ⟨e,0,none⟩),.pointer (some ⟨e+1,0,none⟩),.pointer (some ⟨e+1+1,0,none⟩),.pointer (some ⟨Bx,0,none⟩),.slice pA a.length nA,.slice pB b.length nB,.func (.func 286) #[] #[.pointer (some ⟨e+1+1+1,0,none⟩),.pointer (some ⟨e+1+1+1+1,0,none⟩)],.agg #[.int .u64 x.1,.bool x.2.1,.bool x.2.2],undef,undef,undef,undef,undef,undef,undef,undef,undef,undef,undef,undef,undef,undef,undef,undef,undef,undef,undef,undef,undef,undef,undef,undef,undef,undef,undef,undef],defers := [] })
  (fun z x a' A B _ hz h hab=>by
    obtain ⟨Bx,h1,h2,h3⟩:=h
    exact ⟨Bx,h1,h2.apart hab (by omega),h3⟩) ?assign ?body ?done ?stop
 case assign =>
  rintro l2 front x A0 W K _ hap _ hz hK
  unfold chV
  have hz2:=hap.size
  gi_wp2
  exact hK _ _ (z8 _ _) ⟨W.heap.size,hz2,yl8.new _ _ _,rfl⟩
 case body =>
  rintro l2 front ⟨at0,p,q⟩ a' A0 W ⟨pre,s0,t0,hst,hj,hown⟩ hap ⟨Bx,hzB,hch,rfl⟩ hx _ hz
  have hz7:e+7≤A0.heap.size:=by omega
  have hownW:=hown.apart hap (by omega) (by omega) (by omega) (by omega)
  obtain ⟨hr0,hrU,hr1⟩:=hst.range hx
  have HR1:=qh hr1;clear hr1
  have hcy:=hownW.y.cell
  have hcs:=hownW.st.cell
  have hfs:=hownW.st.frozen
  have hct:=hownW.tk.cell
  have hft:=hownW.tk.frozen
  have hcT:=hownW.ct
  obtain ⟨hx0,hx1,hx2,_⟩:=hch
  have hlt:Bx<W.heap.size:=World.block_lt_of_cell? W _ hx0
  have HCH:Hid (yl8 Bx (at0,p,q) W):=qh ⟨hx0,hx1,hx2,trivial⟩
  have HOW:=qh hownW;clear hownW hown
  have HJ:=qh hj;clear hj
  have HAP:=qh hap;clear hap
  have HST:=qh hst;clear hst
  have HX:=qh hx;clear hx
  have hmx:Tryz.prog.follows .mixedOrders=true:=by kernel_rfl
  have HS5b:=qh hs5;clear hs5
  cases hv:fOr p q with
  | true =>
    have KT:Hid (∀ w,Calls Tryz.prog 272 #[.bool p,.bool q] w (IsB true w)):=qh (fun w=>hv ▸ ya9 p q w)
    have HV:=qh hv;clear hv
    cases t0 with
    | true =>
      gi_wp2
      refine o9 (by kernel_rfl) (by kernel_rfl) (by kernel_rfl) ?_
      repeat (gi_big_quiet_step (fail))
      refine BigFrame.wpQuietIn_want (fun _ _ _ _=>trivial) rfl (fun K hK => ?_)
      gi_big_quiet_op
      apply Exists.intro
      refine ⟨fun _ => ?_,?_⟩
      ·gi_at_call 272
       exact CallsIn.inRound l2 (CallsIn.quiet_of_same (callsIn_wide.2 (KT.out _)))
      refine hK _ ?_
      clear hK
      clear K
      repeat (gi_big_quiet_step (fail))
      refine wpQuietIn_nil ?_
      rintro _ ⟨nq,rfl⟩
      gi_wp2
      exact ⟨y5.drewN _ _ _,pre,s0,true,HST.out.same HX.out HV.out,HK.out.1 _ _ _ HJ.out ((HAP.out.mono fun k _ h=>by omega).trans (y5.drewN _ _ _)),HOW.out.apart (y5.drewN (fun _=>False) _ _) id id id id⟩
    | false =>
      gi_wp2
      refine o9 (by kernel_rfl) (by kernel_rfl) (by kernel_rfl) ?_
      repeat (gi_big_quiet_step (fail))
      refine BigFrame.wpQuietIn_want (fun _ _ _ _=>trivial) rfl (fun K hK => ?_)
      gi_big_quiet_op
      apply Exists.intro
      refine ⟨fun _ => ?_,?_⟩
      ·gi_at_call 272
       exact CallsIn.inRound l2 (CallsIn.quiet_of_same (callsIn_wide.2 (KT.out _)))
      refine hK _ ?_
      clear hK
      clear K
      repeat (gi_big_quiet_step (fail))
      refine wpQuietIn_nil ?_
      rintro _ ⟨nq,rfl⟩
      gi_wp2_with ((with_reducible refine And.intro ?_ ?_);exact fun _ _=>trivial)
      gi_region_with_o (fail)
      all_goals gi_wp2
      all_goals exact zs6 HS5.out hce hkT hz7 (y5.drewN _ _ _) (HOW.out.apart (y5.drewN (fun _=>False) _ _) id id id id) (HK.out.1 _ _ _ HJ.out ((HAP.out.mono fun k _ h=>by omega).trans (y5.drewN _ _ _))) HK.out.1 (HST.out.go HX.out HV.out)
  | false =>
    have KT:Hid (∀ w,Calls Tryz.prog 272 #[.bool p,.bool q] w (IsB false w)):=qh (fun w=>hv ▸ ya9 p q w)
    have HV:=qh hv;clear hv
    cases t0 with
    | true =>
      obtain ⟨hs0,hs1⟩:=HR1.out rfl
      have hU18:at0≤18446744073709551615:=hrU
      clear hrU
      gi_wp2
      refine o9 (by kernel_rfl) (by kernel_rfl) (by kernel_rfl) ?_
      repeat (gi_big_quiet_step (fail))
      refine BigFrame.wpQuietIn_want (fun _ _ _ _=>trivial) rfl (fun K hK => ?_)
      gi_big_quiet_op
      apply Exists.intro
      refine ⟨fun _ => ?_,?_⟩
      ·gi_at_call 272
       exact CallsIn.inRound l2 (CallsIn.quiet_of_same (callsIn_wide.2 (KT.out _)))
      refine hK _ ?_
      clear hK
      clear K
      repeat (gi_big_quiet_step (fail))
      refine wpQuietIn_nil ?_
      rintro _ ⟨nq,rfl⟩
      gi_wp2
      obtain ⟨hst2,hpx⟩:=HST.out.stop HX.out HV.out
      obtain ⟨fn,tmps,assign,body,hy,hR⟩:=HY.out pre (s0,at0 - 1) A0 (W.drewN nq) HJ.out ((HAP.out.mono fun k _ h=>by omega).trans (y5.drewN _ _ _)) hpx hz7
      unfold ivA at hy
      dsimp only at hy
      rw [hy,Oper.uponIn_round]
      refine ⟨fun h=>(by cases h),(RoundIn.inRound (RoundIn.anyDepth hR)).mono ?_⟩
      clear hy hR hpx
      have HST2:=qh hst2;clear hst2
      clear hcy hcs hfs hct hft hcT hx0 hx1 hx2
      rintro e3 W3 ⟨hap3,⟨rfl,hJ3⟩ | ⟨rfl,hJ3⟩⟩
      ·have hap4:=(y5.drewN _ W nq).trans hap3
       have how3:=HOW.out.apart hap4 (by omega) (by omega) (by omega) (by omega)
       have hch3:=HCH.out.apart hap4 (by omega)
       have hcs3:=how3.st.cell
       have hfs3:=how3.st.frozen
       have hct3:=how3.tk.cell
       have hft3:=how3.tk.frozen
       obtain ⟨hx0,_⟩:=hch3
       have HOW3:=qh how3;clear how3
       have HAP4:=qh hap4;clear hap4 hap3
       have HJ3:=qh hJ3;clear hJ3
       gi_wp2
       gi_region_with_o (fail)
       all_goals gi_wp2
       all_goals exact yl9 HS5.out hce hkT hz7 HAP4.out HOW3.out HJ3.out HK.out.1 HST2.out
      ·have HAP4:=qh ((y5.drewN _ W nq).trans hap3);clear hap3
       have HJ3:=qh hJ3;clear hJ3
       gi_wp2
       have hs5c:=HS5.out
       exact ⟨HAP4.out.mono (fun k _ h hn=>h (by omega)),HJ3.out⟩
    | false =>
      gi_wp2
      refine o9 (by kernel_rfl) (by kernel_rfl) (by kernel_rfl) ?_
      repeat (gi_big_quiet_step (fail))
      refine BigFrame.wpQuietIn_want (fun _ _ _ _=>trivial) rfl (fun K hK => ?_)
      gi_big_quiet_op
      apply Exists.intro
      refine ⟨fun _ => ?_,?_⟩
      ·gi_at_call 272
       exact CallsIn.inRound l2 (CallsIn.quiet_of_same (callsIn_wide.2 (KT.out _)))
      refine hK _ ?_
      clear hK
      clear K
      repeat (gi_big_quiet_step (fail))
      refine wpQuietIn_nil ?_
      rintro _ ⟨nq,rfl⟩
      gi_wp2
      exact ⟨y5.drewN _ _ _,pre,s0,false,HST.out.same HX.out HV.out,HK.out.1 _ _ _ HJ.out ((HAP.out.mono fun k _ h=>by omega).trans (y5.drewN _ _ _)),HOW.out.apart (y5.drewN (fun _=>False) _ _) id id id id⟩
 case done =>
  rintro D W hD hszW ⟨pre,s0,t0,hst,hj,hown⟩ hdf
  have hcy:=hown.y.cell
  have hcs:=hown.st.cell
  have hct:=hown.tk.cell
  have HST:=qh hst;clear hst
  have HJ:=qh hj;clear hj hown
  have HD:=qh hD;clear hD
  have HDF:=qh hdf;clear hdf
  have HSW:=qh hszW;clear hszW
  clear hs5
  cases t0 with
  | false =>
    gi_wp2
    have hDe:D=e+5:=by have:=HS5.out;have:=HD.out;omega
    refine ⟨by simp,.inl ⟨_,_,rfl,run_takeDeferred HDF.out,?_⟩⟩
    exact ⟨_,results_none rfl _ _ _,⟨_,rfl⟩,.inl (HK.out.1 _ _ _ (HST.out.done ▸ HJ.out) (y5.put _ _ (by omega)))⟩
  | true =>
    obtain ⟨fn,tmps,assign,body,hy,hR⟩:=HY.out pre (s0,UM) W W HJ.out (y5.refl _ _) ⟨[],by rw [List.append_nil];exact HST.out.last⟩ (by have:=HSW.out;have:=HS5.out;omega)
    unfold ivA at hy
    dsimp only [UM] at hy
    gi_wp2
    refine (RoundIn.anyDepth hR).mono ?_
    clear hy hR
    rintro e3 W3 ⟨hap3,⟨rfl,hJ3⟩ | ⟨rfl,hJ3⟩⟩
    ·have HDF3:=qh (hap3.obj HDF.out (by have:=HS5.out;have:=HD.out;omega))
     have HJ3:=qh hJ3;clear hJ3 hap3
     gi_wp2
     have hDe:D=e+5:=by have:=HS5.out;have:=HD.out;omega
     refine ⟨by simp,.inl ⟨_,_,rfl,run_takeDeferred HDF3.out,?_⟩⟩
     exact ⟨_,results_none rfl _ _ _,⟨_,rfl⟩,.inl (HK.out.1 _ _ _ (HST.out.last ▸ HJ3.out) (y5.put _ _ (by omega)))⟩
    ·have HDF3:=qh (hap3.obj HDF.out (by have:=HS5.out;have:=HD.out;omega))
     have HJ3:=qh hJ3;clear hJ3 hap3
     gi_wp2
     have hDe:D=e+5:=by have:=HS5.out;have:=HD.out;omega
     refine ⟨by simp,.inl ⟨_,_,rfl,run_takeDeferred HDF3.out,?_⟩⟩
     exact ⟨_,results_none rfl _ _ _,⟨_,rfl⟩,.inr (HK.out.2 _ _ HJ3.out (y5.put _ _ (by omega)))⟩
 case stop =>
  rintro D W hD hJx hdf
  have HJ:=qh hJx;clear hJx
  have HD:=qh hD;clear hD
  have HDF:=qh hdf;clear hdf
  clear hs5
  gi_wp2
  have hDe:D=e+5:=by have:=HS5.out;have:=HD.out;omega
  refine ⟨by simp,.inl ⟨_,_,rfl,run_takeDeferred HDF.out,?_⟩⟩
  exact ⟨_,results_none rfl _ _ _,⟨_,rfl⟩,.inr (HK.out.2 _ _ HJ.out (y5.put _ _ (by omega)))⟩
end
section
open Go.RowKit Go.Shelf
attribute [local go_sem] Oper.semAt_some
theorem yb0 (p q:Bool) (w:World):Calls Tryz.prog 288 #[.bool p,.bool q] w (IsB (yh2 p q) w):=by
 cases p <;> cases q <;>
 (go_enter Tryz.func288,Tryz.ntmps288
  go_wp2
  go_ret
  exact ⟨rfl,rfl⟩)
set_option maxRecDepth 100000 in
set_option maxHeartbeats 8000000 in
theorem x15 (n:Nat) (hn:3≤n) (c kA kB kT:Nat) (s t:Value) (a b:List Iv) (W0:World) (hc:c≤W0.heap.size) (hkT:kT<c) (h3:zg7 (fun k=>k<c) s a) (h4:zg7 (fun k=>k<c) t b)
 (h0:zc4 kA kB s t a b W0) (hT:W0.cell? ⟨kT,0,none⟩=some (.func (.func 288) #[] #[])) :
 xd0 n Tryz.prog 281 #[.pointer (some ⟨kA,0,none⟩),.pointer (some ⟨kB,0,none⟩),.pointer (some ⟨kT,0,none⟩)] ivA (pc UM yh2 (chL UM a b) 0 false)
  (fun k=>W0.heap.size≤k∧k<W0.heap.size+7) (fun k=>k<c∨(W0.heap.size≤k∧k<W0.heap.size+7)) (W0.heap.size+7) W0:=by
 intro l J Jx hJ hJx hY hJ0
 obtain ⟨e,he⟩:∃ e,W0.heap.size=e:=⟨_,rfl⟩
 rw [he] at hc hJ hJx hY
 obtain ⟨L,hL⟩:∃ L,pc UM yh2 (chL UM a b) 0 false=L:=⟨_,rfl⟩
 rw [hL] at hY ⊢
 have hup:=wd8 h0.la.good.can h0.lb.good.can h0.la.good.ok h0.lb.good.ok
 have HS0:=qh (StP.start hup hL)
 clear hup hL
 have HY:=qh hY;clear hY
 have HK:=qh (And.intro hJ hJx);clear hJ hJx
 have H34:=qh (And.intro h3 h4);clear h3 h4
 have HJ0:=qh hJ0;clear hJ0
 obtain ⟨pA,nA,rfl,_⟩:=h0.la.at'.shape
 obtain ⟨pB,nB,rfl,_⟩:=h0.lb.at'.shape
 have hb3:=y7 (y7 (z8 W0 (.cells #[.func (.yield l) #[] #[]] 144)) (.cells #[.int .u64 0] 36)) (.cells #[.bool false] 4)
 have hcA:=z6 h0.ca hb3
 have hcB:=z6 h0.cb hb3
 clear hb3
 have H0:=qh h0;clear h0
 have HT:=qh hT;clear hT
 have HN:=qh (And.intro hc hkT);clear hc hkT
 have hn1:1≤n:=by omega
 have hn2:1≤n - 1:=by omega
 have hn3:1≤n - 1 - 1:=by omega
 clear hn
 have HE:=qh he;clear he
 refine callsIn_of_wp_marks Tryz.func281 rfl trivial ?_ rfl
 simp only [Tryz.ntmps281,List.size_toArray,List.length_cons,List.length_nil,Nat.reduceAdd,Nat.reduceSub,Array.replicate_succ,Array.replicate_zero,List.push_toArray,List.append_toArray,List.nil_append,List.cons_append]
 have KC:=qh y28
 gi_wp2_with (refine ⟨trivial,?_⟩;gi_at_call 282;refine (callsIn_wide.2 (KC.out _ _ _ _ _ _ _)).mono ?_;rintro e w' ⟨rfl,hw⟩;obtain rfl:=hw)
 clear hcA hcB
 obtain ⟨w5,hw5⟩:∃ w5,((((W0.alloc (.cells #[.func (.yield l) #[] #[]] 144)).alloc (.cells #[.int .u64 0] 36)).alloc (.cells #[.bool false] 4)).alloc (.cells #[.slice pA a.length nA] 42)).alloc (.cells #[.slice pB b.length nB] 42)=w5:=⟨_,rfl⟩
 obtain ⟨hb5,hs5,ho5,ht5⟩:=wj1 W0 w5 e l kA kB kT (.func (.func 288) #[] #[]) pA pB nA nB a b HE.out H0.out HT.out hw5
 rw [hw5,HE.out]
 clear hw5
 have HS5:=qh hs5
 have HC:=qh HN.out.1
 have hkT:=HN.out.2
 have hce:=HN.out.1
 have HB5:=qh hb5;clear hb5
 have HO5:=qh ho5;clear ho5
 have HT5:=qh ht5;clear ht5
 have HJ5:=qh (HK.out.1 _ _ _ HJ0.out (y5.of_below _ HB5.out))
 refine x11 (n:=n) hn1 (gf:=286) (lb:=#[.pointer (some ⟨e+1+1+1,0,none⟩),.pointer (some ⟨e+1+1+1+1,0,none⟩)]) (encs:=chV) (L:=chL UM a b) (own:=fun _=>False) (keep:=fun k=>k<c∨k=e+1+1+1∨k=e+1+1+1+1) (lo:=0)
  rfl (enters_of Tryz.func286 (by kernel_rfl) rfl) (fun _=>rfl) (fun k hk=>by omega) (fun _ h=>h.elim)
  (fun W _ hb=>y27 _ hn2 (e+1+1+1) (e+1+1+1+1) _ _ a b _ (.inr (.inl rfl)) (.inr (.inr rfl)) (fun hne b o n cap h => .inl (H34.out.1 hne b o n cap h)) (fun hne b o n cap h => .inl (H34.out.2 hne b o n cap h)) W (HT5.out.below hb))
  (fun front W=>∃ pre s0 t0,StP UM yh2 (chL UM a b) L pre s0 t0 front∧J pre W∧zv4 e l kT (.func (.func 288) #[] #[]) s0 t0 W) Jx (fun k=>k=e+5∨k=e+6) (by omega) (fun _ h=>h.elim)
  (fun front A B h hab=>by
    obtain ⟨pre,s0,t0,h1,h2,h3⟩:=h
    exact ⟨pre,s0,t0,h1,HK.out.1 _ _ _ h2 (hab.mono fun k _ h=>by omega),h3.apart hab (by omega) (by omega) (by omega) (by omega)⟩)
  (fun A B h hab=>HK.out.2 _ _ h (hab.mono fun k _ h=>by omega))
  ⟨[],0,false,HS0.out,HJ5.out,HO5.out⟩
  (fun z x a' W=>∃ Bx,z≤Bx∧yl8 Bx x W∧a'={ tmps:=#[.func (.yield l) #[] #[],.pointer (some ⟨kA,0,none⟩),.pointer (some ⟨kB,0,none⟩),.pointer (some ⟨kT,0,none⟩),.pointer (some ⟨e,0,none⟩),.pointer (some ⟨e+1,0,none⟩),.pointer (some ⟨e+1+1,0,none⟩),.pointer (some ⟨Bx,0,none⟩),.slice pA a.length nA,.slice pB b.length nB,.func (.func 286) #[] #[.pointer (some ⟨e+1+1+1,0,none⟩),.pointer (some ⟨e+1+1+1+1,0,none⟩)],.agg #[.int .u64 x.1,.bool x.2.1,.bool x.2.2],undef,undef,undef,undef,undef,undef,undef,undef,undef,undef,undef,undef,undef,undef,undef,undef,undef,undef,undef,undef,undef,undef,undef,undef,undef,undef,undef,undef],defers := [] })
  (fun z x a' A B _ hz h hab=>by
    obtain ⟨Bx,h1,h2,h3⟩:=h
    exact ⟨Bx,h1,h2.apart hab (by omega),h3⟩) ?assign ?body ?done ?stop
 case assign =>
  rintro l2 front x A0 W K _ hap _ hz hK
  unfold chV
  have hz2:=hap.size
  gi_wp2
  exact hK _ _ (z8 _ _) ⟨W.heap.size,hz2,yl8.new _ _ _,rfl⟩
 case body =>
  rintro l2 front ⟨at0,p,q⟩ a' A0 W ⟨pre,s0,t0,hst,hj,hown⟩ hap ⟨Bx,hzB,hch,rfl⟩ hx _ hz
  have hz7:e+7≤A0.heap.size:=by omega
  have hownW:=hown.apart hap (by omega) (by omega) (by omega) (by omega)
  obtain ⟨hr0,hrU,hr1⟩:=hst.range hx
  have HR1:=qh hr1;clear hr1
  have hcy:=hownW.y.cell
  have hcs:=hownW.st.cell
  have hfs:=hownW.st.frozen
  have hct:=hownW.tk.cell
  have hft:=hownW.tk.frozen
  have hcT:=hownW.ct
  obtain ⟨hx0,hx1,hx2,_⟩:=hch
  have hlt:Bx<W.heap.size:=World.block_lt_of_cell? W _ hx0
  have HCH:Hid (yl8 Bx (at0,p,q) W):=qh ⟨hx0,hx1,hx2,trivial⟩
  have HOW:=qh hownW;clear hownW hown
  have HJ:=qh hj;clear hj
  have HAP:=qh hap;clear hap
  have HST:=qh hst;clear hst
  have HX:=qh hx;clear hx
  have hmx:Tryz.prog.follows .mixedOrders=true:=by kernel_rfl
  have HS5b:=qh hs5;clear hs5
  cases hv:yh2 p q with
  | true =>
    have KT:Hid (∀ w,Calls Tryz.prog 288 #[.bool p,.bool q] w (IsB true w)):=qh (fun w=>hv ▸ yb0 p q w)
    have HV:=qh hv;clear hv
    cases t0 with
    | true =>
      gi_wp2
      refine o9 (by kernel_rfl) (by kernel_rfl) (by kernel_rfl) ?_
      repeat (gi_big_quiet_step (fail))
      refine BigFrame.wpQuietIn_want (fun _ _ _ _=>trivial) rfl (fun K hK => ?_)
      gi_big_quiet_op
      apply Exists.intro
      refine ⟨fun _ => ?_,?_⟩
      ·gi_at_call 288
       exact CallsIn.inRound l2 (CallsIn.quiet_of_same (callsIn_wide.2 (KT.out _)))
      refine hK _ ?_
      clear hK
      clear K
      repeat (gi_big_quiet_step (fail))
      refine wpQuietIn_nil ?_
      rintro _ ⟨nq,rfl⟩
      gi_wp2
      exact ⟨y5.drewN _ _ _,pre,s0,true,HST.out.same HX.out HV.out,HK.out.1 _ _ _ HJ.out ((HAP.out.mono fun k _ h=>by omega).trans (y5.drewN _ _ _)),HOW.out.apart (y5.drewN (fun _=>False) _ _) id id id id⟩
    | false =>
      gi_wp2
      refine o9 (by kernel_rfl) (by kernel_rfl) (by kernel_rfl) ?_
      repeat (gi_big_quiet_step (fail))
      refine BigFrame.wpQuietIn_want (fun _ _ _ _=>trivial) rfl (fun K hK => ?_)
      gi_big_quiet_op
      apply Exists.intro
      refine ⟨fun _ => ?_,?_⟩
      ·gi_at_call 288
       exact CallsIn.inRound l2 (CallsIn.quiet_of_same (callsIn_wide.2 (KT.out _)))
      refine hK _ ?_
      clear hK
      clear K
      repeat (gi_big_quiet_step (fail))
      refine wpQuietIn_nil ?_
      rintro _ ⟨nq,rfl⟩
      gi_wp2_with ((with_reducible refine And.intro ?_ ?_);exact fun _ _=>trivial)
      gi_region_with_o (fail)
      all_goals gi_wp2
      all_goals exact zs6 HS5.out hce hkT hz7 (y5.drewN _ _ _) (HOW.out.apart (y5.drewN (fun _=>False) _ _) id id id id) (HK.out.1 _ _ _ HJ.out ((HAP.out.mono fun k _ h=>by omega).trans (y5.drewN _ _ _))) HK.out.1 (HST.out.go HX.out HV.out)
  | false =>
    have KT:Hid (∀ w,Calls Tryz.prog 288 #[.bool p,.bool q] w (IsB false w)):=qh (fun w=>hv ▸ yb0 p q w)
    have HV:=qh hv;clear hv
    cases t0 with
    | true =>
      obtain ⟨hs0,hs1⟩:=HR1.out rfl
      have hU18:at0≤18446744073709551615:=hrU
      clear hrU
      gi_wp2
      refine o9 (by kernel_rfl) (by kernel_rfl) (by kernel_rfl) ?_
      repeat (gi_big_quiet_step (fail))
      refine BigFrame.wpQuietIn_want (fun _ _ _ _=>trivial) rfl (fun K hK => ?_)
      gi_big_quiet_op
      apply Exists.intro
      refine ⟨fun _ => ?_,?_⟩
      ·gi_at_call 288
       exact CallsIn.inRound l2 (CallsIn.quiet_of_same (callsIn_wide.2 (KT.out _)))
      refine hK _ ?_
      clear hK
      clear K
      repeat (gi_big_quiet_step (fail))
      refine wpQuietIn_nil ?_
      rintro _ ⟨nq,rfl⟩
      gi_wp2
      obtain ⟨hst2,hpx⟩:=HST.out.stop HX.out HV.out
      obtain ⟨fn,tmps,assign,body,hy,hR⟩:=HY.out pre (s0,at0 - 1) A0 (W.drewN nq) HJ.out ((HAP.out.mono fun k _ h=>by omega).trans (y5.drewN _ _ _)) hpx hz7
      unfold ivA at hy
      dsimp only at hy
      rw [hy,Oper.uponIn_round]
      refine ⟨fun h=>(by cases h),(RoundIn.inRound (RoundIn.anyDepth hR)).mono ?_⟩
      clear hy hR hpx
      have HST2:=qh hst2;clear hst2
      clear hcy hcs hfs hct hft hcT hx0 hx1 hx2
      rintro e3 W3 ⟨hap3,⟨rfl,hJ3⟩ | ⟨rfl,hJ3⟩⟩
      ·have hap4:=(y5.drewN _ W nq).trans hap3
       have how3:=HOW.out.apart hap4 (by omega) (by omega) (by omega) (by omega)
       have hch3:=HCH.out.apart hap4 (by omega)
       have hcs3:=how3.st.cell
       have hfs3:=how3.st.frozen
       have hct3:=how3.tk.cell
       have hft3:=how3.tk.frozen
       obtain ⟨hx0,_⟩:=hch3
       have HOW3:=qh how3;clear how3
       have HAP4:=qh hap4;clear hap4 hap3
       have HJ3:=qh hJ3;clear hJ3
       gi_wp2
       gi_region_with_o (fail)
       all_goals gi_wp2
       all_goals exact yl9 HS5.out hce hkT hz7 HAP4.out HOW3.out HJ3.out HK.out.1 HST2.out
      ·have HAP4:=qh ((y5.drewN _ W nq).trans hap3);clear hap3
       have HJ3:=qh hJ3;clear hJ3
       gi_wp2
       have hs5c:=HS5.out
       exact ⟨HAP4.out.mono (fun k _ h hn=>h (by omega)),HJ3.out⟩
    | false =>
      gi_wp2
      refine o9 (by kernel_rfl) (by kernel_rfl) (by kernel_rfl) ?_
      repeat (gi_big_quiet_step (fail))
      refine BigFrame.wpQuietIn_want (fun _ _ _ _=>trivial) rfl (fun K hK => ?_)
      gi_big_quiet_op
      apply Exists.intro
      refine ⟨fun _ => ?_,?_⟩
      ·gi_at_call 288
       exact CallsIn.inRound l2 (CallsIn.quiet_of_same (callsIn_wide.2 (KT.out _)))
      refine hK _ ?_
      clear hK
      clear K
      repeat (gi_big_quiet_step (fail))
      refine wpQuietIn_nil ?_
      rintro _ ⟨nq,rfl⟩
      gi_wp2
      exact ⟨y5.drewN _ _ _,pre,s0,false,HST.out.same HX.out HV.out,HK.out.1 _ _ _ HJ.out ((HAP.out.mono fun k _ h=>by omega).trans (y5.drewN _ _ _)),HOW.out.apart (y5.drewN (fun _=>False) _ _) id id id id⟩
 case done =>
  rintro D W hD hszW ⟨pre,s0,t0,hst,hj,hown⟩ hdf
  have hcy:=hown.y.cell
  have hcs:=hown.st.cell
  have hct:=hown.tk.cell
  have HST:=qh hst;clear hst
  have HJ:=qh hj;clear hj hown
  have HD:=qh hD;clear hD
  have HDF:=qh hdf;clear hdf
  have HSW:=qh hszW;clear hszW
  clear hs5
  cases t0 with
  | false =>
    gi_wp2
    have hDe:D=e+5:=by have:=HS5.out;have:=HD.out;omega
    refine ⟨by simp,.inl ⟨_,_,rfl,run_takeDeferred HDF.out,?_⟩⟩
    exact ⟨_,results_none rfl _ _ _,⟨_,rfl⟩,.inl (HK.out.1 _ _ _ (HST.out.done ▸ HJ.out) (y5.put _ _ (by omega)))⟩
  | true =>
    obtain ⟨fn,tmps,assign,body,hy,hR⟩:=HY.out pre (s0,UM) W W HJ.out (y5.refl _ _) ⟨[],by rw [List.append_nil];exact HST.out.last⟩ (by have:=HSW.out;have:=HS5.out;omega)
    unfold ivA at hy
    dsimp only [UM] at hy
    gi_wp2
    refine (RoundIn.anyDepth hR).mono ?_
    clear hy hR
    rintro e3 W3 ⟨hap3,⟨rfl,hJ3⟩ | ⟨rfl,hJ3⟩⟩
    ·have HDF3:=qh (hap3.obj HDF.out (by have:=HS5.out;have:=HD.out;omega))
     have HJ3:=qh hJ3;clear hJ3 hap3
     gi_wp2
     have hDe:D=e+5:=by have:=HS5.out;have:=HD.out;omega
     refine ⟨by simp,.inl ⟨_,_,rfl,run_takeDeferred HDF3.out,?_⟩⟩
     exact ⟨_,results_none rfl _ _ _,⟨_,rfl⟩,.inl (HK.out.1 _ _ _ (HST.out.last ▸ HJ3.out) (y5.put _ _ (by omega)))⟩
    ·have HDF3:=qh (hap3.obj HDF.out (by have:=HS5.out;have:=HD.out;omega))
     have HJ3:=qh hJ3;clear hJ3 hap3
     gi_wp2
     have hDe:D=e+5:=by have:=HS5.out;have:=HD.out;omega
     refine ⟨by simp,.inl ⟨_,_,rfl,run_takeDeferred HDF3.out,?_⟩⟩
     exact ⟨_,results_none rfl _ _ _,⟨_,rfl⟩,.inr (HK.out.2 _ _ HJ3.out (y5.put _ _ (by omega)))⟩
 case stop =>
  rintro D W hD hJx hdf
  have HJ:=qh hJx;clear hJx
  have HD:=qh hD;clear hD
  have HDF:=qh hdf;clear hdf
  clear hs5
  gi_wp2
  have hDe:D=e+5:=by have:=HS5.out;have:=HD.out;omega
  refine ⟨by simp,.inl ⟨_,_,rfl,run_takeDeferred HDF.out,?_⟩⟩
  exact ⟨_,results_none rfl _ _ _,⟨_,rfl⟩,.inr (HK.out.2 _ _ HJ.out (y5.put _ _ (by omega)))⟩
end
section
open Go.RowKit Go.Shelf Go.ChangeShapes Go.WideShapes
attribute [local go_sem] Oper.semAt_some
variable {W w:World} {base size k h:Nat} {e:TypeId} {v:Value} {xs:List Value} {front:List Iv}
def wu3 (gf:Nat) (lb:Array Value) (L:List Iv) (c:Nat) (w:World):Prop:=
 L.length≤100000∧(∀ args W,(callFunc gf args).run Tryz.prog W = .ok (.enter gf args) W) ∧
 ∀ W0,c≤W0.heap.size→Below w.heap.size w W0→xd0 4 Tryz.prog gf lb ivA L (fun k=>W0.heap.size≤k∧k<W0.heap.size+7) (fun k=>k<c∨(W0.heap.size≤k∧k<W0.heap.size+7)) (W0.heap.size+7) W0
theorem zv9 (h:W.ownsRow base e size v k xs) {j:Nat} (hj:j<base):some j≠v.ownBlock:=by
 rcases h.2 with ⟨rfl,_⟩ | ⟨g,cap,cur,rfl,h2,_⟩
 ·simp [Value.ownBlock]
 ·simp only [Value.ownBlock]
  intro e'
  have:=Option.some.inj e'
  omega
structure w53 (h:Nat) (w:World) (front:List Iv) (W:World):Prop where
 row:∃ v,Boxed W h 41 v∧W.ownsRow (h+3+7) 65 2 v front.length (ivC front)
 below:Below h w W
theorem w53.apart {q:Nat→Prop} {A B:World} (hs:w53 h w front A) (hw:h≤w.heap.size) (hb:y5 q A B) (h0:∀ k,k≤h→¬ q k) (h1:∀ k,h+3+7≤k→¬ q k):w53 h w front B:=by
 obtain ⟨v,h2,h3⟩:=hs.row
 exact ⟨⟨v,hb.boxed h2 (h0 h (Nat.le_refl _)),hb.owns h3 h1⟩,hs.below.trans (hb.below (Nat.le_trans hw hs.below.size) fun k hk=>h0 k (by omega))⟩
theorem xn4 (h:W.ownsRow base e size v k xs):∀ g,v.ownBlock=some g→base≤g∧g<W.heap.size:=by
 intro g hg
 rcases h.2 with ⟨rfl,_⟩ | ⟨g',cap,cur,rfl,h2,h3,_⟩
 ·simp [Value.ownBlock] at hg
 ·obtain rfl:g'=g:=by simpa [Value.ownBlock] using hg
  exact ⟨h2,(Array.getElem?_eq_some_iff.1 h3).1⟩
theorem xd3 {x:Iv} {A0 w1:World} {tmp:Obj} {v':Value} {keep:Nat→Prop} {n:Nat} {ys:List Value} {a:Act}
 (hw:h≤w.heap.size) (hi:w53 h w front A0) (hap:y5 (fun k=>k=h+1∨k=h+1+1∨(h+3≤k∧k<h+3+7)) A0 W) (hz:h+3+7≤A0.heap.size)
 (hv:Boxed W h 41 v) (hrow:W.ownsRow (h+3+7) 65 2 v front.length (ivC front)) (hown':w1.ownsRow (h+3+7) 65 2 v' n ys) (hgrow:(W.alloc tmp).grownBy w1 v.ownBlock)
 (hn:n=front.length+1) (hys:ys=ivC front ++ [.int .u64 x.1,.int .u64 x.2]) (hk:∀ k,keep k→k≠h∧(k<h∨k<h+3+7)) (B:Nat) (hB:B=h+1) :
 x10 B A0.heap.size keep (w53 h w) (fun _=>False) (front ++ [x]) W .normal a (w1.setCell ⟨h,0,none⟩ v'):=by
 subst hn hys hB
 obtain ⟨v0,hv0,hrow0⟩:=hi.row
 obtain rfl:v0=v:=by
  have h1:=(hap.boxed hv0 (by omega)).cell
  have h2:=hv.cell
  rw [h1] at h2
  exact Option.some.inj h2
 have hlt:=xn4 hrow0
 have hv1:Boxed w1 h 41 v0:=(hv.alloc tmp).kept hgrow (zv9 hrow (by omega))
 have hiW:=hi.apart hw hap (fun k hk=>by omega) (fun k hk=>by omega)
 have key:∀ q:Nat→Prop,(∀ g,v0.ownBlock=some g→q g)→q h→y5 q W (w1.setCell ⟨h,0,none⟩ v'):=fun q h1 h2 =>
  ((y5.alloc q W tmp).trans (y5.of_grown hgrow h1)).trans (y5.set w1 v' h2)
 refine ⟨key _ ?_ ?_,⟨⟨v',hv1.set v',?_⟩,?_⟩⟩
 ·intro g hg hh
  have h1:=hlt g hg
  have hh:keep g∨g=h+1∨g=h+1+1∨A0.heap.size≤g:=hh
  rcases hh with hh | hh
  ·have:=hk g hh;omega
  ·omega
 ·intro hh
  have hh:keep h∨h=h+1∨h=h+1+1∨A0.heap.size≤h:=hh
  rcases hh with hh | hh
  ·exact (hk h hh).1 rfl
  ·omega
 ·have h1:=hown'.kept (grownBy_setCell' w1 h v') (.inr (hv1.not_row (by decide) hown').symm)
  rw [zc3]
  simpa using h1
 ·refine hiW.below.trans ((key (fun k=>h≤k) (fun g hg=>by have:=hlt g hg;omega) (Nat.le_refl _)).below (by have:=hiW.below.size;omega) (fun k hk=>by omega))
set_option maxRecDepth 100000 in
set_option maxHeartbeats 2000000 in
theorem yp0 (gf:Nat) (lb:Array Value) (L:List Iv) (c:Nat) (w:World) (hS:wu3 gf lb L c w) (hc:c≤w.heap.size) :
 Calls Tryz.prog 270 #[.slice none 0 0,.func (.func gf) #[] lb] w (z69 L w):=by
 refine (callsIn_wide (n:=5)).1 ?_
 obtain ⟨i0,hi,hz0,hz1,hz2⟩:=info_parts zb2
 obtain ⟨hL,eg,hit⟩:=hS
 obtain ⟨h,hh⟩:∃ h,w.heap.size=h:=⟨_,rfl⟩
 have HC:=qh hc;clear hc
 have HH:=qh hh;clear hh
 refine callsIn_of_wp_marks Tryz.func270 rfl trivial ?_ rfl
 simp only [Tryz.ntmps270,List.size_toArray,List.length_cons,List.length_nil,Nat.reduceAdd,Nat.reduceSub,Array.replicate_succ,Array.replicate_zero,List.push_toArray,List.append_toArray,List.nil_append,List.cons_append]
 gi_wp2
 have bL:=Boxed.new w 41 (.slice none 0 0)
 have hB0:=z8 w (.cells #[.slice none 0 0] 41)
 obtain ⟨w1,hw1⟩:∃ w1,w.alloc (.cells #[.slice none 0 0] 41)=w1:=⟨_,rfl⟩
 have hs1:w1.heap.size=h+1:=by rw [← hw1,← HH.out];simp
 rw [hw1] at bL hB0 ⊢
 rw [HH.out] at bL hB0 ⊢
 clear hw1
 have hch:c≤h:=HH.out ▸ HC.out
 have hwh:h≤w.heap.size:=Nat.le_of_eq HH.out.symm
 refine x11 (n:=5) (by omega) (gf:=gf) (lb:=lb) (encs:=ivA) (L:=L) (own:=fun k=>h+3≤k∧k<h+3+7) (keep:=fun k=>k<c∨(h+3≤k∧k<h+3+7)) (lo:=h+3+7)
  rfl eg (fun _=>rfl) (fun k hk=>by omega) (fun k hk=>by omega)
  (fun W hsW hb=>by
    have h1:=hit W (by omega) (by rw [HH.out];exact hB0.trans (hb.mono (by omega)))
    rw [show W.heap.size=h+3 by omega] at h1
    exact h1)
  (w53 h w) (fun _=>False) (fun k=>k=h+1∨k=h+1+1∨(h+3≤k∧k<h+3+7)) (by omega) (fun k hk => .inr (.inr hk))
  (fun front A B hI hab=>hI.apart hwh hab (fun k hk=>by omega) (fun k hk=>by omega)) (fun _ _ hf _=>hf)
  ⟨⟨_,bL,World.ownsRow_nil _ _ _ _⟩,hB0⟩
  (fun z x a' W=>∃ Bx,z≤Bx∧At W [(Bx,0,.int .u64 x.1),(Bx,1,.int .u64 x.2)]∧a'={ tmps:=#[.slice none 0 0,.func (.func gf) #[] lb,.pointer (some ⟨h,0,none⟩),undef,.slice none 0 0,.pointer (some ⟨Bx,0,none⟩),.func (.func gf) #[] lb,.agg #[.int .u64 x.1,.int .u64 x.2],undef,undef,undef,undef,undef],defers := [] })
  (fun z x a' A B hz _ hx hab=>by
    obtain ⟨Bx,h1,h2,h3⟩:=hx
    exact ⟨Bx,h1,⟨hab.cell h2.1 (by dsimp only;omega),hab.cell h2.2.1 (by dsimp only;omega),trivial⟩,h3⟩) ?assign ?body ?done ?stop
 case assign =>
  rintro l2 front x A0 W K _ hap _ hz hK
  unfold ivA
  have hz2:=hap.size
  gi_wp2
  exact hK _ _ (z8 _ _) ⟨W.heap.size,hz2,⟨by simp,by simp,trivial⟩,rfl⟩
 case body =>
  rintro l2 front x a' A0 W hI hap ⟨Bx,hzB,⟨hx0,hx1,_⟩,rfl⟩ hx hlo _
  have hIW:=hI.apart hwh hap (fun k hk=>by omega) (fun k hk=>by omega)
  obtain ⟨v,hv,hrow⟩:=hIW.row
  have hcl:=hv.cell
  have hfl:front.length+1≤100000:=by have h1:=hx.length_le;simp at h1;omega
  have hsz2:=hap.size
  have hm:front.length+1≤maxLen:=by unfold maxLen;omega
  have hm2:(front.length+1)*16≤140737488355328:=by omega
  have hm3:h+3+7≤(W.alloc (.cells #[.int .u64 x.1,.int .u64 x.2] 65)).heap.size:=by simp;omega
  have HI:=qh hI;clear hI hIW
  have HAP:=qh hap;clear hap
  have HS1:=qh hs1;clear hs1
  clear hx
  gi_wp2_with (gi_at_builtin;refine wpListIn_append_own _ rfl _ _ 41 rfl (h+3+7) 65 i0 (.agg #[.int .u64 0,.int .u64 0]) 2 16 Tryz.underlying41 hi hz0 hz1 hz2 rfl (by decide) _ _ _ rfl (hrow.alloc _) ⟨W.heap.size,0,none⟩ 1 1 [.int .u64 x.1,.int .u64 x.2] rfl rfl (z60 _ _ _ _ _ rfl) (by simp [Value.oneCell']) hm hm2 hm3 ?_;intro v' w1 hown' hgrow _;obtain ⟨g',cap',rfl⟩:=ownsRow_succ hown';have hgr:(W.alloc (.cells #[.int .u64 x.1,.int .u64 x.2] 65)).grownBy w1 v.ownBlock:=hgrow;clear hgrow;have HG:=qh hgr;clear hgr;have hv1:Boxed w1 h 41 v:=(hv.alloc _).kept HG.out (zv9 hrow (by omega));have hc1:=hv1.cell;have hf1:=hv1.frozen;clear hv1)
  exact xd3 hwh HI.out HAP.out hlo hv hrow hown' HG.out rfl rfl (fun k hk=>by omega) _ HS1.out
 case done =>
  rintro D W hD hszW hI hK
  obtain ⟨v,hv,hrow⟩:=hI.row
  have hcl:=hv.cell
  obtain ⟨pp,cc,rfl,_⟩:=y8 hrow
  have hDh:h≤D:=by omega
  clear hs1
  gi_wp2
  refine ⟨by simp,.inl ⟨_,_,rfl,run_takeDeferred hK,?_⟩⟩
  refine ⟨_,results_tmp rfl _ _ _,_,rfl,?_,?_⟩
  ·rw [HH.out]
   exact p8 (ownsRow_putObj hrow _ hK rfl) (by omega)
  ·rw [HH.out]
   exact hI.below.trans (belowK_b (w:=w) hwh W D _ _ (by rw [HH.out];exact hDh) hK rfl rfl)
 case stop =>
  rintro D W _ hf _
  exact hf.elim
set_option maxRecDepth 100000 in
theorem yb1 (gf:Nat) (lb:Array Value) (L:List Iv) (c:Nat) (w:World) (hS:wu3 gf lb L c w) (hc:c≤w.heap.size) :
 Calls Tryz.prog 247 #[.func (.func gf) #[] lb] w (z69 L w):=by
 have K:=qh (yp0 gf lb L c w hS hc);clear hS hc
 go_enter Tryz.func247,Tryz.ntmps247
 go_wp2_with (go_at_call 270;refine K.out.mono ?_)
 rintro e w1 ⟨v,rfl,hv,h1⟩
 have HV:=qh hv;have H1:=qh h1;clear hv h1
 go_wp2_with fail
 go_ret
 exact ⟨v,rfl,HV.out,H1.out⟩
end
section
open Go.RowKit
def v19 (s t T:Value) (w:World) (e:Ending) (w':World):Prop:=
 e = .returned (.func (.func 281) #[] #[.pointer (some ⟨w.heap.size,0,none⟩),.pointer (some ⟨w.heap.size+1,0,none⟩),.pointer (some ⟨w.heap.size+1+1,0,none⟩)]) ∧
  w'=((w.alloc (.cells #[s] 42)).alloc (.cells #[t] 42)).alloc (.cells #[T] 302)
set_option maxRecDepth 100000 in
theorem yb2 (p q:Option Addr) (m k cp cq F:Nat) (w:World):Calls Tryz.prog 271 #[.slice p m cp,.slice q k cq,.func (.func F) #[] #[]] w (v19 (.slice p m cp) (.slice q k cq) (.func (.func F) #[] #[]) w):=by
 go_enter Tryz.func271,Tryz.ntmps271
 go_wp2
 go_ret
 exact ⟨rfl,rfl⟩
theorem um0:(0:Int)≤UM:=by decide
set_option maxRecDepth 100000 in
theorem xn5 (p q:Option Addr) (m k cp cq:Nat) (w:World):Calls Tryz.prog 248 #[.slice p m cp,.slice q k cq] w (v19 (.slice p m cp) (.slice q k cq) (.func (.func 272) #[] #[]) w):=by
 have K:=qh (yb2 p q m k cp cq 272 w)
 go_enter Tryz.func248,Tryz.ntmps248
 go_wp2_with (go_at_call 271;refine K.out.mono ?_;rintro e w' ⟨rfl,rfl⟩)
 go_ret
 exact ⟨rfl,rfl⟩
theorem w54 (a b:List Iv) (s t:Value) (w w3:World) (ha:z19 w s a) (hb:z19 w t b) (h3:((w.alloc (.cells #[s] 42)).alloc (.cells #[t] 42)).alloc (.cells #[.func (.func 272) #[] #[]] 302)=w3) :
 wu3 281 #[.pointer (some ⟨w.heap.size,0,none⟩),.pointer (some ⟨w.heap.size+1,0,none⟩),.pointer (some ⟨w.heap.size+1+1,0,none⟩)] (orL a b) (w.heap.size+3) w3∧Below w.heap.size w w3∧w3.heap.size=w.heap.size+3:=by
 subst h3
 have hb3:=y7 (y7 (z8 w (.cells #[s] 42)) (.cells #[t] 42)) (.cells #[.func (.func 272) #[] #[]] 302)
 have b0:=((Boxed.new w 42 s).alloc (.cells #[t] 42)).alloc (.cells #[.func (.func 272) #[] #[]] 302)
 have b1:=(Boxed.new (w.alloc (.cells #[s] 42)) 42 t).alloc (.cells #[.func (.func 272) #[] #[]] 302)
 have b2:=Boxed.new ((w.alloc (.cells #[s] 42)).alloc (.cells #[t] 42)) 302 (.func (.func 272) #[] #[])
 simp only [World.size_alloc] at b1 b2
 refine ⟨⟨?_,enters_of Tryz.func281 (by kernel_rfl) rfl,fun W0 hc hb0 => ?_⟩,hb3,by simp⟩
 ·have h1:=wt3 a b
  have h2:=ha.len
  have h3:=hb.len
  omega
 ·have hp:=x14 4 (by omega) (w.heap.size+3) w.heap.size (w.heap.size+1) (w.heap.size+1+1) s t a b W0 hc (by omega) (zg7.of ha fun k hk=>by omega) (zg7.of hb fun k hk=>by omega)
   ⟨z6 b0.cell hb0,z6 b1.cell hb0,(ha.call hb3).call hb0,(hb.call hb3).call hb0⟩ (z6 b2.cell hb0)
  rw [ww3 um0 fOr rfl ha.good.can hb.good.can ha.good.ok hb.good.ok] at hp
  exact hp
set_option maxRecDepth 100000 in
theorem x16 (a b:List Iv) (s t:Value) (w:World) (ha:z19 w s a) (hb:z19 w t b):Calls Tryz.prog 225 #[s,t] w (z69 (orL a b) w):=by
 obtain ⟨p,cp,rfl,_⟩:=ha.at'.shape
 obtain ⟨q,cq,rfl,_⟩:=hb.at'.shape
 have HS:=qh (fun w3=>w54 a b _ _ w w3 ha hb)
 have K:=qh (xn5 p q a.length b.length cp cq w)
 have KC:=qh yb1
 clear ha hb
 obtain ⟨L,hL⟩:∃ L,orL a b=L:=⟨_,rfl⟩
 rw [hL] at HS ⊢
 clear hL
 go_enter Tryz.func225,Tryz.ntmps225
 go_wp2_with (go_at_call 248;refine K.out.mono ?_;rintro e w3 ⟨rfl,hw⟩;obtain ⟨hS,hb3,hs3⟩:=HS.out _ hw.symm;clear hw;have HSX:=qh (And.intro hS (And.intro hb3 hs3));clear hS hb3 hs3)
 refine (KC.out _ _ _ _ _ HSX.out.1 (by rw [HSX.out.2.2];omega)).mono ?_
 rintro e w1 ⟨v,rfl,hv,h1⟩
 have HV:=qh hv;have H1:=qh h1;clear hv h1
 go_wp2_with fail
 go_ret
 exact ⟨v,rfl,p8 HV.out HSX.out.2.1.size,z7 HSX.out.2.1 H1.out⟩
set_option maxRecDepth 100000 in
theorem xn6 (p q:Option Addr) (m k cp cq:Nat) (w:World):Calls Tryz.prog 285 #[.slice p m cp,.slice q k cq] w (v19 (.slice p m cp) (.slice q k cq) (.func (.func 288) #[] #[]) w):=by
 have K:=qh (yb2 p q m k cp cq 288 w)
 go_enter Tryz.func285,Tryz.ntmps285
 go_wp2_with (go_at_call 271;refine K.out.mono ?_;rintro e w' ⟨rfl,rfl⟩)
 go_ret
 exact ⟨rfl,rfl⟩
theorem w55 (a b:List Iv) (s t:Value) (w w3:World) (ha:z19 w s a) (hb:z19 w t b) (h3:((w.alloc (.cells #[s] 42)).alloc (.cells #[t] 42)).alloc (.cells #[.func (.func 288) #[] #[]] 302)=w3) :
 wu3 281 #[.pointer (some ⟨w.heap.size,0,none⟩),.pointer (some ⟨w.heap.size+1,0,none⟩),.pointer (some ⟨w.heap.size+1+1,0,none⟩)] (zn0 a b) (w.heap.size+3) w3∧Below w.heap.size w w3∧w3.heap.size=w.heap.size+3:=by
 subst h3
 have hb3:=y7 (y7 (z8 w (.cells #[s] 42)) (.cells #[t] 42)) (.cells #[.func (.func 288) #[] #[]] 302)
 have b0:=((Boxed.new w 42 s).alloc (.cells #[t] 42)).alloc (.cells #[.func (.func 288) #[] #[]] 302)
 have b1:=(Boxed.new (w.alloc (.cells #[s] 42)) 42 t).alloc (.cells #[.func (.func 288) #[] #[]] 302)
 have b2:=Boxed.new ((w.alloc (.cells #[s] 42)).alloc (.cells #[t] 42)) 302 (.func (.func 288) #[] #[])
 simp only [World.size_alloc] at b1 b2
 refine ⟨⟨?_,enters_of Tryz.func281 (by kernel_rfl) rfl,fun W0 hc hb0 => ?_⟩,hb3,by simp⟩
 ·have h1:=yl4 a b
  have h2:=ha.len
  have h3:=hb.len
  omega
 ·have hp:=x15 4 (by omega) (w.heap.size+3) w.heap.size (w.heap.size+1) (w.heap.size+1+1) s t a b W0 hc (by omega) (zg7.of ha fun k hk=>by omega) (zg7.of hb fun k hk=>by omega)
   ⟨z6 b0.cell hb0,z6 b1.cell hb0,(ha.call hb3).call hb0,(hb.call hb3).call hb0⟩ (z6 b2.cell hb0)
  rw [ww3 um0 yh2 rfl ha.good.can hb.good.can ha.good.ok hb.good.ok] at hp
  exact hp
set_option maxRecDepth 100000 in
theorem x17 (a b:List Iv) (s t:Value) (w:World) (ha:z19 w s a) (hb:z19 w t b):Calls Tryz.prog 280 #[s,t] w (z69 (zn0 a b) w):=by
 obtain ⟨p,cp,rfl,_⟩:=ha.at'.shape
 obtain ⟨q,cq,rfl,_⟩:=hb.at'.shape
 have HS:=qh (fun w3=>w55 a b _ _ w w3 ha hb)
 have K:=qh (xn6 p q a.length b.length cp cq w)
 have KC:=qh yb1
 clear ha hb
 obtain ⟨L,hL⟩:∃ L,zn0 a b=L:=⟨_,rfl⟩
 rw [hL] at HS ⊢
 clear hL
 go_enter Tryz.func280,Tryz.ntmps280
 go_wp2_with (go_at_call 285;refine K.out.mono ?_;rintro e w3 ⟨rfl,hw⟩;obtain ⟨hS,hb3,hs3⟩:=HS.out _ hw.symm;clear hw;have HSX:=qh (And.intro hS (And.intro hb3 hs3));clear hS hb3 hs3)
 refine (KC.out _ _ _ _ _ HSX.out.1 (by rw [HSX.out.2.2];omega)).mono ?_
 rintro e w1 ⟨v,rfl,hv,h1⟩
 have HV:=qh hv;have H1:=qh h1;clear hv h1
 go_wp2_with fail
 go_ret
 exact ⟨v,rfl,p8 HV.out HSX.out.2.1.size,z7 HSX.out.2.1 H1.out⟩
theorem not_row (w:World) (x y:Int) (t:TypeId) (k:Nat) (hk:k=w.heap.size) (h:t6 [(x,y)]):z19 (w.alloc (.cells #[.int .u64 x,.int .u64 y] t)) (.slice (some ⟨k,0,none⟩) 1 1) [(x,y)]:=by
 subst hk
 exact ⟨⟨_,_,rfl,by simp,fun _=>⟨w.heap.size,0,rfl,fun i p hp=>by
  match i,hp with
  | 0,hp=>simp at hp;subst hp;simp
  | i+1,hp=>simp at hp⟩⟩,h,by simp⟩
set_option maxRecDepth 100000 in
theorem ym0 (a:List Iv) (s:Value) (x y:Int) (w:World) (ha:z19 w s a) (hw:t6 [(x,y)]):Calls Tryz.prog 268 #[s,.agg #[.int .u64 x,.int .u64 y]] w (z69 (zn0 [(x,y)] a) w):=by
 obtain ⟨p,cp,rfl,_⟩:=ha.at'.shape
 have HA:=qh ha
 have HW:=qh hw
 have K:=qh x17
 clear ha hw
 go_enter Tryz.func268,Tryz.ntmps268
 go_wp2_with fail
 have hb:=y7 (z8 w (.cells #[.int .u64 x,.int .u64 y] 65)) (.cells #[.int .u64 x,.int .u64 y] 65)
 have HB:=qh hb;clear hb
 refine (K.out [(x,y)] a _ _ _ (not_row _ x y _ _ (by simp) HW.out) (HA.out.call HB.out)).mono ?_
 rintro e w1 ⟨v,rfl,hv,h1⟩
 have HV:=qh hv;have H1:=qh h1;clear hv h1
 go_wp2_with fail
 go_ret
 exact ⟨v,rfl,p8 HV.out HB.out.size,z7 HB.out H1.out⟩
end
section
open Go.RowKit Go.ChangeShapes Go.WideShapes
def xu9 (a:Int) (b:Bool) (w:World) (e:Ending) (w':World):Prop:=e = .returned (.tuple #[.int .u64 a,.bool b])∧w=w'
theorem xn7 (x:Int) (w:World) (h0:0<x) (h:x≤18446744073709551615) :
 Calls Tryz.prog 223 #[.int .u64 x] w (xu9 (x - 1) true w):=by
 go_enter Tryz.func223,Tryz.ntmps223
 go_wp2
 go_ret2
 exact ⟨rfl,rfl⟩
theorem xd4 (w:World) :
 Calls Tryz.prog 223 #[.int .u64 0] w (xu9 0 false w):=by
 go_enter Tryz.func223,Tryz.ntmps223
 go_wp2
 go_ret2
 exact ⟨rfl,rfl⟩
def z71 (a b:Int):Int:=if a<b then -1 else if b<a then 1 else 0
def v98 (a b:Int):Int:=if a=0 then b else a
def v20 (a b c d:Int):Int:=v98 (z71 a c) (z71 b d)
theorem w56 (x:Int) (w:World):Calls Tryz.prog 129 #[.int .u64 x] w fun e w'=>e = .returned (.bool false)∧w'=w:=by
 go_enter Tryz.func129,Tryz.ntmps129
 go_wp2_with fail
 go_ret
 exact ⟨by simp,rfl⟩
theorem w57 (a b:Int) (w:World):Calls Tryz.prog 76 #[.int .u64 a,.int .u64 b] w fun e w'=>e = .returned (.int .i64 (z71 a b))∧w'=w:=by
 have K:=qh w56
 have hlt:a<b∨¬ a<b:=Decidable.em _
 rcases hlt with h | h
 ·have HC:=qh (show z71 a b = -1 by unfold z71;rw [if_pos h])
  go_enter Tryz.func76,Tryz.ntmps76
  go_wp2_with fail
  refine (K.out a w).mono ?_
  rintro e w' ⟨rfl,rfl⟩
  go_wp2_with fail
  refine (K.out b w').mono ?_
  rintro e w' ⟨rfl,rfl⟩
  go_wp2_with fail
  go_ret
  exact ⟨by rw [HC.out];rfl,rfl⟩
 ·by_cases h2:b<a
  ·have HC:=qh (show z71 a b=1 by unfold z71;rw [if_neg h,if_pos h2])
   go_enter Tryz.func76,Tryz.ntmps76
   go_wp2_with fail
   refine (K.out a w).mono ?_
   rintro e w' ⟨rfl,rfl⟩
   go_wp2_with fail
   refine (K.out b w').mono ?_
   rintro e w' ⟨rfl,rfl⟩
   go_wp2_with fail
   go_ret
   exact ⟨by rw [HC.out];rfl,rfl⟩
  ·have HC:=qh (show z71 a b=0 by unfold z71;rw [if_neg h,if_neg h2])
   go_enter Tryz.func76,Tryz.ntmps76
   go_wp2_with fail
   refine (K.out a w).mono ?_
   rintro e w' ⟨rfl,rfl⟩
   go_wp2_with fail
   refine (K.out b w').mono ?_
   rintro e w' ⟨rfl,rfl⟩
   go_wp2_with fail
   go_ret
   exact ⟨by rw [HC.out];rfl,rfl⟩
theorem w58 {a:Int}:z71 a a=0:=by unfold z71;simp
end
section
open Go.RowKit Go.Shelf
attribute [local go_sem] Oper.semAt_some
def cV (n r:Int):Int:=v20 0 n (r / 18446744073709551616) (r % 18446744073709551616)
end
end Go.Proofs.YtchndljcahjldaaGreatDoor
