/- Knowledge with one fragment for each piece: Refine of package atoms. -/
import Derived.Test.YtchndljcahjldaaGreatDoorMZSpread
namespace Go.Proofs.YtchndljcahjldaaGreatDoor
section
open Go.RowKit
variable {w W1 W:World} {n g B b:Nat} {F:t8}
theorem wu8:(Tryz.prog.info? 23).map (fun i=>(i.zero,i.size,i.bytes))=some (some (.slice none 0 0),1,24):=by kernel_rfl
theorem wu9 {β:Type} (x:β) (n:Nat):List.replicate n x=(List.range n).map (fun _=>x):=by rw [List.map_const',List.length_range]
theorem wl0 (hrow:W1.ownsRow w.heap.size 23 1 (.slice (some ⟨w.heap.size,0,none⟩) n n) n (List.replicate n (.slice none 0 0))) (hb:Below w.heap.size w W1):z17 w w.heap.size n (fun _ => []) (fun _=>True) W1:=
 ⟨fun _ => .slice none 0 0,fun _ => [],⟨by rw [← wu9];exact hrow,fun _ _=>World.ownsRow_nil _ _ _ _,fun i j b _ _ h=>(nomatch h),fun i _ h=>(nomatch h),fun i _ e he=>(nomatch he),hb⟩,fun _ _=>rfl,
  ⟨fun _=>False,fun _ h=>h.elim,fun _ _=>trivial⟩⟩
theorem z17.row {Vs:Nat→List (v6)} {Pr:World→Prop} (h:z17 w g n Vs Pr W) (hb:Below W.heap.size W W1) {m c:Nat} {t:TypeId} {s:Nat} {xs:List Value} (hrow:W1.ownsRow B t s (.slice (some ⟨b,0,none⟩) m c) m xs) (hB:W.heap.size≤b) :
 z17 w g n Vs (fun W'=>Pr W'∧W'.ownsRow B t s (.slice (some ⟨b,0,none⟩) m c) m xs) W1:=by
 obtain ⟨sv,T,h1,h2,h3⟩:=h
 have hlt:=(hrow.lt b rfl).2
 have hav:=h1.av_lt
 refine ⟨sv,T,h1.below hb,h2,(o3 h3 hb).and ⟨fun k=>k=b,fun k hk=>⟨by omega,fun ha => ?_⟩,fun W' hap=>z75 hap hrow fun j hj hn=>hn (Option.some.inj hj).symm⟩⟩
 have:=(hav k ha).2
 omega
theorem v28 {p:Iv} (c0:W.cell? ⟨b,0,none⟩=some (.int .u64 p.1)) (c1:W.cell? ⟨b,1,none⟩=some (.int .u64 p.2)) (f:∀ i,W.frozen? ⟨b,i,none⟩=false) (B:Nat) (hB:B≤b) :
 v7 W (.slice (some ⟨b,0,none⟩) 1 1) [p]∧i7 W B (.slice (some ⟨b,0,none⟩) 1 1) 1:=by
 refine ⟨⟨_,_,rfl,by simp,fun _=>⟨b,0,rfl,fun i x hx => ?_⟩⟩,⟨_,_,rfl,by unfold maxLen;omega,fun _=>⟨b,0,rfl,hB,fun i hi => ?_⟩⟩⟩
 ·match i,hx with
  | 0,hx =>
    obtain rfl:p=x:=by simpa using hx
    exact ⟨c0,c1⟩
 ·obtain rfl:i=0:=by omega
  exact ⟨⟨⟨_,c0⟩,f _⟩,⟨_,c1⟩,f _⟩
theorem w66 (hrow:W.ownsRow B 46 2 (.slice (some ⟨g,0,none⟩) F.length F.length) F.length (List.replicate (F.length*2) (.slice none 0 0))) :
 ClK g (List.replicate F.length (.slice none 0 0,.slice none 0 0)) (List.replicate F.length (.slice none 0 0,.slice none 0 0)) F 0 W:=by
 refine ⟨List.length_replicate,fun i f x hf hx => ?_⟩
 have hi:=(List.getElem?_eq_some_iff.1 hx).1
 have he:f=(.slice none 0 0,.slice none 0 0):=by
  rw [List.getElem?_replicate] at hf
  rw [if_pos hi] at hf
  exact (Option.some.inj hf).symm
 subst he
 refine ⟨⟨?_,?_⟩,⟨hrow.frozenAt _,hrow.frozenAt _⟩,fun h=>absurd h (Nat.not_lt_zero _),fun _=>hf⟩
 ·rw [hrow.cellAt _ (by omega),List.getElem?_replicate,if_pos (by omega)]
 ·rw [hrow.cellAt _ (by omega),List.getElem?_replicate,if_pos (by omega)]
theorem xo5 (hF:x9 F) (hd:xg2 F):∀ q,q<(r7 F).length→(((z28 (r7 F) F).filter (zm2 q)).map (·.1)).length≤12∧zc7 (((z28 (r7 F) F).filter (zm2 q)).map (·.1))≤300∧zc8 (((z28 (r7 F) F).filter (zm2 q)).map (·.1))≤405:=fun q hq=>by
 rw [yn1 (y84 hF) (show (r7 F)[q]? = some (r7 F)[q] by simp [hq]) hF]
 exact hd _
theorem xe6 (hF:x9 F) (h:flatK F ≠ []):1≤(r7 F).length:=by
 obtain ⟨s,hs⟩:=List.exists_mem_of_ne_nil _ h
 obtain ⟨x,hx,hs⟩:=List.mem_flatMap.1 hs
 have hg:=(hF x hx).1
 have hb:=hg.all s hs
 have hle:=z13 _ hg.can s hs
 obtain ⟨p,hp,_⟩:=x49 hF (t:=s.1) hb.1.1 hb.1.2 (List.any_eq_true.2 ⟨x,hx,List.any_eq_true.2 ⟨s,hs,by unfold inI;simp;omega⟩⟩)
 grind
set_option maxRecDepth 100000 in
set_option maxHeartbeats 8000000 in
theorem xe7 (F:t8) (v:Value) (w:World) (hg:zz9 w) (hv:z08 w v F) (hF:x9 F) (hs:midI F) (hd:xg2 F):Calls Tryz.prog 43 #[v] w (fun e w'=>xm1 (s5 F) w e w'∧∃ g n,e = .returned (.slice (some ⟨g,0,none⟩) n n)):=by
 obtain ⟨i0,hi',hz0,hz1,hz2⟩:=info_parts wu8
 obtain ⟨j0,hj',hy0,hy1,hy2⟩:=info_parts zw9
 obtain ⟨p,cap,rfl⟩:=hv.m.shape
 have K1:=qh (xo0 F _ w hv hF hs)
 have hpl:=y91 F
 have hfl:=hs.2
 have HRF:Hid (s5 F=(r7 F).map fun p=>([p],atK F p.1)):=qh rfl
 have HP:=qh (y84 hF)
 have HNE:=qh (xe6 hF)
 have H64:Hid (∀ x ∈ s5 F,m9 x.1):=qh fun x hx=>(z11 hF x hx).1.all
 have HJ:=qh (And.intro (xw6 (P:=r7 F) hF) (xo5 hF hd))
 have HJL:Hid ((z28 (r7 F) F).length≤50000):=qh (by rw [xf5];omega)
 have HLK:Hid (∀ (q:Nat) p,(r7 F)[q]? = some p→knN (r7 F).length (z28 (r7 F) F) (q+(r7 F).length)=atK F p.1):=qh fun q p hq=>xp2 hF hq
 have HX:=qh (And.intro hv (And.intro hF hs))
 have HG:=qh hg
 generalize s5 F=RF at *
 generalize r7 F=P at *
 have hPl:P.length≤2001:=by omega
 clear hv hF hs hd hg hpl hfl
 go_enter Tryz.func43,Tryz.ntmps43
 go_wp2_with fail
 refine K1.out.mono ?_
 rintro e w1 ⟨s,rfl,hos,h⟩
 obtain ⟨ps,cps,rfl,_⟩:=y8 hos
 have HIV:=qh (hos.ivs (by omega));clear hos
 have H1:=qh h;clear h
 obtain ⟨n2,hn2⟩:∃ n2,2*P.length=n2:=⟨_,rfl⟩
 obtain ⟨w2,hmk,hown,hgr⟩:=run_makeSlice_full (P:=Tryz.prog) w1 w1.heap.size 112 23 i0 (.slice none 0 0) 1 Tryz.underlying112 hi' hz0 hz1 .i64 .i64 n2 (by omega) (by rw [hz2];omega) (by unfold maxLen;omega) (Nat.le_refl _)
 have h2:Below w1.heap.size w1 w2:=(y5.of_grown (q:=fun _=>False) hgr (fun r e=>by cases e)).below (Nat.le_refl _) fun _ _ h=>h
 rw [show (Value.slice none 0 0).cells=#[.slice none 0 0] from rfl,Nat.mul_one,toList_madeCells_one] at hown
 have hT:=wl0 hown h2
 have K2:=qh (xo8 F P (.slice p F.length cap) (.slice ps P.length cps) hT hn2.symm (HX.out.1.call H1.out) HX.out.2.1 HX.out.2.2 HIV.out HP.out (by omega) HNE.out)
 have en:(2:Int)*(P.length:Int)=(n2:Int):=by omega
 have hn8:n2≤5000:=by omega
 have ew:IntKind.i64.wrap (n2:Int)=(n2:Int):=IntWalk.i64_in _ (by omega)
 obtain ⟨g,hgg⟩:∃ g,w1.heap.size=g:=⟨_,rfl⟩
 rw [hgg] at hmk K2
 have HGG:=qh hgg
 clear hown hgr hT h2 hgg
 go_wp2_with fail
 refine K2.out.mono ?_
 rintro e w3 ⟨rfl,hT⟩
 obtain ⟨w4,hmk2,hown,hgr⟩:=run_makeSlice_full (P:=Tryz.prog) w3 w3.heap.size 23 46 j0 (.agg #[.slice none 0 0,.slice none 0 0]) 2 Tryz.underlying23 hj' hy0 hy1 .i64 .i64 P.length (by omega) (by rw [hy2];omega) (by unfold maxLen;omega) (Nat.le_refl _)
 have h4:Below w3.heap.size w3 w4:=(y5.of_grown (q:=fun _=>False) hgr (fun r e=>by cases e)).below (Nat.le_refl _) fun _ _ h=>h
 rw [show (Value.agg #[.slice none 0 0,.slice none 0 0]).cells=#[.slice none 0 0,.slice none 0 0] from rfl,xd7] at hown
 have hgl:=(hown.lt _ rfl).2
 have hT4:=hT.row h4 hown (Nat.le_refl _)
 have K3:=qh (xp1 hT4 (HG.out.here H1.out) hn2.symm (by omega) HJ.out.1 HJL.out HJ.out.2)
 obtain ⟨gr,hgrr⟩:∃ gr,w3.heap.size=gr:=⟨_,rfl⟩
 rw [hgrr] at hmk2 K3 hgl
 have HGR:=qh (And.intro (show w1.heap.size≤gr from hgrr ▸ hT.low.size) hgl)
 clear hown hgr hT h4 hT4 hgrr hgl
 go_wp2_with fail
 refine K3.out.mono ?_
 rintro e w5 ⟨gk,rfl,⟨h5,⟨_,hrow⟩⟩,hg1,hg2,hel⟩
 have hRl:RF.length=P.length:=by rw [HRF.out,List.length_map]
 have hrn:=hrow.lt gr rfl
 rw [← hRl] at hrow
 have HCL:=qh (w66 hrow)
 have HSN:=qh (y10 hrow)
 have HEL:=qh hel
 have H5:=qh h5
 have HGK:=qh (show gr<gk∧gr<w5.heap.size∧w1.heap.size≤gr from ⟨by have:=HGR.out.2;omega,hrn.2,HGR.out.1⟩)
 have HRL:=qh hRl
 clear hrow hel hg1 hg2 hRl hrn h5
 go_wp2_with fail
 go_loopw [25] (fun i wr=>∃ (k:Nat) (fs':List (Value × Value)),i = .int .i64 k∧k≤P.length∧ClK gr (List.replicate RF.length (.slice none 0 0,.slice none 0 0)) fs' RF k wr∧Below w1.heap.size w1 wr∧y5 (fun k=>k=gr) w5 wr) (fun i _=>P.length - (intOf i).toNat)
 case atStart=>exact ⟨0,_,rfl,Nat.zero_le _,HCL.out,H5.out,y5.refl _ _⟩
 case round =>
  clear HCL
  obtain ⟨k,fs',rfl,hk,hcs,hb,hap⟩:=hrel
  by_cases hlt:k<P.length
  ·obtain ⟨⟨x,y⟩,hx⟩:∃ x,P[k]? = some x:=⟨P[k],by simp [hlt]⟩
   obtain ⟨b,o,cap',e,c0,c1⟩:=HIV.out.elem hx
   cases e
   have t0:=z6 c0 hb
   have t1:=z6 c1 hb
   obtain ⟨u,hc,hvc,hsw⟩:=HEL.out k hlt
   rw [HLK.out k _ hx] at hvc hsw
   have hne:∀ j,gk≤j→¬ j=gr:=fun j hj=>by have:=HGK.out.1;omega
   have cu:=hap.cell hc (hne gk (Nat.le_refl _))
   have hvc':=zb5 hvc hsw.numW hap fun j h1 _=>hne j h1
   have hsw':=(hsw.ap hap fun j h1 _=>hne j h1).low (show gr+1≤gk from HGK.out.1)
   obtain ⟨pu,cpu,rfl⟩:=hvc.m.shape
   obtain ⟨f,hf⟩:∃ f,fs'[k]? = some f:=⟨fs'[k]'(by rw [hcs.len,HRL.out];exact hlt),by simp [hcs.len,HRL.out,hlt]⟩
   have hxr:RF[k]? = some ([(x,y)],atK F x):=by rw [HRF.out,List.getElem?_map,hx];rfl
   obtain ⟨⟨d0,d1⟩,⟨g0,g1⟩,_,_⟩:=hcs.el k _ _ hf hxr
   obtain ⟨wE,hwE⟩:∃ wE,wr.alloc (.cells #[.int .u64 x,.int .u64 y] 65)=wE:=⟨_,rfl⟩
   obtain ⟨ib,hib⟩:∃ ib,wr.heap.size=ib:=⟨_,rfl⟩
   have hbE:Below wr.heap.size wr wE:=hwE ▸ z8 wr _
   have hgl:gr<wr.heap.size:=Nat.lt_of_lt_of_le HGK.out.2.1 hap.size
   have z0:wE.cell? ⟨ib,0,none⟩=some (.int .u64 x):=by rw [← hwE,← hib];simp
   have z1:wE.cell? ⟨ib,1,none⟩=some (.int .u64 y):=by rw [← hwE,← hib];simp
   have zf:∀ i,wE.frozen? ⟨ib,i,none⟩=false:=fun i=>by rw [← hwE,← hib];exact y30 _ _ _ _
   obtain ⟨o1,o2⟩:=v28 (p:=(x,y)) z0 z1 zf (gr+1) (by omega)
   have HPUT:=qh ((hcs.call hbE).put hf hxr (s := .slice (some ⟨ib,0,none⟩) 1 1) (u := .slice pu _ cpu) ⟨o1,o2,a7 _ _ _ (Nat.le_refl _),hvc'.call hbE,hsw'.call hbE⟩)
   have hapE:y5 (fun k=>k=gr) w5 wE:=hap.trans (y5.of_below (fun k=>k=gr) hbE)
   have d0':=z6 d0 hbE
   have d1':=z6 d1 hbE
   have g0':=x6 g0 hgl hbE
   have g1':=x6 g1 hgl hbE
   have HAE:=qh (And.intro hapE (z7 hb hbE))
   have i1:(0:Int)≤(k:Int):=by omega
   have i2:(k:Int)<(P.length:Int):=by omega
   clear hcs hf hxr hx hvc hsw hvc' hsw' hc hap hb o1 o2 zf z0 z1 d0 d1 g0 g1 hapE hbE hgl hne c0 c1
   go_wp2_with fail
   go_roundw
   case rel=>exact ⟨k+1,_,by go_num,by omega,HPUT.out,(HAE.out.2.setCell (p:=⟨gr,k*2,none⟩) HGK.out.2.2 _).setCell (p:=⟨gr,k*2+1,none⟩) HGK.out.2.2 _,HAE.out.1.trans ((z36 _ _ _ _).trans (z36 _ _ _ _))⟩
   case measure=>simp [intOf];omega
  ·obtain rfl:k=P.length:=by omega
   have HC:=qh hcs
   have HB:=qh hb
   have HAP:=qh hap
   clear hcs hb hap
   go_wp2_with fail
   go_ret
   have hRl:=HRL.out
   have hgr:gr<wr.heap.size:=Nat.lt_of_lt_of_le HGK.out.2.1 HAP.out.size
   have h0:=H1.out.size
   have hc:=HC.out
   have hsn:=HSN.out
   rw [← hRl] at hc ⊢
   rw [hRl] at hsn
   obtain ⟨s1,s2⟩:=hc.done (w:=w) (q:=some ⟨gr,0,none⟩) (cq:=RF.length) (fun _=>⟨rfl,Nat.le_trans h0 HGK.out.2.2,hgr⟩) (hRl ▸ hsn) (by omega) H64.out
   exact ⟨⟨_,rfl,s1,s2,z7 H1.out HB.out⟩,_,_,rfl⟩
theorem xo6 (F:t8) (v:Value) (w:World) (hg:zz9 w) (hv:z08 w v F) (hF:x9 F) (hs:midI F) (hd:xg2 F):Calls Tryz.prog 43 #[v] w (xm1 (s5 F) w):=(xe7 F v w hg hv hF hs hd).mono fun _ _ h=>h.1
set_option maxRecDepth 100000 in
set_option maxHeartbeats 4000000 in
theorem xe8 (n r X:Nat) (w:World) (hr:r≤n) (hn:n≤1000000) (hc:∀ (k:Nat) (W:World),k<n→Below w.heap.size w W→Calls Tryz.prog 85 #[.int .i64 k,.pointer (some ⟨X,0,none⟩)] W (q8 (decide (r≤k)) W)) :
 Calls Tryz.prog 84 #[.int .i64 n,.func (.func 85) #[] #[.pointer (some ⟨X,0,none⟩)]] w (wv5 r w):=by
 have HC:=qh hc;clear hc
 go_enter Tryz.func84,Tryz.ntmps84
 go_wp2_with fail
 go_loopw [5,6] (fun vi vj wr=>∃ i j:Nat,vi = .int .i64 i∧vj = .int .i64 j∧i≤r∧r≤j∧j≤n∧Below w.heap.size w wr) (fun vi vj _=>(intOf vj - intOf vi).toNat)
 case atStart=>exact ⟨0,n,rfl,rfl,Nat.zero_le _,hr,Nat.le_refl _,Below.refl _ _⟩
 case round =>
  obtain ⟨i,j,rfl,rfl,h1,h2,h3,hb⟩:=hrel
  by_cases hlt:i<j
  ·obtain ⟨s,hs⟩:∃ s,i+j=s:=⟨_,rfl⟩
   have e1:(i:Int)+(j:Int)=(s:Int):=by omega
   obtain ⟨h,hh⟩:∃ h,s / 2=h:=⟨_,rfl⟩
   have K:=qh (HC.out h wr (by omega) hb)
   have HB:=qh hb
   have i1:(i:Int)<(j:Int):=by omega
   have s1:s≤2000000:=by omega
   have e2:(s:Int) / 2=(h:Int):=by omega
   have hb1:h≤1000000:=by omega
   clear hb
   go_wp2_with fail
   refine K.out.mono ?_
   rintro e w1 ⟨rfl,hw⟩
   have HW:=qh (z7 HB.out hw);clear hw
   by_cases hrh:r≤h
   ·rw [decide_eq_true hrh]
    go_wp2_with fail
    go_roundw
    case rel=>exact ⟨i,h,rfl,rfl,h1,hrh,by omega,HW.out⟩
    case measure=>simp [intOf] <;> omega
   ·rw [decide_eq_false hrh]
    go_wp2_with fail
    go_roundw
    case rel=>exact ⟨h+1,j,by go_num,rfl,by omega,h2,h3,HW.out⟩
    case measure=>simp [intOf] <;> omega
  ·obtain rfl:i=r:=by omega
   have HB:=qh hb;clear hb
   have i1:¬ (i:Int)<(j:Int):=by omega
   go_wp2_with fail
   go_ret
   exact ⟨rfl,HB.out⟩
end
end Go.Proofs.YtchndljcahjldaaGreatDoor
