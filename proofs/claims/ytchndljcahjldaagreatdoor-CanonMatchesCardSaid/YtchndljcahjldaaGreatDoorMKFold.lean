/- The closure of package scope that unites the two vectors on top of a stack. -/
import Derived.Test.YtchndljcahjldaaGreatDoorMQSoft
namespace Go.Proofs.YtchndljcahjldaaGreatDoor
section
open Go.RowKit
variable {h g cap:Nat} {es:List (Value × v6)} {W:World}
theorem wo4 {n:Nat} {W2:World} {v:Value} (hs:StS h g cap es W) (hc:W2.cell? ⟨h+1,0,none⟩=some v) (u:Value):(W2.setCell ⟨g,n,none⟩ u).cell? ⟨h+1,0,none⟩=some v:=by
 rw [World.cell?_setCell_other _ _ _ _ (by have:=hs.gne;intro e;injection e with e1 e2;omega)]
 exact hc
set_option maxRecDepth 100000 in
set_option maxHeartbeats 4000000 in
theorem wa4 {a b:Value} {A B:v6} (hs:StS h g cap ((b,B) :: (a,A) :: es) W) (hh:h+8≤W.heap.size) (hel:es.length≤100) (gA:s8 A) (gB:s8 B) (sA:n7 1000 1000 A) (sB:n7 1000 1000 B) :
 Calls Tryz.prog 181 #[.pointer (some ⟨h+1,0,none⟩)] W (fun e W'=>(∃ v,e = .returned v)∧∃ u,StS h g cap ((u,opV orL A B) :: es) W'∧y5 (fun k=>k=h+1∨k=g) W W'):=by
 have vA:=(hs.el (a,A) (by simp)).now
 have vB:=(hs.el (b,B) (by simp)).now
 obtain ⟨pa,ca,ea⟩:=vA.m.shape
 obtain ⟨pb,cb,eb⟩:=vB.m.shape
 dsimp only at ea eb vA vB
 subst ea eb
 have KU:=qh (fun W' (hb:Below W.heap.size W W')=>xj0 A B _ _ W' (vA.call hb) (vB.call hb) gA gB sA sB)
 obtain ⟨n2,hn2⟩:∃ n2,es.length=n2:=⟨_,rfl⟩
 have k0:=hs.box.cell
 have kf:=hs.box.frozen
 have hrow:=hs.row
 have hlen:((.slice pb B.length cb,B) :: (.slice pa A.length ca,A) :: es).length=n2+2:=by simp [← hn2]
 have hcap:n2+2≤cap:=by
  rcases hrow.2 with ⟨h0,_⟩ | ⟨g',cap',cur,h1,_,_,h4,_⟩
  ·cases h0
  ·cases h1;rw [hlen] at h4;exact h4
 have r0:W.cell? ⟨g,n2,none⟩=some (.slice pa A.length ca):=by rw [hrow.cellAt n2 (by rw [hlen];omega)];simp [← hn2]
 have r1:W.cell? ⟨g,n2+1,none⟩=some (.slice pb B.length cb):=by rw [hrow.cellAt (n2+1) (by rw [hlen];omega)];simp [← hn2]
 have rf:W.frozen? ⟨g,n2,none⟩=false:=hrow.frozenAt _
 rw [hlen] at k0
 obtain ⟨n,hn⟩:∃ n,n2+2=n:=⟨_,rfl⟩
 obtain ⟨n1,hn1⟩:∃ n1,n2+1=n1:=⟨_,rfl⟩
 rw [hn] at k0
 rw [hn1] at r1
 have HC:=qh (And.intro k0 (And.intro kf (And.intro r0 (And.intro r1 rf))))
 have HS:=qh hs
 have HH:=qh hh
 have HN:=qh (And.intro hn2 hn1)
 have e1:IntKind.i64.wrap ((n:Int) - 1)=(n1:Int):=(IntWalk.i64_in _ (by omega)).trans (by omega)
 have e2:IntKind.i64.wrap ((n1:Int) - 1)=(n2:Int):=(IntWalk.i64_in _ (by omega)).trans (by omega)
 have i1:(0:Int)≤(n1:Int):=by omega
 have i2:(n1:Int)<(n:Int):=by omega
 have i3:(0:Int)≤(n2:Int):=by omega
 have i4:(n2:Int)<(n:Int):=by omega
 have i5:(n1:Int)≤(cap:Int):=by omega
 clear vA vB gA gB sA sB hs hh hrow hlen hcap hn hn1 hn2 hel
 go_enter Tryz.func181,Tryz.ntmps181
 go_wp2_with fail
 refine Code.wp_mono (Q:=fun e a' w'=>match e with | .normal=>∃ (w2:World) (pu:Option Addr) (cu:Nat),(z30 w2 (.slice pu (opV orL A B).length cu) (opV orL A B)∧z05 w2 W.heap.size (.slice pu (opV orL A B).length cu) (nsV (opV orL A B))∧Below W.heap.size W w2) ∧
  a'={ tmps:=#[.pointer (some ⟨h+1,0,none⟩),.int .i64 n1,.slice (some ⟨g,0,none⟩) n cap,.int .i64 n,.int .i64 n1,.slice (some ⟨g,0,none⟩) n cap,.int .i64 n1,.int .i64 n2,.slice (some ⟨g,0,none⟩) n cap,.int .i64 n1,.int .i64 n2,.pointer (some ⟨g,n2,none⟩),.slice pa A.length ca,.slice (some ⟨g,0,none⟩) n cap,.int .i64 n1,.pointer (some ⟨g,n1,none⟩),.slice pb B.length cb,.slice pu (opV orL A B).length cu,.pointer (some ⟨g,n2,none⟩),undef,undef,undef],defers := [] }∧w'=w2.setCell ⟨g,n2,none⟩ (.slice pu (opV orL A B).length cu) | _=>False) ?tail ?reg
 case reg =>
  clear HN
  go_region_with (first
   | (go_at_call 182;refine (KU.out _ ?_).mono ?_;(first | exact Below.refl _ _ | exact (Below.refl _ _).drew | exact (Below.refl _ _).drew.drew | exact (Below.refl _ _).drew.drew.drew | exact (Below.refl _ _).drew.drew.drew.drew);rintro e w2 ⟨u,rfl,hu,hsu,h3⟩;obtain ⟨pu,cu,rfl⟩:=hu.m.shape;have hb3:Below W.heap.size W w2:=(by first | exact h3 | exact z7 (Below.refl _ _).drew h3 | exact z7 (Below.refl _ _).drew.drew h3 | exact z7 (Below.refl _ _).drew.drew.drew h3);have HU:=qh (show z30 w2 _ _∧z05 w2 W.heap.size _ _∧Below W.heap.size W w2 from ⟨hu,hsu,hb3⟩);have v0:=z6 HC.out.1 hb3;have v1:=z6 HC.out.2.2.1 hb3;have v2:=z6 HC.out.2.2.2.1 hb3;have v3:=x6 HC.out.2.2.2.2 HS.out.lt.1 hb3;have v4:=x6 HC.out.2.1 HS.out.lt.2 hb3;clear hu hsu h3 hb3))
  all_goals exact ⟨_,_,_,HU.out,rfl,rfl⟩
 case tail =>
  intro e a' w' hR
  cases e <;> first | exact hR.elim | skip
  obtain ⟨w2,pu,cu,HU,rfl,rfl⟩:=hR
  have HT:=qh (w27 HS.out HU.2.2 HH.out HU.1 HU.2.1)
  have z0:=wo4 HS.out (n:=n2) (z6 HC.out.1 HU.2.2) (.slice pu (opV orL A B).length cu)
  have z1:(w2.setCell ⟨g,n2,none⟩ (.slice pu (opV orL A B).length cu)).frozen? ⟨h+1,0,none⟩=false:=(World.frozen?_setCell _ _ _ _).trans (x6 HC.out.2.1 HS.out.lt.2 HU.2.2)
  clear HU
  go_wp2_with fail
  go_end0
  refine ⟨⟨_,rfl⟩,.slice pu (opV orL A B).length cu,?_⟩
  have ht:=HT.out
  rw [HN.out.1,HN.out.2] at ht
  exact ht
end
section
open Go.RowKit Go.Shelf Go.ChangeShapes Go.WideShapes
variable {w A B W W0:World} {h n D:Nat} {front:List (Nat × (Value × Value) × List Iv × v6)} {Vs:List (v6)} {c:Int}
theorem zj7 {P:Program} {a:Addr} {m:Mode} (fn:Fn) (first captured:Array Value):(store a (.func fn first captured) m).run P w=stored P w a (.func fn first captured) m:=run_store P w a _ m rfl
attribute [local go_sem] Oper.semAt_some zj7
theorem xq6:(Tryz.prog.info? 44).map (fun i=>(i.zero,i.size,i.bytes))=some (some (.slice none 0 0),1,24):=by kernel_rfl
structure AtI (h:Nat) (w:World) (front:List (Nat × (Value × Value) × List Iv × v6)) (T:Nat→Prop) (W:World):Prop where
 st:∃ g cap es,StS h g cap es W∧StK (front.map (·.2.2.2)) (es.map (·.2))∧es.length=1+pcK front.length∧¬ T g
 cnt:Boxed W (h+3) 164 (.int .u64 front.length)
 fb:Boxed W (h+2) 1 (.func (.func 181) #[] #[.pointer (some ⟨h+1,0,none⟩)])
 f1:¬ T (h+1)
 f3:¬ T (h+3)
 low:Below h w W
theorem AtI.ext {T T':Nat→Prop} (hI:AtI h w front T A) (hx:Ext T T' A B):AtI h w front T' B:=by
 obtain ⟨g,cap,es,h1,h2,h3,h4⟩:=hI.st
 have hb:=(y5.of_below (fun _=>False) hx.1)
 have no:∀ k,k<A.heap.size→¬ T k→¬ T' k:=fun k hk hn ht=>by
  rcases (hx.2 k ht).1 with hh | hh
  ·exact hn hh
  ·omega
 exact ⟨⟨g,cap,es,h1.below hx.1,h2,h3,no g h1.lt.1 h4⟩,hb.boxed hI.cnt id,hb.boxed hI.fb id,no _ h1.lt.2 hI.f1,no _ hI.cnt.lt hI.f3,hI.low.trans (hx.1.mono (by have:=h1.lt.2;omega))⟩
theorem AtI.put {T:Nat→Prop} (hI:AtI h w front T A) (hab:y5 (fun k=>k=h+7) A B):AtI h w front T B:=by
 obtain ⟨g,cap,es,h1,h2,h3,h4⟩:=hI.st
 exact ⟨⟨g,cap,es,h1.mv hab (fun k _ e => .inr (.inr e)),h2,h3,h4⟩,hab.boxed hI.cnt (by omega),hab.boxed hI.fb (by omega),hI.f1,hI.f3,hI.low.trans (hab.below (by have:=h1.lt.2;omega) fun k hk=>by omega)⟩
theorem wa5 (h:n<13):pcK n≤3:=by
 have:∀ n,n<13→pcK n≤3:=by decide
 grind
theorem wa6 {w4:World} (hh:w.heap.size=h) (hw:((((w.alloc (.cells #[.slice none 0 0] 44)).alloc (.cells #[.slice (some ⟨h,0,none⟩) 1 1] 54)).alloc (.cells #[.func (.func 181) #[] #[.pointer (some ⟨h+1,0,none⟩)]] 1)).alloc (.cells #[.int .u64 0] 164))=w4) :
 StS h h 1 [(.slice none 0 0,[])] w4∧Boxed w4 (h+3) 164 (.int .u64 0)∧Boxed w4 (h+2) 1 (.func (.func 181) #[] #[.pointer (some ⟨h+1,0,none⟩)])∧Below w.heap.size w w4∧w4.heap.size=h+4:=by
 subst hh
 have b1:=z8 w (.cells #[.slice none 0 0] 44)
 have x1:=heap_alloc_new w (.cells #[.slice none 0 0] 44)
 obtain ⟨wa,hwa⟩:∃ wa,w.alloc (.cells #[.slice none 0 0] 44)=wa:=⟨_,rfl⟩
 have sa:wa.heap.size=w.heap.size+1:=by rw [← hwa];simp
 rw [hwa] at hw b1 x1
 have b2:=z8 wa (.cells #[.slice (some ⟨w.heap.size,0,none⟩) 1 1] 54)
 have x2:=Boxed.new wa 54 (.slice (some ⟨w.heap.size,0,none⟩) 1 1)
 obtain ⟨wb,hwb⟩:∃ wb,wa.alloc (.cells #[.slice (some ⟨w.heap.size,0,none⟩) 1 1] 54)=wb:=⟨_,rfl⟩
 have sb:wb.heap.size=w.heap.size+2:=by rw [← hwb];simp;omega
 rw [hwb] at hw b2 x2
 have b3:=z8 wb (.cells #[.func (.func 181) #[] #[.pointer (some ⟨w.heap.size+1,0,none⟩)]] 1)
 have x3:=Boxed.new wb 1 (.func (.func 181) #[] #[.pointer (some ⟨w.heap.size+1,0,none⟩)])
 obtain ⟨wc,hwc⟩:∃ wc,wb.alloc (.cells #[.func (.func 181) #[] #[.pointer (some ⟨w.heap.size+1,0,none⟩)]] 1)=wc:=⟨_,rfl⟩
 have sc:wc.heap.size=w.heap.size+3:=by rw [← hwc];simp;omega
 rw [hwc] at hw b3 x3
 have b4:=z8 wc (.cells #[.int .u64 0] 164)
 have x4:=Boxed.new wc 164 (.int .u64 0)
 have sd:w4.heap.size=w.heap.size+4:=by rw [← hw];simp;omega
 rw [hw] at b4 x4
 have k2:=y5.of_below (fun _=>False) (z7 (z7 b2 b3) b4)
 have k3:=y5.of_below (fun _=>False) (z7 b3 b4)
 have k4:=y5.of_below (fun _=>False) b4
 rw [sa] at x2;rw [sb] at x3;rw [sc] at x4
 have hold:∀ (P:World→Prop),(∀ W',P W')→j9 w4 (avK w.heap.size w.heap.size) P:=fun P hP=>⟨fun _=>False,fun k hk=>hk.elim,fun W' _=>hP W'⟩
 refine ⟨⟨k3.boxed x2 id,⟨by simp,.inr ⟨w.heap.size,1,#[.slice none 0 0],rfl,Nat.le_refl _,k2.obj x1 id,Nat.le_refl _,(by show 1≤maxLen;decide),by simp,by simp⟩⟩,.inl rfl,fun e he => ?_,fun e he => ?_⟩,x4,k4.boxed x3 id,z7 (z7 (z7 b1 b2) b3) b4,sd⟩
 ·obtain rfl:=List.mem_singleton.1 he
  exact hold _ fun W'=>x97 W'
 ·obtain rfl:e=(.slice none 0 0,[]):=by simpa using he.symm
  exact hold _ fun W'=>⟨none,0,rfl,Nat.zero_le _,fun hne=>absurd rfl hne⟩
theorem xy9 {T:Nat→Prop} {w1:World} {g cap g' cap':Nat} {es:List (Value × v6)} {tmp:Obj} {u:Value} {V:v6}
 (hI:AtI h w front T W) (hst:StS h g cap es W) (hgT:¬ T g) (hv:z30 w u V) (hw:w.heap.size=h) (hT:∀ k,T k→k<W.heap.size∧k≠D∧k≠D+1) (hW8:h+8≤W.heap.size) (hD:D=h+6)
 (hown':w1.ownsRow h 44 1 (.slice (some ⟨g',0,none⟩) (es.length+1) cap') (es.length+1) ((es.map (·.1)).reverse ++ [u])) (hgrow:(W.alloc tmp).grownBy w1 (some g))
 (hat:(Value.slice (some ⟨g',0,none⟩) (es.length+1) cap').ownBlock=(Value.slice (some ⟨g,0,none⟩) es.length cap).ownBlock∨(Value.slice (some ⟨g',0,none⟩) (es.length+1) cap').ownBlock=some (W.alloc tmp).heap.size) (hne:es ≠ []) (hn:front.length=n) (n1:Nat) :
 (w1.cell? ⟨h+1,0,none⟩=some (.slice (some ⟨g,0,none⟩) es.length cap)∧w1.frozen? ⟨h+1,0,none⟩=false∧(w1.setCell ⟨h+1,0,none⟩ (.slice (some ⟨g',0,none⟩) (es.length+1) cap')).cell? ⟨h+1+1+1,0,none⟩=some (.int .u64 n)∧(w1.setCell ⟨h+1,0,none⟩ (.slice (some ⟨g',0,none⟩) (es.length+1) cap')).frozen? ⟨h+1+1+1,0,none⟩=false) ∧
 ∀ W2,W2=(w1.setCell ⟨h+1,0,none⟩ (.slice (some ⟨g',0,none⟩) (es.length+1) cap')).setCell ⟨h+1+1+1,0,none⟩ (.int .u64 n1) →
  StS h g' cap' ((u,V) :: es) W2∧Boxed W2 (h+3) 164 (.int .u64 n1)∧Boxed W2 (h+2) 1 (.func (.func 181) #[] #[.pointer (some ⟨h+1,0,none⟩)])∧¬ T g' ∧
  y5 (fun k=>¬ (T k∨k=D∨k=D+1)) W W2∧Below h w W2∧h+8≤W2.heap.size:=by
 have hg':g'=g∨g'=W.heap.size+1:=by
  rcases hat with e | e
  ·exact .inl (by simpa [Value.ownBlock] using e)
  ·exact .inr (by simpa [Value.ownBlock] using e)
 have hlt:=hst.lt
 have hgn:=hst.gne
 have kA:y5 (fun k=>k=g) W w1:=(y5.alloc _ W tmp).trans (y5.of_grown hgrow fun r e=>by cases e;rfl)
 have b1:=kA.boxed hst.box (by omega)
 have b3:=kA.boxed hI.cnt (by omega)
 have b2:=kA.boxed hI.fb (by omega)
 obtain ⟨v',hv'⟩:∃ v',Value.slice (some ⟨g',0,none⟩) (es.length+1) cap'=v':=⟨_,rfl⟩
 have kB:y5 (fun k=>k=h+1) w1 (w1.setCell ⟨h+1,0,none⟩ v'):=y5.set _ _ rfl
 have kC:y5 (fun k=>k=h+3) (w1.setCell ⟨h+1,0,none⟩ v') ((w1.setCell ⟨h+1,0,none⟩ v').setCell ⟨h+1+1+1,0,none⟩ (.int .u64 n1)):=y5.set _ _ rfl
 have b3':=kB.boxed b3 (by omega)
 rw [hn] at b3'
 refine ⟨⟨b1.cell,b1.frozen,by rw [hv'];exact b3'.cell,by rw [hv'];exact b3'.frozen⟩,fun W2 e2 => ?_⟩
 rw [hv'] at e2
 rw [← e2] at kC
 have kW:y5 (fun k=>k=g∨k=h+1∨k=h+3) W W2:=((kA.mono fun k _ e => .inl e).trans (kB.mono fun k _ e => .inr (.inl e))).trans (kC.mono fun k _ e => .inr (.inr e))
 have hlow:Below h w W2:=hI.low.trans (kW.below (by omega) fun k hk e=>by omega)
 have hq:∀ k,k<W.heap.size→(k=g∨k=h+1∨k=h+3)→avK h g k:=fun k _ hk=>by
  rcases hk with e | e | e
  ·exact .inr (.inr (.inr (.inr e)))
  ·exact .inl e
  ·exact .inr (.inl e)
 have hav:∀ k,avK h g' k→avK h g k∨W.heap.size≤k:=fun k hk=>by
  rcases hk with e | e | e | e | e
  ·exact .inl (.inl e)
  ·exact .inl (.inr (.inl e))
  ·exact .inl (.inr (.inr (.inl e)))
  ·exact .inl (.inr (.inr (.inr (.inl e))))
  ·rcases hg' with e' | e'
   ·exact .inl (.inr (.inr (.inr (.inr (by omega)))))
   ·exact .inr (by omega)
 refine ⟨⟨?_,?_,?_,fun e he => ?_,fun e he => ?_⟩,?_,?_,?_,?_,hlow,Nat.le_trans hW8 kW.size⟩
 ·change Boxed W2 (h+1) _ (.slice (some ⟨g',0,none⟩) (es.length+1) cap')
  rw [hv']
  exact kC.boxed (b1.set v') (by omega)
 ·exact y63 (q:=fun k=>k=h+1∨k=h+3) ((kB.mono fun k _ e => .inl e).trans (kC.mono fun k _ e => .inr e)) (by simpa using hown') (by omega)
 ·omega
 ·rcases List.mem_cons.1 he with rfl | he
  ·exact wr7 hv (hw.symm ▸ hlow) fun k hk=>by rcases hk with e | e | e | e | e <;> omega
  ·exact (hst.el e he).mv kW hq hav
 ·cases es with
  | nil=>exact absurd rfl hne
  | cons x r =>
    rw [List.getLast?_cons_cons] at he
    exact (hst.bot e he).mv kW hq hav
 ·rw [e2]
  exact b3'.set _
 ·exact kC.boxed (kB.boxed b2 (by omega)) (by omega)
 ·intro ht
  rcases hg' with e | e
  ·exact hgT (e ▸ ht)
  ·have:=(hT _ ht).1;omega
 ·refine kW.mono fun k _ hk hn => ?_
  have hn:T k∨k=D∨k=D+1:=hn
  rcases hk with rfl | rfl | rfl
  ·rcases hn with hn | hn
   ·exact hgT hn
   ·omega
  ·rcases hn with hn | hn
   ·exact hI.f1 hn
   ·omega
  ·rcases hn with hn | hn
   ·exact hI.f3 hn
   ·omega
structure AtL (h:Nat) (w:World) (Vs:List (v6)) (len:Nat) (c:Int) (T:Nat→Prop) (D:Nat) (W0 W:World):Prop where
 st:∃ g cap es,StS h g cap es W∧StK Vs (es.map (·.2))∧es.length=len∧¬ T g
 cnt:Boxed W (h+3) 164 (.int .u64 c)
 fb:Boxed W (h+2) 1 (.func (.func 181) #[] #[.pointer (some ⟨h+1,0,none⟩)])
 ap:y5 (fun k=>¬ (T k∨k=D∨k=D+1)) W0 W
 low:Below h w W
 sz:h+8≤W.heap.size
theorem AtL.below {len:Nat} {T:Nat→Prop} {W':World} (hL:AtL h w Vs len c T D W0 W) (hb:Below W.heap.size W W'):AtL h w Vs len c T D W0 W':=by
 obtain ⟨g,cap,es,h1,h2,h3,h4⟩:=hL.st
 have k:=y5.of_below (fun _=>False) hb
 exact ⟨⟨g,cap,es,h1.below hb,h2,h3,h4⟩,k.boxed hL.cnt id,k.boxed hL.fb id,hL.ap.trans (y5.of_below _ hb),hL.low.trans (hb.mono (by have:=hL.sz;omega)),Nat.le_trans hL.sz hb.size⟩
theorem xq7 {m:Nat} {T:Nat→Prop} (hL:AtL h w Vs (m+2) c T D W0 W) (hD:D=h+6) (h1:¬ T (h+1)) (hVs:zc7 Vs≤900∧zc8 Vs≤900) (hm:m≤100) :
 Calls Tryz.prog 181 #[.pointer (some ⟨h+1,0,none⟩)] W (fun e W'=>(∃ v,e = .returned v)∧AtL h w Vs (m+1) c T D W0 W'):=by
 obtain ⟨g,cap,es,hst,hsk,hel,hg⟩:=hL.st
 match es,hel with
 | (b,B) :: (a,A) :: es,hel =>
   have hle:es.length=m:=by simp at hel;omega
   obtain ⟨⟨gA,gB⟩,sA,sB⟩:=StK.two (A:=A) (B:=B) hsk hVs
   refine (wa4 hst hL.sz (by omega) gA gB sA sB).mono ?_
   rintro e W' ⟨hv,u,hst',hap⟩
   have hgn:=hst.gne
   refine ⟨hv,⟨g,cap,_,hst',hsk.fold,by simp [hle],hg⟩,hap.boxed hL.cnt (by omega),hap.boxed hL.fb (by omega),hL.ap.trans (hap.mono fun k _ hk hn => ?_),hL.low.trans (hap.below (by have:=hL.sz;omega) fun k hk e=>by omega),Nat.le_trans hL.sz hap.size⟩
   have hn:T k∨k=D∨k=D+1:=hn
   rcases hk with rfl | rfl
   ·rcases hn with hn | hn
    ·exact h1 hn
    ·omega
   ·rcases hn with hn | hn
    ·exact hg hn
    ·omega
def xq8 (b:Nat) (W:World):Nat:=match W.cell? ⟨b,0,none⟩ with
 | some (.slice _ n _)=>n
 | _=>0
theorem y00 {b c:Nat} {p:Option Addr} (h:W.cell? ⟨b,0,none⟩=some (.slice p n c)):xq8 b W=n:=by unfold xq8;rw [h]
set_option maxRecDepth 100000 in
set_option maxHeartbeats 8000000 in
theorem wo7 (F:t8) (v:Value) (t:Int) (w:World) (hg:zz9 w) (hv:z08 w v F) (hF:x9 F) (hs:wz7 F):Calls Tryz.prog 135 #[v,.int .u64 t] w (wq4 (atK F t) w):=by
 refine (callsIn_wide (n:=5)).1 ?_
 obtain ⟨i0,hi',hz0,hz1,hz2⟩:=info_parts xq6
 have hlen:=hv.m.len
 obtain ⟨p,cs,rfl⟩:=hv.m.shape
 obtain ⟨fs,hfs⟩:=hv.m.named
 obtain ⟨h,hh⟩:∃ h,w.heap.size=h:=⟨_,rfl⟩
 have HV:=qh hfs;clear hfs hv
 have HF:=qh (And.intro hF hs);clear hF hs
 have HH:=qh hh;clear hh
 have HD:=qh hg;clear hg
 have KN:=qh w20
 have KT:=qh wy0
 refine callsIn_of_wp_marks Tryz.func135 rfl trivial ?_ rfl
 simp only [Tryz.ntmps135,List.size_toArray,List.length_cons,List.length_nil,Nat.reduceAdd,Nat.reduceSub,Array.replicate_succ,Array.replicate_zero,List.push_toArray,List.append_toArray,List.nil_append,List.cons_append]
 gi_wp2
 rw [HH.out]
 obtain ⟨w4,hw4⟩:∃ w4,((((w.alloc (.cells #[.slice none 0 0] 44)).alloc (.cells #[.slice (some ⟨h,0,none⟩) 1 1] 54)).alloc (.cells #[.func (.func 181) #[] #[.pointer (some ⟨h+1,0,none⟩)]] 1)).alloc (.cells #[.int .u64 0] 164))=w4:=⟨_,rfl⟩
 rw [hw4]
 have H4:=qh (wa6 HH.out hw4);clear hw4
 refine ⟨trivial,?_⟩
 refine (callsIn_wide.2 (KN.out _ _ _ _ _)).mono ?_
 rintro en w5 ⟨rfl,hw5⟩
 rw [H4.out.2.2.2.2]
 have hb5:Below w4.heap.size w4 w5:=hw5 ▸ z7 (z8 _ _) (z8 _ _)
 have hs4:=H4.out.2.2.2.2
 have hs5:w5.heap.size=h+6:=by rw [hw5];simp only [World.size_alloc];omega
 have c0:w5.cell? ⟨h+4,0,none⟩=some (.slice p F.length cs):=by rw [← hs4,hw5];exact z6 (by simp) (z8 _ _)
 have c1:w5.cell? ⟨h+4+1,0,none⟩=some (.int .u64 t):=by rw [hw5,World.cell?_alloc_at _ _ _ _ (by simp only [World.size_alloc];omega)];rfl
 clear hw5
 have k5:=y5.of_below (fun _=>False) hb5
 have hB5:Below h w w5:=HH.out ▸ z7 H4.out.2.2.2.1 hb5
 have hI0:AtI h w [] (fun k=>k<h∨k=h+4∨k=h+4+1) w5:=
  ⟨⟨h,1,_,H4.out.1.below hb5,StK.start,rfl,by omega⟩,k5.boxed H4.out.2.1 id,k5.boxed H4.out.2.2.1 id,by omega,by omega,hB5⟩
 have HI0:=qh hI0
 clear hb5 k5 hs4 hI0
 have hwh:h≤w.heap.size:=Nat.le_of_eq HH.out.symm
 gi_wp2
 refine xs1 (n:=5) (by omega) (gf:=94) (lb:=#[.pointer (some ⟨h+4,0,none⟩),.pointer (some ⟨h+4+1,0,none⟩)]) (encs:=wr3) (L:=z52 t 0 fs F) (keep:=fun k=>k<h∨k=h+4∨k=h+4+1)
  rfl (enters_of Tryz.func94 (by kernel_rfl) rfl) (fun _=>rfl) (fun k hk=>by omega)
  (fun W hsW hb=>by
    have hbw:Below w.heap.size w W:=by rw [HH.out];exact hB5.trans (hb.mono (by omega))
    exact w21 _ (h+4) (h+4+1) _ t fs F w W _ (fun k hk=>by rw [HH.out] at hk;exact .inl hk) (.inr (.inl rfl)) (.inr (.inr rfl)) hbw HV.out hlen HF.out.1 (z6 c0 hb) (z6 c1 hb))
  (AtI h w) (fun _=>False)
  (fun front T T' A B hI hx=>hI.ext hx) (fun front T A B hI hab=>hI.put (hab.mono fun k _ hk=>by omega)) (fun A B hf _=>hf) HI0.out
  (fun x a' W=>∃ b,h+8≤b∧W.cell? ⟨b,0,none⟩=some (slv x.2.1.1)∧W.cell? ⟨b,1,none⟩=some (slv x.2.1.2)∧a'={ tmps:=#[.slice p F.length cs,.int .u64 t,undef,undef,.slice none 0 0,.pointer (some ⟨h+1,0,none⟩),.pointer (some ⟨h+1+1,0,none⟩),.pointer (some ⟨h+1+1+1,0,none⟩),undef,.pointer (some ⟨b,0,none⟩),.slice (some ⟨h,0,none⟩) 1 1,.func (.func 181) #[] #[.pointer (some ⟨h+1,0,none⟩)],.slice p F.length cs,.int .u64 t,.func (.func 94) #[] #[.pointer (some ⟨h+4,0,none⟩),.pointer (some ⟨h+4+1,0,none⟩)],.int .i64 x.1,.agg #[slv x.2.1.1,slv x.2.1.2],undef,undef,undef,undef,undef,undef,undef,undef,undef,undef,undef,undef,undef,undef,undef,undef,undef,undef,undef,undef,undef,undef],defers := [] })
  (fun x a' A B ⟨b,hb,q0,q1,hx⟩ hab=>⟨b,hb,hab.cell q0 (by show ¬ b=_;omega),hab.cell q1 (by show ¬ b=_;omega),hx⟩) ?assign ?body ?done ?stop
 case assign =>
  rintro l2 front ⟨i,⟨f1,f2⟩,x⟩ T W K _ hsW hK
  unfold wr3
  dsimp only at hK ⊢
  obtain ⟨p1,n1,d1,e1⟩:=xl4 f1
  obtain ⟨p2,n2,d2,e2⟩:=xl4 f2
  rw [e1,e2] at hK ⊢
  gi_wp2
  exact hK _ _ (z8 W _) ⟨W.heap.size,by omega,by simp,by simp,by simp⟩
 case body =>
  rintro l2 front ⟨i,⟨f1,f2⟩,⟨I,V⟩⟩ a' T W hI hT ⟨b,hbb,q0,q1,rfl⟩ hx hs
  have hm:(i,(f1,f2),(I,V)) ∈ z52 t 0 fs F:=hx.subset (by simp)
  obtain ⟨k,_,hk1,hk2⟩:=xt2 _ _ _ _ hm
  have hn11:front.length<13:=by
   have h1:=hx.length_le
   have h2:=yz0 (t:=t) 0 fs F
   have h3:=HF.out.2.1
   simp at h1;omega
  have hsm:zc7 (front.map (·.2.2.2) ++ [V])≤900∧zc8 (front.map (·.2.2.2) ++ [V])≤900:=by
   have h1:=xt3 HF.out.2 hx
   rw [List.map_append] at h1
   exact h1
  dsimp only at hk1 hk2 q0 q1 ⊢
  have hfr:=HV.out.el k _ _ hk1 hk2
  obtain ⟨q,dq,e2⟩:=hfr.vec.m.shape
  dsimp only at e2
  subst e2
  have HVV:=qh hfr.vec
  have hxm:=List.mem_of_getElem? hk2
  have HGV:=qh (HF.out.1 _ hxm).2
  have HSM:=qh hsm
  obtain ⟨pz,nz,dz,e1⟩:=xl4 f1
  rw [e1] at q0 ⊢
  simp only [show slv (.slice q V.length dq) = .slice q V.length dq from rfl] at q1 ⊢
  obtain ⟨g,cap,es,hst,hsk,hel,hgT⟩:=hI.st
  have hcl:=hst.box.cell
  have hcn:W.cell? ⟨h+1+1+1,0,none⟩=some (.int .u64 front.length):=hI.cnt.cell
  have hW8:h+8≤W.heap.size:=by omega
  have hes:es.length≤4:=by have:=wa5 hn11;omega
  have hm1:es.length+1≤maxLen:=by unfold maxLen;omega
  have hm2:(es.length+1)*24≤140737488355328:=by omega
  have hm3:h≤(W.alloc (.cells #[.slice q V.length dq] 44)).heap.size:=by simp;omega
  have HNE:Hid (es ≠ []):=qh fun e=>by rw [e] at hel;simp at hel;omega
  have HI:=qh (And.intro hI (And.intro hst (And.intro hsk (And.intro hel hgT))))
  have HT:=qh hT
  have HX:=qh hx
  have HS5:=qh hs5
  have hrow:=hst.row
  obtain ⟨n,hn⟩:∃ n,front.length=n:=⟨_,rfl⟩
  obtain ⟨n1,hn1⟩:∃ n1,n+1=n1:=⟨_,rfl⟩
  have e0:IntKind.u64.wrap ((n:Int)+1)=(n1:Int):=(zx2 (a:=n1) (by omega) ▸ (by congr 1;omega))
  rw [hn] at hcn
  have HN:=qh (And.intro hn (And.intro hn1 (show n<13 by omega)))
  clear hsm hI hT hx hs5 hst hsk hel hgT hfr hk1 hk2 hxm hm e1 hn hn1 hn11
  gi_wp2_with (gi_at_builtin;refine wpListIn_append_own_at _ rfl _ _ 54 rfl h 44 i0 (.slice none 0 0) 1 24 Tryz.underlying54 hi' hz0 hz1 hz2 rfl (by decide) _ _ _ rfl (hrow.alloc _) ⟨W.heap.size,0,none⟩ 1 1 [.slice q V.length dq] rfl rfl (cell_one_new _ _ _) (by simp [Value.oneCell']) hm1 hm2 hm3 ?_;intro v' w1 hown' hgrow _ hat;obtain ⟨g',cap',rfl⟩:=ownsRow_succ hown';have HP:=qh (xy9 HI.out.1 HI.out.2.1 HI.out.2.2.2.2 HVV.out HH.out HT.out hW8 HS5.out hown' hgrow hat HNE.out HN.out.1 n1);clear hown' hgrow hat;have z0:=HP.out.1.1;have z1:=HP.out.1.2.1;have z2:=HP.out.1.2.2.1;have z3:=HP.out.1.2.2.2)
  obtain ⟨W2,hW2⟩:∃ W2,((w1.setCell ⟨h+1,0,none⟩ (.slice (some ⟨g',0,none⟩) (es.length+1) cap')).setCell ⟨h+1+1+1,0,none⟩ (.int .u64 n1))=W2:=⟨_,rfl⟩
  rw [hW2]
  obtain ⟨p1,p2,p3,p4,p5,p6,p7⟩:=HP.out.2 W2 hW2.symm
  have hpc:=v78 HN.out.2.2
  have hpp:=wz6 HN.out.2.2
  have hpl:=wa5 HN.out.2.2
  have hn1:=HN.out.2.1
  rw [hn1] at hpc hpp
  have hL2:AtL h w (front.map (·.2.2.2) ++ [V]) (2+pcK n) n1 T w5.heap.size W W2:=
   ⟨⟨g',cap',_,p1,HI.out.2.2.1.push HGV.out,by have:=HI.out.2.2.2.1;rw [HN.out.1] at this;simp [this];omega,p4⟩,p2,p3,p5,p6,p7⟩
  have hd2:=HD.out W2 (HH.out.symm ▸ p6)
  have HL2:=qh hL2
  obtain ⟨z,hz⟩:∃ z,tzK n1=z:=⟨_,rfl⟩
  obtain ⟨pn,hpn⟩:∃ pn,pcK n=pn:=⟨_,rfl⟩
  obtain ⟨pn1,hpn1⟩:∃ pn1,pcK n1=pn1:=⟨_,rfl⟩
  have K:=qh (hz ▸ KT.out n1 (by omega) (by have:=HN.out.2.2;omega) W2 hd2)
  rw [hpn] at HL2 hpc hpl
  rw [hpn1] at hpc hpp
  rw [hz] at hpc
  have HPC:=qh (And.intro hpn1 hn1)
  clear z0 z1 z2 z3 hW2 HP p1 p2 p3 p4 p5 p6 p7 hL2 hd2 hpn hpn1 hz q0 q1 hcl hcn hrow HVV e0 hm1 hm2 hm3 hn1
  refine ⟨trivial,?_⟩
  refine (CallsIn.inRound l2 (callsIn_wide.2 K.out)).mono ?_
  rintro en W3 ⟨rfl,hb3⟩
  have HL3:=qh (HL2.out.below hb3)
  clear hb3 HL2
  gi_wp2
  gi_loopw [26] (fun i wr=>∃ j:Nat,i = .int .i64 j∧j≤z∧AtL h w (front.map (·.2.2.2) ++ [V]) (2+pn - j) n1 T w5.heap.size W wr) (fun i _=>z - (intOf i).toNat)
  case atStart=>exact ⟨0,rfl,Nat.zero_le _,HL3.out⟩
  case round =>
   obtain ⟨j,rfl,hj,hLj⟩:=hrel
   by_cases hlt:j<z
   ·obtain ⟨m,hm⟩:∃ m,2+pn - j=m+2:=⟨pn - j,by omega⟩
    have hm':2+pn - (j+1)=m+1:=by omega
    rw [hm] at hLj
    have hfb:wr.cell? ⟨h+1+1,0,none⟩=some (.func (.func 181) #[] #[.pointer (some ⟨h+1,0,none⟩)]):=hLj.fb.cell
    have KF:=qh (xq7 hLj HS5.out HI.out.1.f1 HSM.out (by omega))
    have i1:(j:Int)<(z:Int):=by omega
    have HM:=qh (And.intro hm' hlt)
    clear hLj hm hm'
    gi_wp2
    refine ⟨trivial,?_⟩
    refine (CallsIn.inRound l2 (callsIn_wide.2 KF.out)).mono ?_
    rintro en w' ⟨⟨v,rfl⟩,hL'⟩
    have HL':=qh hL'
    clear hL' hfb
    gi_wp2
    go_roundw
    case rel=>exact ⟨j+1,by go_num,HM.out.2,by rw [HM.out.1];exact HL'.out⟩
    case measure=>have:=HM.out.2;simp [intOf];omega
   ·obtain rfl:j=z:=by omega
    have HLz:=qh hLj
    clear hLj
    gi_wp2
    obtain ⟨g2,cap2,es2,k1,k2,k3,k4⟩:=HLz.out.st
    have e1:(front ++ [(i,((f1,.slice q V.length dq):Value × Value),(I,V))]).length=n1:=by rw [List.length_append,HN.out.1];exact HPC.out.2
    exact ⟨HLz.out.ap,⟨g2,cap2,es2,k1,by rw [List.map_append];exact k2,by rw [e1,HPC.out.1,k3];omega,k4⟩,by rw [e1];exact HLz.out.cnt,HLz.out.fb,HI.out.1.f1,HI.out.1.f3,HLz.out.low⟩
 case done =>
  rintro D T W hD hszW hI hK
  obtain ⟨g,cap,es,hst,hsk,hel,_⟩:=hI.st
  rw [hs5] at hD
  subst hD
  have hVl:=xt3 HF.out.2 (t:=t) (fs:=fs) (List.prefix_refl _)
  have hL:AtL h w ((z52 t 0 fs F).map (·.2.2.2)) es.length ((z52 t 0 fs F).length:Int) (fun _=>False) (h+6) W W:=
   ⟨⟨g,cap,es,hst,hsk,rfl,id⟩,hI.cnt,hI.fb,y5.refl _ _,hI.low,by omega⟩
  have HL:=qh hL
  have HK:=qh hK
  have HVL:=qh hVl
  have h1e:1≤es.length:=by omega
  have hle:es.length≤100:=by
   have h1:=yz0 (t:=t) 0 fs F
   have h2:=HF.out.2.1
   by_cases h12:(z52 t 0 fs F).length<13
   ·have:=wa5 h12;omega
   ·have e:(z52 t 0 fs F).length=13:=by omega
    rw [e] at hel
    have:pcK 13=3:=rfl
    omega
  clear hI hst hsk hK hL hVl hel
  have HS5:=qh hs5
  gi_wp2
  gi_loopw [31] (fun _ wr=>∃ len,1≤len∧len≤100∧AtL h w ((z52 t 0 fs F).map (·.2.2.2)) len ((z52 t 0 fs F).length:Int) (fun _=>False) (h+6) W wr) (fun _ wr=>xq8 (h+1) wr)
  case atStart=>exact ⟨es.length,h1e,hle,HL.out⟩
  case round =>
   obtain ⟨len,hl1,hl2,hLj⟩:=hrel
   obtain ⟨g2,cap2,es2,k1,k2,k3,_⟩:=hLj.st
   have hbx:=k1.box.cell
   rw [k3] at hbx
   have HM0:=qh (y00 hbx)
   by_cases hlt:1<len
   ·obtain ⟨m,hm⟩:∃ m,len=m+2:=⟨len - 2,by omega⟩
    have hLm:=hLj
    rw [hm] at hLm
    have hfb:wr.cell? ⟨h+1+1,0,none⟩=some (.func (.func 181) #[] #[.pointer (some ⟨h+1,0,none⟩)]):=hLj.fb.cell
    have KF:=qh (xq7 hLm rfl id HVL.out (by omega))
    have i1:(1:Int)<(len:Int):=by omega
    have HMM:=qh hm
    clear hLj hLm hm k1 k2 k3
    gi_wp2
    refine ⟨trivial,?_⟩
    refine (callsIn_wide.2 KF.out).mono ?_
    rintro en w' ⟨⟨v,rfl⟩,hL'⟩
    have HL':=qh hL'
    clear hL' hfb hbx
    gi_wp2
    go_roundw
    case rel=>exact ⟨m+1,by omega,by have:=HMM.out;omega,HL'.out⟩
    case measure =>
     obtain ⟨g3,cap3,es3,j1,_,j3,_⟩:=HL'.out.st
     have hb3:=j1.box.cell
     rw [j3] at hb3
     have h1:=y00 hb3
     have h2:=HM0.out
     have h3:=HMM.out
     omega
   ·obtain rfl:len=1:=by omega
    match es2,k3,k1,k2 with
    | [(u,V)],_,k1,k2 =>
      have hh:=k1.el (u,V) (by simp)
      have hh2:=k1.bot (u,V) rfl
      obtain ⟨pu,cu,eu⟩:=hh.now.m.shape
      dsimp only at eu
      subst eu
      have r0:wr.cell? ⟨g2,0,none⟩=some (.slice pu V.length cu):=by rw [k1.row.cellAt 0 (by simp)];rfl
      have hK2:wr.heap[h+6]? = some (.deferred (some [])):=hLj.ap.obj HK.out (fun hn=>hn (.inr (.inl rfl)))
      have hput:y5 (fun k=>k=h+6) wr (wr.putObj (h+6) (.deferred none)):=y5.put _ _ rfl
      have hq:∀ k,k<wr.heap.size→k=h+6→avK h g2 k:=fun k _ e => .inr (.inr (.inl e))
      have H1:=qh (hh.mv hput hq (fun k hk => .inl hk)).now
      have H2:=qh (hh2.mv hput hq (fun k hk => .inl hk)).now
      have HE:=qh (StK.end HV.out.len HF.out.1 k2)
      have HB:=qh (hLj.low.trans (belowK_b (w:=w) hwh wr (h+6) _ (.deferred none) (by rw [HH.out];omega) hK2 rfl rfl))
      have HK2:=qh hK2
      have i2:¬ ((1:Int)<((1:Nat):Int)):=by omega
      clear hLj k1 k2 hh hh2 hput hq hK2
      gi_wp2
      refine ⟨by simp,.inl ⟨_,_,rfl,run_takeDeferred HK2.out,?_⟩⟩
      refine ⟨_,results_tmp rfl _ _ _,_,rfl,?_,?_,?_⟩
      ·rw [← HE.out];exact H1.out
      ·rw [← HE.out,HH.out];exact H2.out
      ·rw [HH.out];exact HB.out
 case stop =>
  rintro D W _ hf _
  exact hf.elim
end
section
open Go.RowKit
def frC (fs:List (Value × Value)):List Value:=fs.flatMap fun f => [f.1,f.2]
theorem yw9:∀ fs:List (Value × Value),(frC fs).length=fs.length*2
 | []=>rfl
 | f :: fs=>by
   have:=yw9 fs
   unfold frC at *
   rw [List.flatMap_cons,List.length_append,this];simp;omega
theorem xi4:∀ (fs:List (Value × Value)) (i:Nat) (f:Value × Value),fs[i]? = some f→(frC fs)[i*2]? = some f.1∧(frC fs)[i*2+1]? = some f.2
 | [],i,f,h=>by simp at h
 | x :: fs,0,f,h=>by
   obtain rfl:x=f:=by simpa using h
   exact ⟨rfl,rfl⟩
 | x :: fs,i+1,f,h=>by
   have:=xi4 fs i f (by simpa using h)
   have hc:∀ j,(frC (x :: fs))[j+2]? = (frC fs)[j]? := fun j=>by
    unfold frC
    rw [List.flatMap_cons,List.getElem?_append_right (by simp)]
    simp
   refine ⟨?_,?_⟩
   ·rw [show (i+1)*2=i*2+2 from by omega,hc];exact this.1
   ·rw [show (i+1)*2+1=(i*2+1)+2 from by omega,hc];exact this.2
theorem zw9:(Tryz.prog.info? 46).map (fun i=>(i.zero,i.size,i.bytes))=some (some (.agg #[.slice none 0 0,.slice none 0 0]),2,48):=by kernel_rfl
section
variable {q:Nat→Prop} {w w':World} {B:Nat}
theorem z05.ap {v:Value} {ns:List Nat} (h:z05 w B v ns) (hap:y5 q w w') (hq:∀ k,B≤k→k<w.heap.size→¬ q k):z05 w' B v ns:=(h.numW.away (Nat.le_refl _) hap hq).soft
theorem i7.ap {v:Value} {n:Nat} (h:i7 w B v n) (hap:y5 q w w') (hq:∀ k,B≤k→k<w.heap.size→¬ q k):i7 w' B v n:=(h.num.away (Nat.le_refl _) hap hq).soft
end
structure FrC (W:World) (g:Nat) (f:Value × Value) (x:List Iv × v6):Prop where
 iv:v7 W f.1 x.1
 se:i7 W (g+1) f.1 x.1.length
 sn:z02 f.1
 vc:z30 W f.2 x.2
 sw:z05 W (g+1) f.2 (nsV x.2)
theorem FrC.ap {q:Nat→Prop} {w w':World} {g:Nat} {f:Value × Value} {x:List Iv × v6} (h:FrC w g f x) (hap:y5 q w w') (hq:∀ k,g+1≤k→k<w.heap.size→¬ q k):FrC w' g f x:=
 ⟨zb4 h.iv h.se.num hap hq,h.se.ap hap hq,h.sn,zb5 h.vc h.sw.numW hap hq,h.sw.ap hap hq⟩
structure ClK (g:Nat) (fs fs':List (Value × Value)) (F:t8) (k:Nat) (W:World):Prop where
 len:fs'.length=F.length
 el:∀ (i:Nat) (f:Value × Value) (x:List Iv × v6),fs'[i]? = some f→F[i]? = some x →
  (W.cell? ⟨g,i*2,none⟩=some f.1∧W.cell? ⟨g,i*2+1,none⟩=some f.2)∧(W.frozen? ⟨g,i*2,none⟩=false∧W.frozen? ⟨g,i*2+1,none⟩=false) ∧
  (i<k→FrC W g f x)∧(k≤i→fs[i]? = some f)
theorem ClK.call {g k:Nat} {fs fs':List (Value × Value)} {F:t8} {A B:World} (h:ClK g fs fs' F k A) (hb:Below A.heap.size A B):ClK g fs fs' F k B:=by
 refine ⟨h.len,fun i f x hf hx => ?_⟩
 obtain ⟨⟨c0,c1⟩,⟨f0,f1⟩,h4,h5⟩:=h.el i f x hf hx
 have hlt:g<A.heap.size:=World.block_lt_of_cell? A _ c0
 exact ⟨⟨z6 c0 hb,z6 c1 hb⟩,⟨x6 f0 hlt hb,x6 f1 hlt hb⟩,fun hi=>(h4 hi).ap (y5.of_below (fun _=>False) hb) (fun _ _ _ h=>h),h5⟩
theorem ClK.put {g k:Nat} {fs fs':List (Value × Value)} {F:t8} {A:World} (h:ClK g fs fs' F k A) {f:Value × Value} {x:List Iv × v6} (hf:fs'[k]? = some f) (hx:F[k]? = some x) {s u:Value}
 (hs:FrC A g (s,u) x):ClK g fs (fs'.set k (s,u)) F (k+1) ((A.setCell ⟨g,k*2,none⟩ s).setCell ⟨g,k*2+1,none⟩ u):=by
 obtain ⟨⟨d0,d1⟩,⟨g0,g1⟩,_,_⟩:=h.el k f x hf hx
 have hlt:k<fs'.length:=(List.getElem?_eq_some_iff.1 hf).1
 have hap:y5 (fun k=>k=g) A ((A.setCell ⟨g,k*2,none⟩ s).setCell ⟨g,k*2+1,none⟩ u):=(y5.set (q:=fun k=>k=g) A s rfl).trans (y5.set (q:=fun k=>k=g) _ u rfl)
 have oth:∀ (o:Nat) (v:Value),o≠k*2→o≠k*2+1→A.cell? ⟨g,o,none⟩=some v→((A.setCell ⟨g,k*2,none⟩ s).setCell ⟨g,k*2+1,none⟩ u).cell? ⟨g,o,none⟩=some v:=fun o v h1 h2 hc=>by
  rw [World.cell?_setCell_other _ _ _ _ (by intro e;injection e with e1 e2;omega),World.cell?_setCell_other _ _ _ _ (by intro e;injection e with e1 e2;omega)];exact hc
 have fz:∀ o,A.frozen? ⟨g,o,none⟩=false→((A.setCell ⟨g,k*2,none⟩ s).setCell ⟨g,k*2+1,none⟩ u).frozen? ⟨g,o,none⟩=false:=fun o hf=>by rw [World.frozen?_setCell,World.frozen?_setCell];exact hf
 have hq:∀ j,g+1≤j→j<A.heap.size→¬ (j=g):=fun j h1 _=>by omega
 refine ⟨by rw [List.length_set];exact h.len,fun i f' x' hf' hx' => ?_⟩
 by_cases hik:i=k
 ·subst hik
  rw [List.getElem?_set_self hlt] at hf'
  obtain rfl:=Option.some.inj hf'
  obtain rfl:=Option.some.inj (hx.symm.trans hx')
  refine ⟨⟨?_,?_⟩,⟨fz _ g0,fz _ g1⟩,fun _=>hs.ap hap hq,fun h0=>absurd h0 (by omega)⟩
  ·rw [World.cell?_setCell_other _ _ _ _ (by intro e;injection e with e1 e2;omega)]
   exact World.cell?_setCell_same' _ _ _ (by rw [d0];rfl)
  ·exact World.cell?_setCell_same' _ _ _ (by rw [World.cell?_setCell_other _ _ _ _ (by intro e;injection e with e1 e2;omega),d1];rfl)
 ·rw [List.getElem?_set_ne (fun e0=>hik e0.symm)] at hf'
  obtain ⟨⟨c0,c1⟩,⟨f0,f1⟩,h4,h5⟩:=h.el i f' x' hf' hx'
  exact ⟨⟨oth _ _ (by omega) (by omega) c0,oth _ _ (by omega) (by omega) c1⟩,⟨fz _ f0,fz _ f1⟩,fun hi=>(h4 (by omega)).ap hap hq,fun hi=>h5 (by omega)⟩
theorem ClK.done {w wr:World} {g:Nat} {fs fs':List (Value × Value)} {F:t8} {q:Option Addr} {cq:Nat} (h:ClK g fs fs' F F.length wr) (hq:F ≠ []→q=some ⟨g,0,none⟩∧w.heap.size≤g∧g<wr.heap.size) (hs:z02 (.slice q F.length cq)) (hl:F.length≤100000) (h64:∀ x ∈ F,m9 x.1) :
 z08 wr (.slice q F.length cq) F∧y62 wr w.heap.size wr.heap.size (.slice q F.length cq) (shK F):=by
 have hm:F.length≤maxLen:=by unfold maxLen;omega
 have hnl:(shK F).length=F.length:=by unfold shK;rw [List.length_map]
 refine ⟨⟨⟨⟨fs',⟨q,cq,by rw [h.len],by rw [h.len];exact hm,fun hne => ?_⟩,h.len,fun i f x hf hx => ?_⟩,hl⟩,hs⟩,⟨q,cq,by rw [hnl],by rw [hnl];exact hm,fun hne => ?_⟩⟩
 ·have hF:F ≠ []:=by rintro rfl;exact hne (List.eq_nil_of_length_eq_zero (by rw [h.len];rfl))
  refine ⟨g,0,(hq hF).1,fun i f hf => ?_⟩
  have hi:i<F.length:=by have:=(List.getElem?_eq_some_iff.1 hf).1;rw [h.len] at this;exact this
  obtain ⟨⟨c0,c1⟩,_⟩:=h.el i f F[i] hf (by simp [hi])
  rw [Nat.zero_add]
  exact ⟨c0,c1⟩
 ·obtain ⟨_,_,h4,_⟩:=h.el i f x hf hx
  have h4:=h4 (List.getElem?_eq_some_iff.1 hx).1
  exact ⟨h4.iv,h64 x (List.mem_of_getElem? hx),h4.sn,h4.vc⟩
 ·have hF:F ≠ []:=by rintro rfl;exact hne rfl
  obtain ⟨hq1,hq2,hq3⟩:=hq hF
  refine ⟨g,0,hq1,hq2,hq3,fun i y hi => ?_⟩
  have hilt:i<F.length:=by have:=(List.getElem?_eq_some_iff.1 hi).1;rw [hnl] at this;exact this
  have hx:F[i]? = some F[i]:=by simp [hilt]
  have hi2:i<fs'.length:=by rw [h.len];exact hilt
  have hf:fs'[i]? = some fs'[i]:=by simp [hi2]
  obtain ⟨⟨c0,c1⟩,_,h4,_⟩:=h.el i _ _ hf hx
  have h4:=h4 hilt
  have hy:y=((F[i]).1.length,nsV (F[i]).2):=by unfold shK at hi;rw [List.getElem?_map,hx] at hi;exact (Option.some.inj hi).symm
  subst hy
  rw [Nat.zero_add]
  exact ⟨_,_,c0,c1,(z89 h4.se (Nat.le_trans hq2 (Nat.le_succ g))).num,(h4.sw.low (Nat.le_trans hq2 (Nat.le_succ g))).numW⟩
theorem zf1 {w:World} {B n g cap:Nat} {t:TypeId} {fs:List (Value × Value)} (h:w.ownsRow B t 2 (.slice (some ⟨g,0,none⟩) n cap) n (frC fs)) (hn:n=fs.length) (i:Nat) (f:Value × Value) (hf:fs[i]? = some f) :
 w.cell? ⟨g,i*2,none⟩=some f.1∧w.cell? ⟨g,i*2+1,none⟩=some f.2:=by
 have hi:=(List.getElem?_eq_some_iff.1 hf).1
 obtain ⟨k0,k1⟩:=xi4 fs i f hf
 rw [h.cellAt _ (by omega),h.cellAt _ (by omega),k0,k1]
 exact ⟨rfl,rfl⟩
end
end Go.Proofs.YtchndljcahjldaaGreatDoor
