/- The reference's grouping of knowledge. -/
import Derived.Test.YtchndljcahjldaaGreatDoorMZGrpM
import Derived.Deep.CutBlock
namespace Go.Proofs.YtchndljcahjldaaGreatDoor
open Go.RowKit
variable {W:World} {g:Option Nat}
def FrG (e:El) (W:World):Prop:=v7 W e.1.1 e.2.1∧zd6 W e.1.2 e.2.2
theorem ym7 {s:Value} {L:List Iv} (h:IvG W g s L):j9 W (fun j=>False∨g=some j) (fun W'=>v7 W' s L):=by
 refine ⟨fun k=>k<W.heap.size∧g≠some k,fun k hk=>⟨hk.1,fun h=>h.elim id hk.2⟩,fun W' hap => ?_⟩
 obtain ⟨⟨p,cap,h1,h2,h3⟩,ha⟩:=h
 refine ⟨p,cap,h1,h2,fun hne => ?_⟩
 obtain ⟨b,o,rfl,h6⟩:=h3 hne
 obtain ⟨b',e,hlt,hn⟩:=ha (List.length_pos_iff.2 hne)
 rw [h1] at e
 obtain rfl:b=b':=Option.some.inj e
 have hblk:=hap.block b hlt fun h=>h ⟨hlt,hn⟩
 have hc:∀ i,W'.cell? ⟨b,i,none⟩=W.cell? ⟨b,i,none⟩:=fun i=>World.cell?_of_block hblk
 refine ⟨b,o,rfl,fun i x hx => ?_⟩
 rw [hc,hc]
 exact h6 i x hx
theorem yv1 {v:Value} {V:v6} (h:zj6 W g v V):j9 W (fun j=>False∨g=some j) (fun W'=>zd6 W' v V):=by
 refine ⟨fun k=>k<W.heap.size∧g≠some k,fun k hk=>⟨hk.1,fun h=>h.elim id hk.2⟩,fun W' hap => ?_⟩
 obtain ⟨⟨es,⟨p,cap,h1,h2,h3⟩,hel,hal⟩,h4,h5⟩:=h
 refine ⟨⟨es,⟨p,cap,h1,h2,fun hne => ?_⟩,hel,fun i e x he hx=>⟨(hal i e x he hx).1,(hal i e x he hx).2.1,?_⟩⟩,h4⟩
 ·obtain ⟨b,o,rfl,h6⟩:=h3 hne
  obtain ⟨b',e,hlt,hn⟩:=h5 (by rw [← hel];exact List.length_pos_iff.2 hne)
  rw [h1] at e
  obtain rfl:b=b':=Option.some.inj e
  have hblk:=hap.block b hlt fun h=>h ⟨hlt,hn⟩
  have hc:∀ i,W'.cell? ⟨b,i,none⟩=W.cell? ⟨b,i,none⟩:=fun i=>World.cell?_of_block hblk
  refine ⟨b,o,rfl,fun i x hx => ?_⟩
  rw [hc,hc,hc]
  exact h6 i x hx
 ·obtain ⟨fp,k1,k2⟩:=ym7 (hal i e x he hx).2.2
  exact k2 W' (hap.mono fun k hk hn hf=>hn ⟨hk,fun e=>(k1 k hf).2 (.inr e)⟩)
theorem xv6:∀ (fs:List (Value × Value)) (q:Nat) (a b:Value),frC (fs.set q (a,b))=((frC fs).set (q*2) a).set (q*2+1) b
 | [],_,_,_=>by simp [frC]
 | f :: fs,0,_,_=>by simp [frC]
 | f :: fs,q+1,a,b=>by
   have:=xv6 fs q a b
   unfold frC at this ⊢
   rw [List.set_cons_succ,List.flatMap_cons,List.flatMap_cons,this,show (q+1)*2=q*2+1+1 by omega]
   rfl
section
variable {w W:World} {av0:Nat→Prop} {Q:El→World→Prop} {g c:Nat} {es:List El}
theorem o4.put (h:o4 w av0 Q (.slice (some ⟨g,0,none⟩) es.length c) es W) (q:Nat) (e:El) (he:j9 W (fun j=>av0 j∨(Value.slice (some ⟨g,0,none⟩) es.length c).ownBlock=some j) (Q e)) :
 o4 w av0 Q (.slice (some ⟨g,0,none⟩) (es.set q e).length c) (es.set q e) ((W.setCell ⟨g,q*2,none⟩ e.1.1).setCell ⟨g,q*2+1,none⟩ e.1.2):=by
 have hap:y5 (fun j=>j=g) W ((W.setCell ⟨g,q*2,none⟩ e.1.1).setCell ⟨g,q*2+1,none⟩ e.1.2):=(z36 _ _ _ _).trans (z36 _ _ _ _)
 have hg:=(g7 h.row g rfl).1
 have mv:∀ P,j9 W (fun j=>av0 j∨(Value.slice (some ⟨g,0,none⟩) es.length c).ownBlock=some j) P→j9 ((W.setCell ⟨g,q*2,none⟩ e.1.1).setCell ⟨g,q*2+1,none⟩ e.1.2) (fun j=>av0 j∨(Value.slice (some ⟨g,0,none⟩) (es.set q e).length c).ownBlock=some j) P:=
  fun P hP=>hP.mv hap (fun j _ hj => .inr (by rw [hj];rfl)) fun j hj => .inl (hj.imp id fun h=>h)
 refine ⟨?_,fun x hx => ?_,h.low.trans (hap.below h.low.size fun j hj e=>by omega)⟩
 ·have h1:=(h.row.stored (q*2) e.1.1).1
  have h2:=(World.ownsRow.stored h1 (q*2+1) e.1.2).1
  rw [List.map_set,show e.1=(e.1.1,e.1.2) from rfl,xv6,List.length_set]
  exact h2
 ·rcases List.mem_or_eq_of_mem_set hx with hx | rfl
  ·exact mv _ (h.el x hx)
  ·exact mv _ he
end
theorem o4.i {w W:World} {v:Value} {es:List El} (h:o4 w (fun _=>False) FrG v es W) (hl:es.length≤100000):zn8 W v (es.map (·.2)):=by
 have hfl:(es.map (·.1)).length=es.length:=List.length_map _
 have hrow:=h.row
 rw [← hfl] at hrow
 refine ⟨⟨_,zc6.knoAt hrow,by simp,fun i f x hf hx => ?_⟩,by simpa using hl⟩
 rw [List.getElem?_map] at hf hx
 obtain ⟨e,he,rfl⟩:=Option.map_eq_some_iff.1 hf
 rw [he] at hx
 obtain rfl:=Option.some.inj hx
 obtain ⟨k1,k2⟩:=(h.el e (List.mem_of_getElem? he)).now
 exact ⟨k1,k2⟩
theorem o4.some {w W:World} {av0:Nat→Prop} {Q:El→World→Prop} {p:Option Addr} {c:Nat} {es:List El} (h:o4 w av0 Q (.slice p es.length c) es W) (h0:0<es.length):∃ g,p=some ⟨g,0,none⟩:=by
 rcases h.row.2 with ⟨_,hz⟩ | ⟨g,_,_,e,_⟩
 ·omega
 ·injection e with e1;exact ⟨g,e1⟩
theorem xv7 {w wc:World} {g c:Nat} {es es2:List El} (hR:o4 w (fun _=>False) FrG (.slice (some ⟨g,0,none⟩) es.length c) es wc) (off m:Nat) (h2:es2=(es.drop off).take m) {W':World} (hb:Below wc.heap.size wc W') {v':Value} (hN:∀ j,v'.ownBlock=some j→wc.heap.size≤j) (cc k:Nat) (hk:k=es2.length) (ad:Addr) (had:es2 = []∨ad=⟨g,off*2,none⟩) :
 yc6 W' (fun j=>False∨v'.ownBlock=some j) FrG (.slice (some ad) k cc) es2:=by
 subst hk
 have hgl:=(g7 hR.row g rfl).2
 have hmem:∀ e ∈ es2,e ∈ es:=fun e he=>by rw [h2] at he;exact List.mem_of_mem_drop (List.mem_of_mem_take he)
 refine ⟨.inr ⟨ad,cc,rfl,fun j u hu => ?_,fun hne ha => ?_⟩,fun e he => ?_,fun e he => ?_⟩
 ·rcases had with h0 | rfl
  ·rw [h0] at hu;simp [frC] at hu
  ·rw [h2,List.map_take,List.map_drop,← wk5,← wk6,List.getElem?_take] at hu
   split at hu
   ·rw [List.getElem?_drop] at hu
    rw [Addr.add_lit]
    have hlt:=(List.getElem?_eq_some_iff.1 hu).1
    rw [yw9,List.length_map] at hlt
    refine z6 ?_ hb
    rw [hR.row.cellAt _ hlt]
    exact hu
   ·cases hu
 ·rcases had with h0 | rfl
  ·exact hne h0
  ·have:=ha.elim (fun h=>h.elim) (hN g)
   omega
 ·have h1:=(hR.el e (hmem e he)).now
  obtain ⟨_,_,e1,_⟩:=h1.1
  obtain ⟨_,_,e2⟩:=h1.2.shape
  rw [e1,e2]
  exact ⟨rfl,rfl⟩
 ·exact ((hR.el e (hmem e he)).mv (q:=fun _=>False) (y5.refl _ _) (fun _ _ h=>h.elim) (av':=fun j=>False∨v'.ownBlock=some j) fun j hj => .inr (hj.elim (fun h=>h.elim) (hN j))) |> fun h=>o3 h hb
theorem xv8 {W:World} {av:Nat→Prop} {es2:List El} (h:es2 = []):yc6 W av FrG (.slice none 0 0) es2:=by
 subst h
 exact ⟨.inl ⟨rfl,rfl⟩,fun _ he=>(by cases he),fun _ he=>(by cases he)⟩
theorem y80 {W:World} {av:Nat→Prop} {Y:Nat} {e:El} (c0:W.cell? ⟨Y,0,none⟩=some e.1.1) (c1:W.cell? ⟨Y,1,none⟩=some e.1.2) (hY:¬ av Y) (ho:e.1.1.oneCell'=true∧e.1.2.oneCell'=true) (he:j9 W av (FrG e)):yc6 W av FrG (.slice (some ⟨Y,0,none⟩) 1 1) [e]:=by
 refine ⟨.inr ⟨⟨Y,0,none⟩,1,rfl,fun j u hu => ?_,fun _=>hY⟩,fun x hx => ?_,fun x hx => ?_⟩
 ·match j,hu with
  | 0,hu=>simp [frC] at hu;subst hu;rw [Addr.add_lit];exact c0
  | 1,hu=>simp [frC] at hu;subst hu;rw [Addr.add_lit];exact c1
  | j+2,hu=>simp [frC] at hu
 ·obtain rfl:=List.mem_singleton.1 hx;exact ho
 ·obtain rfl:=List.mem_singleton.1 hx;exact he
theorem z07 {w W:World} {av0:Nat→Prop} {Q:El→World→Prop} (hb:Below w.heap.size w W) (k:Nat) (hk:k=W.heap.size):o4 w av0 Q (.slice (some ⟨k,0,none⟩) 0 0) [] (W.alloc (.cells #[] 46)):=hk ▸ o4.lit hb
theorem z41 {w w1:World} {s u v1:Value} (h:y5 (fun j=>(Value.slice (some ⟨w.heap.size,0,none⟩) 0 0).ownBlock=some j) ((w.alloc (.cells #[] 46)).alloc (.cells #[s,u] 46)).drew w1)
 (hn:∀ j,v1.ownBlock=some j→(Value.slice (some ⟨w.heap.size,0,none⟩) 0 0).ownBlock=some j∨((w.alloc (.cells #[] 46)).alloc (.cells #[s,u] 46)).drew.heap.size≤j) :
 w1.cell? ⟨w.heap.size+1,0,none⟩=some s∧w1.cell? ⟨w.heap.size+1,1,none⟩=some u∧¬ v1.ownBlock=some (w.heap.size+1):=by
 have hne:¬ (Value.slice (some ⟨w.heap.size,0,none⟩) 0 0).ownBlock=some (w.heap.size+1):=fun e=>by have:=Option.some.inj e;simp at this
 refine ⟨h.cell (a:=⟨w.heap.size+1,0,none⟩) ?_ hne,h.cell (a:=⟨w.heap.size+1,1,none⟩) ?_ hne,fun e => ?_⟩
 ·exact z6 (w:=(w.alloc (.cells #[] 46)).alloc (.cells #[s,u] 46)) (by simp) (Below.refl _ _).drew
 ·exact z6 (w:=(w.alloc (.cells #[] 46)).alloc (.cells #[s,u] 46)) (by simp) (Below.refl _ _).drew
 ·rcases hn _ e with e | e
  ·exact hne e
  ·have:((w.alloc (.cells #[] 46)).alloc (.cells #[s,u] 46)).drew.heap.size=w.heap.size+1+1:=by simp
   omega
theorem z24 {w w1:World} {s u v1:Value} {X:Nat} (h:y5 (fun j=>(Value.slice (some ⟨X,0,none⟩) 0 0).ownBlock=some j) ((w.alloc (.cells #[s,u] 46)).alloc (.cells #[] 46)).drew w1)
 (hn:∀ j,v1.ownBlock=some j→(Value.slice (some ⟨X,0,none⟩) 0 0).ownBlock=some j∨((w.alloc (.cells #[s,u] 46)).alloc (.cells #[] 46)).drew.heap.size≤j) (hX:X=w.heap.size+1:=by simp) :
 w1.cell? ⟨w.heap.size,0,none⟩=some s∧w1.cell? ⟨w.heap.size,1,none⟩=some u∧¬ v1.ownBlock=some w.heap.size:=by
 subst hX
 have hne:¬ (Value.slice (some ⟨w.heap.size+1,0,none⟩) 0 0).ownBlock=some w.heap.size:=fun e=>by have:=Option.some.inj e;simp at this
 have hb:Below (w.alloc (.cells #[s,u] 46)).heap.size (w.alloc (.cells #[s,u] 46)) ((w.alloc (.cells #[s,u] 46)).alloc (.cells #[] 46)).drew:=(z8 _ _).drew
 refine ⟨h.cell (a:=⟨w.heap.size,0,none⟩) ?_ hne,h.cell (a:=⟨w.heap.size,1,none⟩) ?_ hne,fun e => ?_⟩
 ·exact z6 (by simp) hb
 ·exact z6 (by simp) hb
 ·rcases hn _ e with e | e
  ·exact hne e
  ·have:((w.alloc (.cells #[s,u] 46)).alloc (.cells #[] 46)).drew.heap.size=w.heap.size+1+1:=by simp
   omega
theorem zo5 {q:Nat→Prop} {A B wc:World} {N:Nat} (_:y5 q A B) (h:Below N wc A):Below N wc A:=h
theorem x25 {w W:World} {av0:Nat→Prop} {Q:El→World→Prop} {v:Value} {es:List El} (h:o4 w av0 Q v es W) (e:v.ownBlock=some W.heap.size):False:=by
 have:=(g7 h.row _ e).2;omega
def va1 (G:t8) (w:World) (e:Ending) (w':World):Prop:=∃ u es,e = .returned u∧o4 w (fun _=>False) FrG u es w'∧es.map (·.2)=G
set_option maxRecDepth 100000 in
set_option maxHeartbeats 16000000 in
theorem x26 (F:t8) (v:Value) (w:World) (hv:zn8 w v F) (hr:∀ x ∈ F,∀ y ∈ x.2,0≤y.1∧y.1≤18446744073709551615) (hF:x9 F) (hfl:(flatK F).length≤10000) (hl:F.length≤1000) (hh:∀ x ∈ F,∀ y ∈ x.2,y.2.2.length≤1000) :
 Calls Tryz.prog 46 #[v] w (va1 (q6 F) w):=by
 obtain ⟨p,cap,rfl⟩:=hv.shape
 have HV:=qh hv
 have HRG:=qh hr
 have HF:=qh (And.intro hF (And.intro hfl hh))
 clear hv hr hF hfl hh
 go_enter Tryz.func46,Tryz.ntmps46
 go_wp2_with fail
 go_loopg [3,4] F.length (fun z u i wr=>∃ (k:Nat) (es:List El),i = .int .i64 k∧k≤F.length∧F.length - k≤z∧o4 w (fun _=>False) FrG u es wr∧(es = []→u = .slice none 0 0)∧es.map (·.2)=q6 (F.take k))
 case atStart=>exact ⟨0,[],rfl,Nat.zero_le _,by omega,o4.nil (Below.refl _ _),fun _=>rfl,rfl⟩
 case round =>
  obtain ⟨k,es,rfl,hk,hz,hR,hnil,hes⟩:=hrel
  obtain ⟨pr,cr,hu⟩:=hR.shape
  subst hu
  by_cases hlt:k<F.length
  ·obtain ⟨⟨L,V⟩,hx⟩:∃ x,F[k]? = some x:=⟨F[k],by simp [hlt]⟩
   obtain ⟨b,o,cap',p1,c1,q1,d1,e,c0,c1',hf⟩:=HV.out.elem hx
   cases e
   have hxm:=List.mem_of_getElem? hx
   have hg:=HF.out.1 _ hxm
   have hLl:L.length≤10000:=Nat.le_trans (xe4 hxm) HF.out.2.1
   have hbw:b<w.heap.size:=World.block_lt_of_cell? w _ c0
   have t0:=z6 c0 hR.low
   have t1:=z6 c1' hR.low
   have K:=qh (x95 V _ wr (hf.vec.call hR.low) hg.2 (HF.out.2.2 _ hxm))
   have HX:=qh (xo3 hx)
   have HCL:=qh (y48 hg.2 fun y hy=>⟨HRG.out _ hxm y hy,Nat.le_trans (HF.out.2.2 _ hxm y hy) (by decide)⟩)
   have hcl:(j8 V).length≤100000:=Nat.le_trans (zn4 V) hf.vec.len
   have HR:=qh hR
   have HFR:=qh (And.intro hf hg.1)
   have HES:=qh hes
   have HNIL:=qh hnil
   have i1:(0:Int)≤(k:Int):=by omega
   have i2:(k:Int)<(F.length:Int):=by omega
   clear hf hx c0 c1' hR hes hxm hg hnil
   unfold z01 at HX
   dsimp only at HX K
   generalize j8 V=CV at *
   go_wp2_with fail
   refine K.out.mono ?_
   rintro e w1 ⟨u,rfl,hu,h1⟩
   obtain ⟨pV,cV,rfl⟩:=hu.shape
   have HR1:=qh (HR.out.below h1)
   have t0:=z6 t0 h1
   have HU:=qh (And.intro hu (And.intro h1 hcl))
   clear t1 h1 hu hcl K
   by_cases hcv:CV = []
   ·subst hcv
    go_wp2_with fail
    go_roundg (F.length - (k+1))
    case measure=>omega
    case rel=>exact ⟨k+1,es,by go_num,by omega,Nat.le_refl _,HR1.out,HNIL.out,by rw [HX.out,if_pos (by simp)];exact HES.out⟩
   ·have hcl:¬ ((CV.length:Int)=0):=by have:=List.length_pos_iff.2 hcv;omega
    by_cases hL:L = []
    ·subst hL
     go_wp2_with fail
     go_roundg (F.length - (k+1))
     case measure=>omega
     case rel=>exact ⟨k+1,es,by go_num,by omega,Nat.le_refl _,HR1.out,HNIL.out,by rw [HX.out,if_pos (by simp)];exact HES.out⟩
    ·have hll:¬ ((L.length:Int)=0):=by have:=List.length_pos_iff.2 hL;omega
     have HX2:=qh (HX.out.trans (by rw [if_neg (fun h=>h.elim hcv hL),← HES.out]))
     obtain ⟨G,hG⟩:∃ G,es.map (·.2)=G:=⟨_,rfl⟩
     rw [hG] at HX2
     have hGl:G.length=es.length:=by rw [← hG,List.length_map]
     have hGk:G=q6 (F.take k):=hG.symm.trans HES.out
     have hes1:es.length≤1000:=by
      have h2:=zy4 (F.take k)
      rw [← hGk,hGl,List.length_take] at h2
      omega
     have HGE:Hid (∀ (j:Nat) (y:List Iv × v6),G[j]? = some y→∃ e:El,es[j]? = some e∧e.2=y∧(t6 y.1∧y.1.length≤10000)∧∀ z ∈ y.2,z.2.2.length≤5000):=qh fun j y hy=>by
      rw [← hG,List.getElem?_map] at hy
      obtain ⟨e,he,rfl⟩:=Option.map_eq_some_iff.1 hy
      have hm:e.2 ∈ q6 (F.take k):=by rw [← hGk,← hG];exact List.mem_map.2 ⟨e,List.mem_of_getElem? he,rfl⟩
      have hFt:x9 (F.take k):=fun x hx=>HF.out.1 x (List.mem_of_mem_take hx)
      refine ⟨e,he,rfl,⟨(ym4 (F.take k) [] (fun x hx=>by cases hx) hFt e.2 hm).1,?_⟩,?_⟩
      ·have h1:=xe4 hm
       have h2:=zy5 (F.take k) [] (fun x hx=>by cases hx) hFt
       have h3:=xe1 (List.take_sublist k F)
       have h4:=HF.out.2.1
       unfold q6 at h1
       simp only [flatK,List.flatMap_nil,List.length_nil] at h1 h2 h3 h4
       omega
      ·exact yv0 (F.take k) [] (fun V=>∀ z ∈ V,z.2.2.length≤5000) (fun x hx=>by cases hx) (fun x hx=>fun z hz=>(y48 (hFt x hx).2 (fun y hy=>⟨HRG.out x (List.mem_of_mem_take hx) y hy,Nat.le_trans (HF.out.2.2 x (List.mem_of_mem_take hx) y hy) (by decide)⟩) z hz).2.2.2) e.2 hm
     have HCE:=qh (fun z hz=>(HCL.out z hz).2.2.2)
     have HG:=qh hG
     clear HX HCL hG hGk HES
     go_upto_region 6 with fail
     go_cut [30] from 7 to 94 (fun s30 wx=>s30 = .bool false∧w1=wx)
     case first =>
      go_wp2_with fail
      go_meet
      case rel=>exact ⟨by first | rfl | (simp [hcv,hL];done) | (congr 1;simp [hcl,hll]),rfl⟩
     case rest =>
     obtain ⟨rfl,rfl⟩:=hcut
     go_upto_block 2 with fail
     go_cut [6] from 7 to 94 (fun s6 wx=>∃ q:Nat,s6 = .int .i64 q∧q≤es.length∧(∀ (j:Nat) y,j<q→G[j]? = some y→g9 (r3 y.2) (r3 CV)<0)∧(∀ y,G[q]? = some y→0≤g9 (r3 y.2) (r3 CV))∧Below w1.heap.size w1 wx)
     case first =>
      go_wp2_with fail
      go_loopg [6] es.length (fun y i wx=>∃ q:Nat,i = .int .i64 q∧q≤es.length∧es.length - q≤y∧(∀ (j:Nat) y,j<q→G[j]? = some y→g9 (r3 y.2) (r3 CV)<0)∧Below w1.heap.size w1 wx)
      case atStart=>exact ⟨0,rfl,Nat.zero_le _,by omega,fun j y hj=>absurd hj (Nat.not_lt_zero j),Below.refl _ _⟩
      case round =>
       obtain ⟨q,rfl,hq,hy,hbf,hb⟩:=hrel
       have HBF:=qh hbf;clear hbf
       have HB:=qh hb
       by_cases hql:q<es.length
       ·obtain ⟨y,hyq⟩:∃ y,G[q]? = some y:=⟨G[q]'(by omega),by simp [show q<G.length by omega]⟩
        obtain ⟨e,he,rfl,hyg,hyh⟩:=HGE.out q _ hyq
        have hRx:=HR1.out.below hb
        obtain ⟨g,rfl⟩:=hRx.some (by omega)
        have cq:=(zf1 hRx.row (by simp) q e.1 (by rw [List.getElem?_map,he];rfl)).2
        have hev:=(hRx.el e (List.mem_of_getElem? he)).now.2
        obtain ⟨pe,ce,ee⟩:=hev.shape
        have K:=qh (zv6 e.2.2 CV e.1.2 (.slice pV CV.length cV) wr hev ((HU.out.1.vec HU.out.2.2).call hb) hyh HCE.out)
        rw [ee] at K cq
        have i3:(0:Int)≤(q:Int):=by omega
        have i4:(q:Int)<(es.length:Int):=by omega
        obtain ⟨m,hmq⟩:∃ m,g9 (r3 e.2.2) (r3 CV)=m:=⟨_,rfl⟩
        rw [hmq] at K
        have HYQ:=qh (And.intro hyq hmq)
        clear hev ee hRx hb hyq hyg hyh hmq
        by_cases hm:m<0
        ·go_wp2_with (go_at_call 69;refine K.out.mono ?_;rintro e2 w2 ⟨rfl,h2⟩)
         go_roundg (es.length - (q+1))
         case measure=>omega
         case rel=>exact ⟨q+1,by go_num,by omega,Nat.le_refl _,fun j z hj hjz=>(by
          rcases Nat.lt_or_eq_of_le (Nat.le_of_lt_succ hj) with h | h
          ·exact HBF.out j z h hjz
          ·rw [h,HYQ.out.1] at hjz
           obtain rfl:=Option.some.inj hjz
           rw [HYQ.out.2];exact hm),z7 HB.out h2⟩
        ·go_wp2_with (go_at_call 69;refine K.out.mono ?_;rintro e2 w2 ⟨rfl,h2⟩)
         go_meet
         case rel=>exact ⟨q,rfl,hq,HBF.out,fun y hy=>(by obtain rfl:=Option.some.inj (HYQ.out.1.symm.trans hy);rw [HYQ.out.2];omega),z7 HB.out h2⟩
       ·have hq2:q=es.length:=by omega
        go_wp2_with fail
        go_meet
        case rel=>exact ⟨q,rfl,hq,HBF.out,fun y hy=>(by have:=(List.getElem?_eq_some_iff.1 hy).1;omega),HB.out⟩
     case rest =>
      obtain ⟨q,rfl,hq,hbf,hge,hb⟩:=hcut
      have HBF:=qh (And.intro hbf hge)
      have HB:=qh hb
      clear hbf hge
      go_upto_region 10 with fail
      go_cut [60] from 7 to 94 (fun s60 wx=>(∃ x:Bool,s60 = .bool x∧(x=true→q<es.length∧∀ y,G[q]? = some y→g9 (r3 y.2) (r3 CV)=0)∧(x=false→∀ y,G[q]? = some y→0<g9 (r3 y.2) (r3 CV)))∧Below w1.heap.size w1 wx)
      case first =>
       by_cases hql:q<es.length
       ·obtain ⟨y,hyq⟩:∃ y,G[q]? = some y:=⟨G[q]'(by omega),by simp [show q<G.length by omega]⟩
        obtain ⟨e,he,rfl,hyg,hyh⟩:=HGE.out q _ hyq
        have hRx:=HR1.out.below hb
        obtain ⟨g,rfl⟩:=hRx.some (by omega)
        have cq:=(zf1 hRx.row (by simp) q e.1 (by rw [List.getElem?_map,he];rfl)).2
        have hev:=(hRx.el e (List.mem_of_getElem? he)).now.2
        obtain ⟨pe,ce,ee⟩:=hev.shape
        have K:=qh (zv6 e.2.2 CV e.1.2 (.slice pV CV.length cV) wc hev ((HU.out.1.vec HU.out.2.2).call hb) hyh HCE.out)
        rw [ee] at K cq
        have i3:(0:Int)≤(q:Int):=by omega
        have i4:(q:Int)<(es.length:Int):=by omega
        obtain ⟨m,hmq⟩:∃ m,g9 (r3 e.2.2) (r3 CV)=m:=⟨_,rfl⟩
        rw [hmq] at K
        have hm0:0≤m:=hmq ▸ HBF.out.2 _ hyq
        have HYQ:=qh (And.intro hyq hmq)
        clear hev ee hRx hb hyq hyg hyh hmq
        by_cases hm:m=0
        ·go_wp2_with (go_at_call 69;refine K.out.mono ?_;rintro e2 w2 ⟨rfl,h2⟩)
         go_meet
         case rel=>exact ⟨⟨true,by first | rfl | simp [hm],fun _=>⟨hql,fun z hz=>by rw [HYQ.out.1] at hz;obtain rfl:=Option.some.inj hz;rw [HYQ.out.2];exact hm⟩,fun h=>by cases h⟩,z7 HB.out h2⟩
        ·go_wp2_with (go_at_call 69;refine K.out.mono ?_;rintro e2 w2 ⟨rfl,h2⟩)
         go_meet
         case rel=>exact ⟨⟨false,by first | rfl | simp [hm],fun h=>(by cases h),fun _ z hz=>by rw [HYQ.out.1] at hz;obtain rfl:=Option.some.inj hz;rw [HYQ.out.2];omega⟩,z7 HB.out h2⟩
       ·have hq2:¬ (q:Int)<(es.length:Int):=by omega
        go_wp2_with fail
        go_meet
        case rel=>exact ⟨⟨false,by first | rfl | simp [hql],fun h=>(by cases h),fun _ y hy=>(by have:=(List.getElem?_eq_some_iff.1 hy).1;omega)⟩,HB.out⟩
      case rest =>
       obtain ⟨⟨x,rfl,hx1,hx2⟩,hb2⟩:=hcut
       have HR2:=qh (HR1.out.below hb2)
       have HU2:=qh (HU.out.1.call hb2)
       have t0:=z6 t0 hb2
       have HLW:=qh (show w.heap.size≤wc.heap.size from HR2.out.low.size)
       cases x with
       | true =>
         obtain ⟨hql,hm0⟩:=hx1 rfl
         obtain ⟨y,hyq⟩:∃ y,G[q]? = some y:=⟨G[q]'(by omega),by simp [show q<G.length by omega]⟩
         obtain ⟨e,he,rfl,hyg,hyh⟩:=HGE.out q _ hyq
         have hR2:=HR2.out
         obtain ⟨g,rfl⟩:=hR2.some (by omega)
         obtain ⟨s0,s1⟩:=zf1 hR2.row (by simp) q e.1 (by rw [List.getElem?_map,he];rfl)
         have f0:=hR2.row.frozenAt (q*2)
         have f1:=hR2.row.frozenAt (q*2+1)
         have hgl:=(g7 hR2.row g rfl).2
         have hgr:=(g7 HR.out.row g rfl).2
         have hei:=(hR2.el e (List.mem_of_getElem? he)).now.1
         have hev:=(hR2.el e (List.mem_of_getElem? he)).now.2
         obtain ⟨pa,ca,ea,_⟩:=hei.shape
         obtain ⟨pe,ce,ee⟩:=hev.shape
         have KU:=qh (fun W' (hb:Below wc.heap.size wc W')=>x06 e.2.1 L e.1.1 (.slice p1 L.length c1) W' ⟨hei.call hb,hyg.1,by omega⟩ ⟨HFR.out.1.at1.call (HR2.out.low.trans (hb.mono HLW.out)),HFR.out.2,by omega⟩)
         rw [ea] at KU s0
         rw [ee] at s1
         have HC:=qh (And.intro s0 (And.intro s1 (And.intro f0 (And.intro f1 (And.intro t0 (And.intro hgl hgr))))))
         have HY:=qh (And.intro hyq (And.intro (hm0 _ hyq) (And.intro (zf3 hyg.1 HFR.out.2) (And.intro hyg.2 he))))
         have i3:(0:Int)≤(q:Int):=by omega
         have i4:(q:Int)<(es.length:Int):=by omega
         clear hR2 hei hev ea ee hyq hyg hyh hm0 hx1 hx2 hgl hgr
         go_wp2_with fail
         go_region_with (first
          | (go_at_call 89;refine (KU.out _ ?_).mono ?_;(first | exact Below.refl _ _ | exact (Below.refl _ _).drew | exact (Below.refl _ _).drew.drew);rintro e2 WA ⟨un,rfl,hun,hA⟩;obtain ⟨pU,cU,rfl,_⟩:=y8 hun;have HA:Hid (Below wc.heap.size wc WA):=qh (by first | exact hA | exact z7 (Below.refl _ _).drew hA | exact z7 (Below.refl _ _).drew.drew hA);have HUN:Hid (r9 WA wc.heap.size (.slice pU (orL e.2.1 L).length cU) (orL e.2.1 L)):=qh hun;have s0':=z6 HC.out.1 HA.out;have s1':=z6 HC.out.2.1 HA.out;have f0':=x6 HC.out.2.2.1 HC.out.2.2.2.2.2.1 HA.out;have f1':=x6 HC.out.2.2.2.1 HC.out.2.2.2.2.2.1 HA.out;have t0':=z6 HC.out.2.2.2.2.1 HA.out;clear hun hA))
         all_goals
          have hE:j9 WA (fun j=>False∨(Value.slice (some ⟨g,0,none⟩) es.length cr).ownBlock=some j) (FrG ((.slice pU (orL e.2.1 L).length cU,.slice pV CV.length cV),(orL e.2.1 L,CV))):=
           (ym7 (g:=some g) (IvG.of (HUN.out.ivs (by have:=HY.out.2.2.1;have:=HY.out.2.2.2.1;omega)) fun _ b hb hgb=>by
                have h1:=(g7 HUN.out b hb).1
                have h2:=HC.out.2.2.2.2.2.1
                have:=Option.some.inj hgb
                omega)).and (yv1 (g:=some g) ((zj6.of_out HU2.out HU.out.2.2 fun b hb=>(by have:=Option.some.inj hb;have:=HC.out.2.2.2.2.2.2;omega)).call HA.out))
          have HXE:Hid (o4 w (fun _=>False) FrG (.slice (some ⟨g,0,none⟩) es.length cr) (es.set q ((.slice pU (orL e.2.1 L).length cU,.slice pV CV.length cV),(orL e.2.1 L,CV))) ((WA.setCell ⟨g,q*2,none⟩ (.slice pU (orL e.2.1 L).length cU)).setCell ⟨g,q*2+1,none⟩ (.slice pV CV.length cV))):=qh (by
           have:=(HR2.out.below HA.out).put q _ hE
           rwa [List.length_set] at this)
          clear hE
          go_wp2_with fail
          go_roundg (F.length - (k+1))
          case measure=>omega
          case rel=>exact ⟨k+1,_,by go_num,by omega,Nat.le_refl _,HXE.out,fun h=>(by have h3:=congrArg List.length h;rw [List.length_set] at h3;have h4:es.length=0:=h3;omega),by rw [HX2.out,wu6 HBF.out.1 HY.out.1 HY.out.2.1,List.map_set,HG.out]⟩
       | false =>
         clear hx1
         have HX3:=qh (HX2.out.trans (wk4 (by omega) HBF.out.1 (hx2 rfl)))
         have HHE:Hid (∀ (W':World) (v':Value),Below wc.heap.size wc W'→(∀ j,v'.ownBlock=some j→wc.heap.size≤j)→j9 W' (fun j=>False∨v'.ownBlock=some j) (FrG ((.slice p1 L.length c1,.slice pV CV.length cV),(L,CV)))):=qh fun W' v' h1 h2 =>
          o3 (((ym7 (IvG.of (g:=none) (HFR.out.1.at1.call HR2.out.low) (fun _ _ _ h=>by cases h))).and (yv1 (zj6.of_out (g:=none) HU2.out HU.out.2.2 (fun _ h=>by cases h)))).mv (q:=fun _=>False) (y5.refl _ _) (fun _ _ h=>h.elim) fun j hj => .inr (hj.elim (fun h=>h.elim) (h2 j))) h1
         clear hx2
         have hes2:es.length≤1000:=hes1
         by_cases hnl:es.length=0
         ·have hes0:es = []:=List.eq_nil_of_length_eq_zero hnl
          have hnil:=HNIL.out hes0
          injection hnil with hp0 hn0 hc0
          subst hp0 hc0
          obtain rfl:q=0:=by omega
          have HTK:Hid (∀ (W':World) (v':Value),Below wc.heap.size wc W'→(∀ j,v'.ownBlock=some j→wc.heap.size≤j)→yc6 W' (fun j=>False∨v'.ownBlock=some j) FrG (.slice none 0 0) (es.take 0)):=qh fun W' v' _ _=>xv8 rfl
          have HDR:Hid (∀ (W':World) (v':Value),Below wc.heap.size wc W'→(∀ j,v'.ownBlock=some j→wc.heap.size≤j)→yc6 W' (fun j=>False∨v'.ownBlock=some j) FrG (.slice none 0 0) (es.drop 0)):=qh fun W' v' _ _=>xv8 (by rw [hes0];rfl)
          go_wp2_with fail
          have hS0:Below wc.heap.size wc wc∧wc.cell? ⟨b,o+k*2,none⟩=some (.slice p1 L.length c1):=⟨Below.refl _ _,t0⟩
          go_region_held3 ((fun w'=>Below wc.heap.size wc w'∧w'.cell? ⟨b,o+k*2,none⟩=some (.slice p1 L.length c1)))
           (first
                | assumption
                | exact zv7 (by assumption) (Below.refl _ _).drew
                | exact zv7 (by assumption) (z8 _ _))
           (first
                | (refine o4.app (w:=w) (av0:=fun _=>False) (Q:=FrG) (es := []) (es2:=(es.take 0)) (s2:=(.slice none 0 0)) (v:=(.slice (some ⟨wc.heap.size,0,none⟩) 0 0)) rfl (by rfl) (.tmp 77) (.tmp 80) _ (by rfl) Tryz.underlying23 (by rfl) (by first | exact (z07 HR2.out.low _ rfl).below (Below.refl _ _).drew | exact ((z07 HR2.out.low _ rfl).below (z8 _ _)).below (Below.refl _ _).drew | exact (z07 (z7 HR2.out.low (z8 _ _)) _ (by simp)).below (Below.refl _ _).drew) (by rfl) (HTK.out _ _ (by first | assumption | exact And.left (by assumption)) (by intro j hj;have:=Option.some.inj hj;simp at this;omega)) (by rw [List.length_nil,List.length_take];omega) ?_;intro v1 w1 hR1 hap1 _ hn1;have hbW:=zo5 (N:=wc.heap.size) (wc:=wc) hap1 (by first | assumption | exact And.left (by assumption));have hN1:∀ j,v1.ownBlock=some j→wc.heap.size≤j:=(fun j hj=>by
                    rcases hn1 j hj with h | h
                    ·have:=Option.some.inj h;simp at this;omega
                    ·exact Nat.le_trans hbW.size h);have hb1:Below wc.heap.size wc w1:=hbW.trans (hap1.below hbW.size fun j hj h=>(by have:=Option.some.inj h;simp at this;omega));have hS1:Below wc.heap.size wc w1∧w1.cell? ⟨b,o+k*2,none⟩=some (.slice p1 L.length c1):=⟨hb1,z6 t0 hb1⟩;(first | have HBC:Hid (w1.cell? ⟨wc.heap.size+1,0,none⟩=some (.slice p1 L.length c1)∧w1.cell? ⟨wc.heap.size+1,1,none⟩=some (.slice pV CV.length cV)∧¬ v1.ownBlock=some (wc.heap.size+1)):=qh (z41 hap1 hn1) | have HBC:Hid (w1.cell? ⟨wc.heap.size,0,none⟩=some (.slice p1 L.length c1)∧w1.cell? ⟨wc.heap.size,1,none⟩=some (.slice pV CV.length cV)∧¬ v1.ownBlock=some wc.heap.size):=qh (z24 hap1 hn1) | skip);have HR1x:=qh hR1;have HN1:=qh hN1;clear hR1 hap1 hn1 hbW hN1 hb1)
                | (refine o4.app (w:=w) (av0:=fun _=>False) (Q:=FrG) (es := []) (es2:=(es.take 0)) (s2:=(.slice none 0 0)) (v:=(.slice (some ⟨wc.heap.size+1,0,none⟩) 0 0)) rfl (by rfl) (.tmp 77) (.tmp 80) _ (by rfl) Tryz.underlying23 (by rfl) (by first | exact (z07 HR2.out.low _ rfl).below (Below.refl _ _).drew | exact ((z07 HR2.out.low _ rfl).below (z8 _ _)).below (Below.refl _ _).drew | exact (z07 (z7 HR2.out.low (z8 _ _)) _ (by simp)).below (Below.refl _ _).drew) (by rfl) (HTK.out _ _ (by first | assumption | exact And.left (by assumption)) (by intro j hj;have:=Option.some.inj hj;simp at this;omega)) (by rw [List.length_nil,List.length_take];omega) ?_;intro v1 w1 hR1 hap1 _ hn1;have hbW:=zo5 (N:=wc.heap.size) (wc:=wc) hap1 (by first | assumption | exact And.left (by assumption));have hN1:∀ j,v1.ownBlock=some j→wc.heap.size≤j:=(fun j hj=>by
                    rcases hn1 j hj with h | h
                    ·have:=Option.some.inj h;simp at this;omega
                    ·exact Nat.le_trans hbW.size h);have hb1:Below wc.heap.size wc w1:=hbW.trans (hap1.below hbW.size fun j hj h=>(by have:=Option.some.inj h;simp at this;omega));have hS1:Below wc.heap.size wc w1∧w1.cell? ⟨b,o+k*2,none⟩=some (.slice p1 L.length c1):=⟨hb1,z6 t0 hb1⟩;(first | have HBC:Hid (w1.cell? ⟨wc.heap.size+1,0,none⟩=some (.slice p1 L.length c1)∧w1.cell? ⟨wc.heap.size+1,1,none⟩=some (.slice pV CV.length cV)∧¬ v1.ownBlock=some (wc.heap.size+1)):=qh (z41 hap1 hn1) | have HBC:Hid (w1.cell? ⟨wc.heap.size,0,none⟩=some (.slice p1 L.length c1)∧w1.cell? ⟨wc.heap.size,1,none⟩=some (.slice pV CV.length cV)∧¬ v1.ownBlock=some wc.heap.size):=qh (z24 hap1 hn1) | skip);have HR1x:=qh hR1;have HN1:=qh hN1;clear hR1 hap1 hn1 hbW hN1 hb1)
                | (refine o4.app (w:=w) (av0:=fun _=>False) (Q:=FrG) (es := []++(es.take 0)) (es2 := [((.slice p1 L.length c1,.slice pV CV.length cV),(L,CV))]) (v:=v1) rfl (by rfl) (.tmp 81) (.tmp 89) _ (by rfl) Tryz.underlying23 (by rfl) (by first | exact HR1x.out | exact HR1x.out.below (z8 _ _)) (by rfl) (by first | exact y80 (e:=((.slice p1 L.length c1,.slice pV CV.length cV),(L,CV))) HBC.out.1 HBC.out.2.1 (fun h=>HBC.out.2.2 (h.elim (fun h=>h.elim) id)) ⟨rfl,rfl⟩ (HHE.out _ _ (by first | assumption | exact And.left (by assumption)) HN1.out) | exact y80 (e:=((.slice p1 L.length c1,.slice pV CV.length cV),(L,CV))) (by simp) (by simp) (fun h=>h.elim (fun h=>h.elim) (x25 HR1x.out)) ⟨rfl,rfl⟩ (HHE.out _ _ (by first | assumption | exact And.left (by assumption)) HN1.out)) (by simp <;> omega) ?_;intro v2 w2 hR2 hap2 _ hn2;have hbW:=zo5 (N:=wc.heap.size) (wc:=wc) hap2 (by first | assumption | exact And.left (by assumption));have hN2:∀ j,v2.ownBlock=some j→wc.heap.size≤j:=(fun j hj=>(hn2 j hj).elim (HN1.out j) fun h=>Nat.le_trans hbW.size h);have hb2:Below wc.heap.size wc w2:=hbW.trans (hap2.below hbW.size fun j hj h=>(by have:=HN1.out j h;omega));have hS2:Below wc.heap.size wc w2∧w2.cell? ⟨b,o+k*2,none⟩=some (.slice p1 L.length c1):=⟨hb2,z6 t0 hb2⟩;have HR2x:=qh hR2;have HN2:=qh hN2;clear hR2 hap2 hn2 hbW hN2 hb2)
                | (refine o4.app (w:=w) (av0:=fun _=>False) (Q:=FrG) (es := []++(es.take 0) ++ [((.slice p1 L.length c1,.slice pV CV.length cV),(L,CV))]) (es2:=(es.drop 0)) (s2:=(.slice none 0 0)) (v:=v2) rfl (by rfl) (.tmp 90) (.tmp 93) _ (by rfl) Tryz.underlying23 (by rfl) HR2x.out (by rfl) (HDR.out _ _ hS2.1 HN2.out) (by simp <;> omega) ?_;intro v3 w3 hR3 hap3 _ _;have hb3:Below wc.heap.size wc w3:=hS2.1.trans (hap3.below hS2.1.size fun j hj h=>(by have:=HN2.out j h;omega));have hS3:Below wc.heap.size wc w3∧w3.cell? ⟨b,o+k*2,none⟩=some (.slice p1 L.length c1):=⟨hb3,z6 t0 hb3⟩;have HR3x:=qh hR3;clear hR3 hap3 hb3))
          all_goals
           go_wp2_with fail
           go_roundg (F.length - (k+1))
           case measure=>omega
           case rel=>exact ⟨k+1,_,by go_num,by omega,Nat.le_refl _,HR3x.out,fun h=>(by simp at h),by rw [HX3.out];simp [← HG.out]⟩
         ·have hR2:=HR2.out
          obtain ⟨g,rfl⟩:=hR2.some (by omega)
          have hroom:es.length≤cr:=by
           rcases hR2.row.2 with ⟨e0,_⟩ | ⟨g',c',cur,e0,_,_,hnc,_⟩
           ·cases e0
           ·injection e0 with _ _ e3;omega
          clear hR2
          have s1:(0:Int)≤(q:Int):=by omega
          have s3:(q:Int)≤(es.length:Int):=by omega
          by_cases hce:cr=q
          ·subst cr
           have s4:(q:Int)≤(q:Int):=by omega
           have HTK:Hid (∀ (W':World) (v':Value),Below wc.heap.size wc W'→(∀ j,v'.ownBlock=some j→wc.heap.size≤j)→yc6 W' (fun j=>False∨v'.ownBlock=some j) FrG (.slice (some ⟨g,0,none⟩) q q) (es.take q)):=qh fun W' v' h1 h2=>xv7 HR2.out 0 q rfl h1 h2 _ q (by rw [List.length_take,List.drop_zero];omega) _ (.inr (by rw [Nat.zero_mul]))
           have HDR:Hid (∀ (W':World) (v':Value),Below wc.heap.size wc W'→(∀ j,v'.ownBlock=some j→wc.heap.size≤j)→yc6 W' (fun j=>False∨v'.ownBlock=some j) FrG (.slice (some ⟨g,0,none⟩) 0 0) (es.drop q)):=qh fun W' v' h1 h2=>xv7 HR2.out q (es.length - q) (by rw [List.take_of_length_le (by rw [List.length_drop];exact Nat.le_refl _)]) h1 h2 _ 0 (by rw [List.length_drop];omega) _ (.inl (List.drop_of_length_le (by omega)))
           go_wp2_with fail
           have hS0:Below wc.heap.size wc wc∧wc.cell? ⟨b,o+k*2,none⟩=some (.slice p1 L.length c1):=⟨Below.refl _ _,t0⟩
           go_region_held3 ((fun w'=>Below wc.heap.size wc w'∧w'.cell? ⟨b,o+k*2,none⟩=some (.slice p1 L.length c1)))
                (first
                 | assumption
                 | exact zv7 (by assumption) (Below.refl _ _).drew
                 | exact zv7 (by assumption) (z8 _ _))
                (first
                 | (refine o4.app (w:=w) (av0:=fun _=>False) (Q:=FrG) (es := []) (es2:=(es.take q)) (s2:=(.slice (some ⟨g,0,none⟩) q q)) (v:=(.slice (some ⟨wc.heap.size,0,none⟩) 0 0)) rfl (by rfl) (.tmp 77) (.tmp 80) _ (by rfl) Tryz.underlying23 (by rfl) (by first | exact (z07 HR2.out.low _ rfl).below (Below.refl _ _).drew | exact ((z07 HR2.out.low _ rfl).below (z8 _ _)).below (Below.refl _ _).drew | exact (z07 (z7 HR2.out.low (z8 _ _)) _ (by simp)).below (Below.refl _ _).drew) (by rfl) (HTK.out _ _ (by first | assumption | exact And.left (by assumption)) (by intro j hj;have:=Option.some.inj hj;simp at this;omega)) (by rw [List.length_nil,List.length_take];omega) ?_;intro v1 w1 hR1 hap1 _ hn1;have hbW:=zo5 (N:=wc.heap.size) (wc:=wc) hap1 (by first | assumption | exact And.left (by assumption));have hN1:∀ j,v1.ownBlock=some j→wc.heap.size≤j:=(fun j hj=>by
                     rcases hn1 j hj with h | h
                     ·have:=Option.some.inj h;simp at this;omega
                     ·exact Nat.le_trans hbW.size h);have hb1:Below wc.heap.size wc w1:=hbW.trans (hap1.below hbW.size fun j hj h=>(by have:=Option.some.inj h;simp at this;omega));have hS1:Below wc.heap.size wc w1∧w1.cell? ⟨b,o+k*2,none⟩=some (.slice p1 L.length c1):=⟨hb1,z6 t0 hb1⟩;(first | have HBC:Hid (w1.cell? ⟨wc.heap.size+1,0,none⟩=some (.slice p1 L.length c1)∧w1.cell? ⟨wc.heap.size+1,1,none⟩=some (.slice pV CV.length cV)∧¬ v1.ownBlock=some (wc.heap.size+1)):=qh (z41 hap1 hn1) | have HBC:Hid (w1.cell? ⟨wc.heap.size,0,none⟩=some (.slice p1 L.length c1)∧w1.cell? ⟨wc.heap.size,1,none⟩=some (.slice pV CV.length cV)∧¬ v1.ownBlock=some wc.heap.size):=qh (z24 hap1 hn1) | skip);have HR1x:=qh hR1;have HN1:=qh hN1;clear hR1 hap1 hn1 hbW hN1 hb1)
                 | (refine o4.app (w:=w) (av0:=fun _=>False) (Q:=FrG) (es := []) (es2:=(es.take q)) (s2:=(.slice (some ⟨g,0,none⟩) q q)) (v:=(.slice (some ⟨wc.heap.size+1,0,none⟩) 0 0)) rfl (by rfl) (.tmp 77) (.tmp 80) _ (by rfl) Tryz.underlying23 (by rfl) (by first | exact (z07 HR2.out.low _ rfl).below (Below.refl _ _).drew | exact ((z07 HR2.out.low _ rfl).below (z8 _ _)).below (Below.refl _ _).drew | exact (z07 (z7 HR2.out.low (z8 _ _)) _ (by simp)).below (Below.refl _ _).drew) (by rfl) (HTK.out _ _ (by first | assumption | exact And.left (by assumption)) (by intro j hj;have:=Option.some.inj hj;simp at this;omega)) (by rw [List.length_nil,List.length_take];omega) ?_;intro v1 w1 hR1 hap1 _ hn1;have hbW:=zo5 (N:=wc.heap.size) (wc:=wc) hap1 (by first | assumption | exact And.left (by assumption));have hN1:∀ j,v1.ownBlock=some j→wc.heap.size≤j:=(fun j hj=>by
                     rcases hn1 j hj with h | h
                     ·have:=Option.some.inj h;simp at this;omega
                     ·exact Nat.le_trans hbW.size h);have hb1:Below wc.heap.size wc w1:=hbW.trans (hap1.below hbW.size fun j hj h=>(by have:=Option.some.inj h;simp at this;omega));have hS1:Below wc.heap.size wc w1∧w1.cell? ⟨b,o+k*2,none⟩=some (.slice p1 L.length c1):=⟨hb1,z6 t0 hb1⟩;(first | have HBC:Hid (w1.cell? ⟨wc.heap.size+1,0,none⟩=some (.slice p1 L.length c1)∧w1.cell? ⟨wc.heap.size+1,1,none⟩=some (.slice pV CV.length cV)∧¬ v1.ownBlock=some (wc.heap.size+1)):=qh (z41 hap1 hn1) | have HBC:Hid (w1.cell? ⟨wc.heap.size,0,none⟩=some (.slice p1 L.length c1)∧w1.cell? ⟨wc.heap.size,1,none⟩=some (.slice pV CV.length cV)∧¬ v1.ownBlock=some wc.heap.size):=qh (z24 hap1 hn1) | skip);have HR1x:=qh hR1;have HN1:=qh hN1;clear hR1 hap1 hn1 hbW hN1 hb1)
                 | (refine o4.app (w:=w) (av0:=fun _=>False) (Q:=FrG) (es := []++(es.take q)) (es2 := [((.slice p1 L.length c1,.slice pV CV.length cV),(L,CV))]) (v:=v1) rfl (by rfl) (.tmp 81) (.tmp 89) _ (by rfl) Tryz.underlying23 (by rfl) (by first | exact HR1x.out | exact HR1x.out.below (z8 _ _)) (by rfl) (by first | exact y80 (e:=((.slice p1 L.length c1,.slice pV CV.length cV),(L,CV))) HBC.out.1 HBC.out.2.1 (fun h=>HBC.out.2.2 (h.elim (fun h=>h.elim) id)) ⟨rfl,rfl⟩ (HHE.out _ _ (by first | assumption | exact And.left (by assumption)) HN1.out) | exact y80 (e:=((.slice p1 L.length c1,.slice pV CV.length cV),(L,CV))) (by simp) (by simp) (fun h=>h.elim (fun h=>h.elim) (x25 HR1x.out)) ⟨rfl,rfl⟩ (HHE.out _ _ (by first | assumption | exact And.left (by assumption)) HN1.out)) (by simp <;> omega) ?_;intro v2 w2 hR2 hap2 _ hn2;have hbW:=zo5 (N:=wc.heap.size) (wc:=wc) hap2 (by first | assumption | exact And.left (by assumption));have hN2:∀ j,v2.ownBlock=some j→wc.heap.size≤j:=(fun j hj=>(hn2 j hj).elim (HN1.out j) fun h=>Nat.le_trans hbW.size h);have hb2:Below wc.heap.size wc w2:=hbW.trans (hap2.below hbW.size fun j hj h=>(by have:=HN1.out j h;omega));have hS2:Below wc.heap.size wc w2∧w2.cell? ⟨b,o+k*2,none⟩=some (.slice p1 L.length c1):=⟨hb2,z6 t0 hb2⟩;have HR2x:=qh hR2;have HN2:=qh hN2;clear hR2 hap2 hn2 hbW hN2 hb2)
                 | (refine o4.app (w:=w) (av0:=fun _=>False) (Q:=FrG) (es := []++(es.take q) ++ [((.slice p1 L.length c1,.slice pV CV.length cV),(L,CV))]) (es2:=(es.drop q)) (s2:=(.slice (some ⟨g,0,none⟩) 0 0)) (v:=v2) rfl (by rfl) (.tmp 90) (.tmp 93) _ (by rfl) Tryz.underlying23 (by rfl) HR2x.out (by rfl) (HDR.out _ _ hS2.1 HN2.out) (by simp <;> omega) ?_;intro v3 w3 hR3 hap3 _ _;have hb3:Below wc.heap.size wc w3:=hS2.1.trans (hap3.below hS2.1.size fun j hj h=>(by have:=HN2.out j h;omega));have hS3:Below wc.heap.size wc w3∧w3.cell? ⟨b,o+k*2,none⟩=some (.slice p1 L.length c1):=⟨hb3,z6 t0 hb3⟩;have HR3x:=qh hR3;clear hR3 hap3 hb3))
           all_goals
                go_wp2_with fail
                go_roundg (F.length - (k+1))
                case measure=>omega
                case rel=>exact ⟨k+1,_,by go_num,by omega,Nat.le_refl _,HR3x.out,fun h=>(by simp at h),by rw [HX3.out];simp [← HG.out]⟩
          ·have s4:(q:Int)≤(cr:Int):=by omega
           have hce0:¬ cr - q=0:=by omega
           have HTK:Hid (∀ (W':World) (v':Value),Below wc.heap.size wc W'→(∀ j,v'.ownBlock=some j→wc.heap.size≤j)→yc6 W' (fun j=>False∨v'.ownBlock=some j) FrG (.slice (some ⟨g,0,none⟩) q cr) (es.take q)):=qh fun W' v' h1 h2=>xv7 HR2.out 0 q rfl h1 h2 _ q (by rw [List.length_take,List.drop_zero];omega) _ (.inr (by rw [Nat.zero_mul]))
           have HDR:Hid (∀ (W':World) (v':Value),Below wc.heap.size wc W'→(∀ j,v'.ownBlock=some j→wc.heap.size≤j)→yc6 W' (fun j=>False∨v'.ownBlock=some j) FrG (.slice (some ⟨g,q*2,none⟩) (es.length - q) (cr - q)) (es.drop q)):=qh fun W' v' h1 h2=>xv7 HR2.out q (es.length - q) (by rw [List.take_of_length_le (by rw [List.length_drop];exact Nat.le_refl _)]) h1 h2 _ (es.length - q) (by rw [List.length_drop]) _ (.inr rfl)
           go_wp2_with fail
           have hS0:Below wc.heap.size wc wc∧wc.cell? ⟨b,o+k*2,none⟩=some (.slice p1 L.length c1):=⟨Below.refl _ _,t0⟩
           go_region_held3 ((fun w'=>Below wc.heap.size wc w'∧w'.cell? ⟨b,o+k*2,none⟩=some (.slice p1 L.length c1)))
                (first
                 | assumption
                 | exact zv7 (by assumption) (Below.refl _ _).drew
                 | exact zv7 (by assumption) (z8 _ _))
                (first
                 | (refine o4.app (w:=w) (av0:=fun _=>False) (Q:=FrG) (es := []) (es2:=(es.take q)) (s2:=(.slice (some ⟨g,0,none⟩) q cr)) (v:=(.slice (some ⟨wc.heap.size,0,none⟩) 0 0)) rfl (by rfl) (.tmp 77) (.tmp 80) _ (by rfl) Tryz.underlying23 (by rfl) (by first | exact (z07 HR2.out.low _ rfl).below (Below.refl _ _).drew | exact ((z07 HR2.out.low _ rfl).below (z8 _ _)).below (Below.refl _ _).drew | exact (z07 (z7 HR2.out.low (z8 _ _)) _ (by simp)).below (Below.refl _ _).drew) (by rfl) (HTK.out _ _ (by first | assumption | exact And.left (by assumption)) (by intro j hj;have:=Option.some.inj hj;simp at this;omega)) (by rw [List.length_nil,List.length_take];omega) ?_;intro v1 w1 hR1 hap1 _ hn1;have hbW:=zo5 (N:=wc.heap.size) (wc:=wc) hap1 (by first | assumption | exact And.left (by assumption));have hN1:∀ j,v1.ownBlock=some j→wc.heap.size≤j:=(fun j hj=>by
                     rcases hn1 j hj with h | h
                     ·have:=Option.some.inj h;simp at this;omega
                     ·exact Nat.le_trans hbW.size h);have hb1:Below wc.heap.size wc w1:=hbW.trans (hap1.below hbW.size fun j hj h=>(by have:=Option.some.inj h;simp at this;omega));have hS1:Below wc.heap.size wc w1∧w1.cell? ⟨b,o+k*2,none⟩=some (.slice p1 L.length c1):=⟨hb1,z6 t0 hb1⟩;(first | have HBC:Hid (w1.cell? ⟨wc.heap.size+1,0,none⟩=some (.slice p1 L.length c1)∧w1.cell? ⟨wc.heap.size+1,1,none⟩=some (.slice pV CV.length cV)∧¬ v1.ownBlock=some (wc.heap.size+1)):=qh (z41 hap1 hn1) | have HBC:Hid (w1.cell? ⟨wc.heap.size,0,none⟩=some (.slice p1 L.length c1)∧w1.cell? ⟨wc.heap.size,1,none⟩=some (.slice pV CV.length cV)∧¬ v1.ownBlock=some wc.heap.size):=qh (z24 hap1 hn1) | skip);have HR1x:=qh hR1;have HN1:=qh hN1;clear hR1 hap1 hn1 hbW hN1 hb1)
                 | (refine o4.app (w:=w) (av0:=fun _=>False) (Q:=FrG) (es := []) (es2:=(es.take q)) (s2:=(.slice (some ⟨g,0,none⟩) q cr)) (v:=(.slice (some ⟨wc.heap.size+1,0,none⟩) 0 0)) rfl (by rfl) (.tmp 77) (.tmp 80) _ (by rfl) Tryz.underlying23 (by rfl) (by first | exact (z07 HR2.out.low _ rfl).below (Below.refl _ _).drew | exact ((z07 HR2.out.low _ rfl).below (z8 _ _)).below (Below.refl _ _).drew | exact (z07 (z7 HR2.out.low (z8 _ _)) _ (by simp)).below (Below.refl _ _).drew) (by rfl) (HTK.out _ _ (by first | assumption | exact And.left (by assumption)) (by intro j hj;have:=Option.some.inj hj;simp at this;omega)) (by rw [List.length_nil,List.length_take];omega) ?_;intro v1 w1 hR1 hap1 _ hn1;have hbW:=zo5 (N:=wc.heap.size) (wc:=wc) hap1 (by first | assumption | exact And.left (by assumption));have hN1:∀ j,v1.ownBlock=some j→wc.heap.size≤j:=(fun j hj=>by
                     rcases hn1 j hj with h | h
                     ·have:=Option.some.inj h;simp at this;omega
                     ·exact Nat.le_trans hbW.size h);have hb1:Below wc.heap.size wc w1:=hbW.trans (hap1.below hbW.size fun j hj h=>(by have:=Option.some.inj h;simp at this;omega));have hS1:Below wc.heap.size wc w1∧w1.cell? ⟨b,o+k*2,none⟩=some (.slice p1 L.length c1):=⟨hb1,z6 t0 hb1⟩;(first | have HBC:Hid (w1.cell? ⟨wc.heap.size+1,0,none⟩=some (.slice p1 L.length c1)∧w1.cell? ⟨wc.heap.size+1,1,none⟩=some (.slice pV CV.length cV)∧¬ v1.ownBlock=some (wc.heap.size+1)):=qh (z41 hap1 hn1) | have HBC:Hid (w1.cell? ⟨wc.heap.size,0,none⟩=some (.slice p1 L.length c1)∧w1.cell? ⟨wc.heap.size,1,none⟩=some (.slice pV CV.length cV)∧¬ v1.ownBlock=some wc.heap.size):=qh (z24 hap1 hn1) | skip);have HR1x:=qh hR1;have HN1:=qh hN1;clear hR1 hap1 hn1 hbW hN1 hb1)
                 | (refine o4.app (w:=w) (av0:=fun _=>False) (Q:=FrG) (es := []++(es.take q)) (es2 := [((.slice p1 L.length c1,.slice pV CV.length cV),(L,CV))]) (v:=v1) rfl (by rfl) (.tmp 81) (.tmp 89) _ (by rfl) Tryz.underlying23 (by rfl) (by first | exact HR1x.out | exact HR1x.out.below (z8 _ _)) (by rfl) (by first | exact y80 (e:=((.slice p1 L.length c1,.slice pV CV.length cV),(L,CV))) HBC.out.1 HBC.out.2.1 (fun h=>HBC.out.2.2 (h.elim (fun h=>h.elim) id)) ⟨rfl,rfl⟩ (HHE.out _ _ (by first | assumption | exact And.left (by assumption)) HN1.out) | exact y80 (e:=((.slice p1 L.length c1,.slice pV CV.length cV),(L,CV))) (by simp) (by simp) (fun h=>h.elim (fun h=>h.elim) (x25 HR1x.out)) ⟨rfl,rfl⟩ (HHE.out _ _ (by first | assumption | exact And.left (by assumption)) HN1.out)) (by simp <;> omega) ?_;intro v2 w2 hR2 hap2 _ hn2;have hbW:=zo5 (N:=wc.heap.size) (wc:=wc) hap2 (by first | assumption | exact And.left (by assumption));have hN2:∀ j,v2.ownBlock=some j→wc.heap.size≤j:=(fun j hj=>(hn2 j hj).elim (HN1.out j) fun h=>Nat.le_trans hbW.size h);have hb2:Below wc.heap.size wc w2:=hbW.trans (hap2.below hbW.size fun j hj h=>(by have:=HN1.out j h;omega));have hS2:Below wc.heap.size wc w2∧w2.cell? ⟨b,o+k*2,none⟩=some (.slice p1 L.length c1):=⟨hb2,z6 t0 hb2⟩;have HR2x:=qh hR2;have HN2:=qh hN2;clear hR2 hap2 hn2 hbW hN2 hb2)
                 | (refine o4.app (w:=w) (av0:=fun _=>False) (Q:=FrG) (es := []++(es.take q) ++ [((.slice p1 L.length c1,.slice pV CV.length cV),(L,CV))]) (es2:=(es.drop q)) (s2:=(.slice (some ⟨g,q*2,none⟩) (es.length - q) (cr - q))) (v:=v2) rfl (by rfl) (.tmp 90) (.tmp 93) _ (by rfl) Tryz.underlying23 (by rfl) HR2x.out (by rfl) (HDR.out _ _ hS2.1 HN2.out) (by simp <;> omega) ?_;intro v3 w3 hR3 hap3 _ _;have hb3:Below wc.heap.size wc w3:=hS2.1.trans (hap3.below hS2.1.size fun j hj h=>(by have:=HN2.out j h;omega));have hS3:Below wc.heap.size wc w3∧w3.cell? ⟨b,o+k*2,none⟩=some (.slice p1 L.length c1):=⟨hb3,z6 t0 hb3⟩;have HR3x:=qh hR3;clear hR3 hap3 hb3))
           all_goals
                go_wp2_with fail
                go_roundg (F.length - (k+1))
                case measure=>omega
                case rel=>exact ⟨k+1,_,by go_num,by omega,Nat.le_refl _,HR3x.out,fun h=>(by simp at h),by rw [HX3.out];simp [← HG.out]⟩
  ·obtain rfl:k=F.length:=by omega
   rw [List.take_of_length_le (Nat.le_refl _)] at hes
   have HR:=qh hR
   have HES:=qh hes
   clear hR hes
   go_wp2_with fail
   go_ret
   exact ⟨_,es,rfl,HR.out,HES.out⟩
end Go.Proofs.YtchndljcahjldaaGreatDoor
