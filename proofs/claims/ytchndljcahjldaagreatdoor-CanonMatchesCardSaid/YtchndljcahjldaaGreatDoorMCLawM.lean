/- The law CanonMatches in every state. Conditions: the fixed values of errors.errorType and of the tables of package bits. -/
import Derived.Test.YtchndljcahjldaaGreatDoorMCSegM
import Derived.Test.YtchndljcahjldaaGreatDoorMCRefC
namespace Go.Proofs.YtchndljcahjldaaGreatDoor
open Go.RowKit
set_option maxRecDepth 100000 in
set_option maxHeartbeats 4000000 in
theorem y41 (va:Value) (w:World) (hg:zh3 w) (ha:y55 w va) :
 Calls Tryz.prog 4 #[va] w (q8 true w):=by
 have KL:=qh (fun W h=>x44 W h)
 have HG_0:=qh hg;clear hg
 obtain ⟨⟨pa,na,ca,rfl⟩,ba,hfa,hva⟩:=ha.right13
 have KFa:=qh hfa;have HVa:=qh hva;clear hfa hva ha
 go_enter Tryz.func4,Tryz.ntmps4
 go_wp2_with fail
 refine (KFa.out _ (Below.refl _ _)).mono ?_
 rintro e w1 ⟨rfl,h⟩
 have HG_1:=qh (HG_0.out.here h)
 clear HG_0
 have HB_1:=qh h
 clear h
 cases ba with
 | false =>
   go_wp2_with fail
   refine (KL.out _ HG_1.out).mono ?_
   rintro e w2 ⟨rfl,h⟩
   have HG_2:=qh (HG_1.out.here h)
   clear HG_1
   have HB_2:=qh (z7 HB_1.out h)
   clear h
   go_wp2_with fail
   go_ret
   exact ⟨rfl,HB_2.out⟩
 | true =>
   obtain ⟨A,hva,hsa,hgood⟩:=HVa.out (by trivial)
   have HVa_1:=qh (hva.call HB_1.out)
   clear hva
   have hrg:=z11 hgood
   have hmr:=zy3 hsa
   have hgl:(q6 (s5 A)).length≤500:=Nat.le_trans (zy4 _) hmr.1
   have hgg:x9 (q6 (s5 A)):=ym4 (s5 A) [] (fun x hx=>by cases hx) hrg
   have hgm:midI (q6 (s5 A)):=⟨hgl,by have h1:=zy5 (s5 A) [] (fun x hx=>by cases hx) hrg;have h2:=hmr.2;simp only [flatK,List.flatMap_nil,List.length_nil] at h1 h2 ⊢;unfold q6;omega⟩
   have hap:apB (q6 (s5 A))=true:=decide_eq_true ((ze2 hgg).1 (zq0 hrg (zz6 hgood)))
   have K1:=qh (fun W (hg:zh3 W) (h:z08 W (.slice pa na ca) A)=>y44 A (.slice pa na ca) W hg.d h hgood hsa.midI fun _=>⟨hsa.deep,zy3 hsa⟩)
   have K2:=qh (fun W (h:z08 W (.slice pa na ca) A)=>ye5 A (.slice pa na ca) W h.m hgood hsa)
   have K3:=qh (fun s u W h h2=>(by have k:=ya2 (q6 (s5 A)) (q6 (s5 A)) s u W h h2;rw [show decide (q6 (s5 A)=q6 (s5 A))=true from by simp] at k;exact k:Calls Tryz.prog 18 #[s,u] W (q8 true W)))
   have K4:=qh (fun s W (hg:zh3 W) (h:z08 W s (q6 (s5 A)))=>(by have k:=ze7 (q6 (s5 A)) s W hg.e h (fun _=>hgg) (by have:=hgm.2;omega);rw [show za5 (q6 (s5 A))=none by (unfold za5;rw [zp7 hgg];exact xq1 (ze1 hrg) hap)] at k;exact k:Calls Tryz.prog 15 #[s] W (q8 true W)))
   have K5:=qh (fun s W (hg:zh3 W) (h:z08 W s (q6 (s5 A)))=>(by have k:=y44 (q6 (s5 A)) s W hg.d h hgg hgm (fun e=>by rw [hap] at e;cases e);rw [zm5 hgg ((ze2 hgg).2 (of_decide_eq_true hap)),x56 hrg] at k;exact k:Calls Tryz.prog 17 #[s] W (xm1 (q6 (s5 A)) W)))
   have HRL:=qh (show (q6 (s5 A)).length≤100000 by omega)
   clear hgood hsa hrg hmr hgl hgg hgm hap
   generalize q6 (s5 A)=RA at *
   go_wp2_with fail
   refine (K1.out _ HG_1.out HVa_1.out).mono ?_
   rintro e w2 ⟨u,rfl,hu,_,h⟩
   obtain ⟨pu,cu,rfl⟩:=hu.m.shape
   have HG_2:=qh (HG_1.out.here h)
   clear HG_1
   have HVa_2:=qh (HVa_1.out.call h)
   clear HVa_1
   have HB_2:=qh (z7 HB_1.out h)
   clear h
   have HU_2:=qh (hu)
   clear hu
   go_wp2_with fail
   refine (K2.out _ HVa_2.out).mono ?_
   rintro e w3 ⟨u2,rfl,hu2,h⟩
   obtain ⟨p2,c2,rfl⟩:=hu2.shape
   have HG_3:=qh (HG_2.out.here h)
   clear HG_2
   have HVa_3:=qh (HVa_2.out.call h)
   clear HVa_2
   have HU_3:=qh (HU_2.out.call h)
   clear HU_2
   have HB_3:=qh (z7 HB_2.out h)
   clear h
   have HI_3:=qh (hu2)
   clear hu2
   go_wp2_with fail
   refine (K3.out _ _ _ HU_3.out.m.i HI_3.out).mono ?_
   rintro e w4 ⟨rfl,h⟩
   have HG_4:=qh (HG_3.out.here h)
   clear HG_3
   have HVa_4:=qh (HVa_3.out.call h)
   clear HVa_3
   have HU_4:=qh (HU_3.out.call h)
   clear HU_3
   have HI_4:=qh (HI_3.out.call h)
   clear HI_3
   have HB_4:=qh (z7 HB_3.out h)
   clear h
   clear HI_4
   go_wp2_with fail
   refine (K4.out _ _ HG_4.out HU_4.out).mono ?_
   rintro e w5 ⟨rfl,h⟩
   have HG_5:=qh (HG_4.out.here h)
   clear HG_4
   have HVa_5:=qh (HVa_4.out.call h)
   clear HVa_4
   have HU_5:=qh (HU_4.out.call h)
   clear HU_4
   have HB_5:=qh (z7 HB_4.out h)
   clear h
   go_wp2_with fail
   refine (KL.out _ HG_5.out).mono ?_
   rintro e w6 ⟨rfl,h⟩
   have HG_6:=qh (HG_5.out.here h)
   clear HG_5
   have HVa_6:=qh (HVa_5.out.call h)
   clear HVa_5
   have HU_6:=qh (HU_5.out.call h)
   clear HU_5
   have HB_6:=qh (z7 HB_5.out h)
   clear h
   go_wp2_with fail
   refine (K5.out _ _ HG_6.out HU_6.out).mono ?_
   rintro e w7 ⟨u3,rfl,hu3,_,h⟩
   obtain ⟨p3,c3,rfl⟩:=hu3.m.shape
   have HG_7:=qh (HG_6.out.here h)
   clear HG_6
   have HVa_7:=qh (HVa_6.out.call h)
   clear HVa_6
   have HU_7:=qh (HU_6.out.call h)
   clear HU_6
   have HB_7:=qh (z7 HB_6.out h)
   clear h
   have HY_7:=qh (hu3)
   clear hu3
   go_wp2_with fail
   refine (K3.out _ _ _ HY_7.out.m.i HU_7.out.m.i).mono ?_
   rintro e w8 ⟨rfl,h⟩
   have HG_8:=qh (HG_7.out.here h)
   clear HG_7
   have HVa_8:=qh (HVa_7.out.call h)
   clear HVa_7
   have HU_8:=qh (HU_7.out.call h)
   clear HU_7
   have HY_8:=qh (HY_7.out.call h)
   clear HY_7
   have HB_8:=qh (z7 HB_7.out h)
   clear h
   go_wp2_with fail
   go_ret
   exact ⟨rfl,HB_8.out⟩
end Go.Proofs.YtchndljcahjldaaGreatDoor
