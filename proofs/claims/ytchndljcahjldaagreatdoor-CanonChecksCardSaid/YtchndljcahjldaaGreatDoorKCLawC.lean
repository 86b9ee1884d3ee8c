/- The law CanonChecks in every state. Conditions: the fixed values of errors.errorType and of the tables of package bits. -/
import Derived.Test.YtchndljcahjldaaGreatDoorKCRef
namespace Go.Proofs.YtchndljcahjldaaGreatDoor
open Go.RowKit
set_option maxRecDepth 100000 in
set_option maxHeartbeats 4000000 in
theorem yb5 (va:Value) (w:World) (hg:z61 w) (ha:zq9 w va) :
 Calls Tryz.prog 3 #[va] w (t7 true w):=by
 have KL:=qh (fun W h=>zo4 W h)
 have HG_0:=qh hg;clear hg
 obtain ⟨⟨pa,na,ca,rfl⟩,ba,hfa,hva⟩:=ha.few
 have KFa:=qh hfa;have HVa:=qh hva;clear hfa hva ha
 go_enter Tryz.func3,Tryz.ntmps3
 go_wp2_with fail
 refine (KFa.out _ (Below.refl _ _)).mono ?_
 rintro e w1 ⟨rfl,h⟩
 have HG_1:=qh (HG_0.out.here h)
 clear HG_0
 have HB_1:=qh h
 clear h
 cases ba with
 | false =>
   go_wp2_with fail
   refine (KL.out _ HG_1.out).mono ?_
   rintro e w2 ⟨rfl,h⟩
   have HG_2:=qh (HG_1.out.here h)
   clear HG_1
   have HB_2:=qh (z7 HB_1.out h)
   clear h
   go_wp2_with fail
   go_ret
   exact ⟨rfl,HB_2.out⟩
 | true =>
   obtain ⟨A,hva,hsa⟩:=HVa.out (by trivial)
   have h64:=hva.m.all1
   have hgd:z11 A=none→x7 A:=fun e=>zr2 h64.1 h64.2 (by have h:=zo9 A;rw [e] at h;unfold zh9;rw [← h];rfl)
   have HVa_1:=qh (hva.call HB_1.out)
   clear hva h64
   have K1:=qh (fun W (hg:z61 W) (h:g8 W (.slice pa na ca) A)=>zx6 A (.slice pa na ca) W hg.e h hgd (wb2 hsa))
   have K2:=qh (fun W (h:g8 W (.slice pa na ca) A)=>ye3 A (.slice pa na ca) W h.m hsa hgd)
   have K3:=qh (fun W (hg:z61 W)=>show Calls Tryz.prog 13 #[za0 (z02 A)] W (yh1 (zv7 A) W) from zo5 (z02 A) W hg.e)
   have K4:=qh (fun W (hg:z61 W)=>show Calls Tryz.prog 14 #[za0 (z02 A)] W (yh1 (cAt A) W) from wx6 (z02 A) W hg.e)
   have K5:=qh (fun W (hg:z61 W) (h:g8 W (.slice pa na ca) A)=>(by have k:=ze3 A (.slice pa na ca) W hg.e h hgd (wb2 hsa);rw [xg8 A] at k;exact k:Calls Tryz.prog 15 #[.slice pa na ca] W (t7 (zv7 A == 0) W)))
   unfold z40 at K1
   clear hgd hsa
   generalize zv7 A=c1 at *
   generalize cAt A=c2 at *
   generalize za0 (z02 A)=ev at *
   by_cases hc0:c1=0
   ·subst hc0
    rw [show ((0:Int) == 0)=true from rfl] at K5
    go_wp2_with fail
    refine (K1.out _ HG_1.out HVa_1.out).mono ?_
    rintro e w2 ⟨rfl,h⟩
    have HG_2:=qh (HG_1.out.here h)
    clear HG_1
    have HVa_2:=qh (HVa_1.out.call h)
    clear HVa_1
    have HB_2:=qh (z7 HB_1.out h)
    clear h
    go_wp2_with fail
    refine (K2.out _ HVa_2.out).mono ?_
    rintro e w3 ⟨rfl,h⟩
    have HG_3:=qh (HG_2.out.here h)
    clear HG_2
    have HVa_3:=qh (HVa_2.out.call h)
    clear HVa_2
    have HB_3:=qh (z7 HB_2.out h)
    clear h
    go_wp2_with fail
    refine (KL.out _ HG_3.out).mono ?_
    rintro e w4 ⟨rfl,h⟩
    have HG_4:=qh (HG_3.out.here h)
    clear HG_3
    have HVa_4:=qh (HVa_3.out.call h)
    clear HVa_3
    have HB_4:=qh (z7 HB_3.out h)
    clear h
    go_wp2_with fail
    refine (K3.out _ HG_4.out).mono ?_
    rintro e w5 ⟨rfl,h⟩
    have HG_5:=qh (HG_4.out.here h)
    clear HG_4
    have HVa_5:=qh (HVa_4.out.call h)
    clear HVa_4
    have HB_5:=qh (z7 HB_4.out h)
    clear h
    go_wp2_with fail
    refine (K4.out _ HG_5.out).mono ?_
    rintro e w6 ⟨rfl,h⟩
    have HG_6:=qh (HG_5.out.here h)
    clear HG_5
    have HVa_6:=qh (HVa_5.out.call h)
    clear HVa_5
    have HB_6:=qh (z7 HB_5.out h)
    clear h
    go_wp2_with fail
    refine (K5.out _ HG_6.out HVa_6.out).mono ?_
    rintro e w7 ⟨rfl,h⟩
    have HG_7:=qh (HG_6.out.here h)
    clear HG_6
    have HVa_7:=qh (HVa_6.out.call h)
    clear HVa_6
    have HB_7:=qh (z7 HB_6.out h)
    clear h
    go_wp2_with fail
    go_ret
    exact ⟨by first | rfl | simp,HB_7.out⟩
   ·have e0:(c1 == 0)=false:=by simpa using hc0
    rw [e0] at K5
    go_wp2_with fail
    refine (K1.out _ HG_1.out HVa_1.out).mono ?_
    rintro e w2 ⟨rfl,h⟩
    have HG_2:=qh (HG_1.out.here h)
    clear HG_1
    have HVa_2:=qh (HVa_1.out.call h)
    clear HVa_1
    have HB_2:=qh (z7 HB_1.out h)
    clear h
    go_wp2_with fail
    refine (K2.out _ HVa_2.out).mono ?_
    rintro e w3 ⟨rfl,h⟩
    have HG_3:=qh (HG_2.out.here h)
    clear HG_2
    have HVa_3:=qh (HVa_2.out.call h)
    clear HVa_2
    have HB_3:=qh (z7 HB_2.out h)
    clear h
    go_wp2_with fail
    refine (KL.out _ HG_3.out).mono ?_
    rintro e w4 ⟨rfl,h⟩
    have HG_4:=qh (HG_3.out.here h)
    clear HG_3
    have HVa_4:=qh (HVa_3.out.call h)
    clear HVa_3
    have HB_4:=qh (z7 HB_3.out h)
    clear h
    go_wp2_with fail
    refine (K3.out _ HG_4.out).mono ?_
    rintro e w5 ⟨rfl,h⟩
    have HG_5:=qh (HG_4.out.here h)
    clear HG_4
    have HVa_5:=qh (HVa_4.out.call h)
    clear HVa_4
    have HB_5:=qh (z7 HB_4.out h)
    clear h
    go_wp2_with fail
    refine (K4.out _ HG_5.out).mono ?_
    rintro e w6 ⟨rfl,h⟩
    have HG_6:=qh (HG_5.out.here h)
    clear HG_5
    have HVa_6:=qh (HVa_5.out.call h)
    clear HVa_5
    have HB_6:=qh (z7 HB_5.out h)
    clear h
    go_wp2_with fail
    refine (K5.out _ HG_6.out HVa_6.out).mono ?_
    rintro e w7 ⟨rfl,h⟩
    have HG_7:=qh (HG_6.out.here h)
    clear HG_6
    have HVa_7:=qh (HVa_6.out.call h)
    clear HVa_6
    have HB_7:=qh (z7 HB_6.out h)
    clear h
    go_wp2_with fail
    go_ret
    exact ⟨by first | rfl | simp,HB_7.out⟩
end Go.Proofs.YtchndljcahjldaaGreatDoor
