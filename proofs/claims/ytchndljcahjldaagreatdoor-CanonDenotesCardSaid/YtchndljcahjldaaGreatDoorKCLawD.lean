/- The law CanonDenotes in every state. Conditions: the fixed values of errors.errorType and of the tables of package bits. -/
import Derived.Test.YtchndljcahjldaaGreatDoorKCSegM
namespace Go.Proofs.YtchndljcahjldaaGreatDoor
open Go.RowKit
set_option maxRecDepth 100000 in
set_option maxHeartbeats 4000000 in
theorem y46 (va:Value) (t r c:Int) (w:World) (hg:z61 w) (ha:zq9 w va) (nt:0≤t∧t≤18446744073709551615) (nc:0≤c∧c≤18446744073709551615) :
 Calls Tryz.prog 5 #[va,.agg #[.int .u64 t,.int .u64 r,.int .u64 c]] w (t7 true w):=by
 have KL:=qh (fun W h=>zo4 W h)
 have HG_0:=qh hg;clear hg
 obtain ⟨⟨pa,na,ca,rfl⟩,ba,hfa,hva⟩:=ha.right13
 have KFa:=qh hfa;have HVa:=qh hva;clear hfa hva ha
 obtain ⟨w1,hw1⟩:∃ w',w.alloc (.cells #[.int .u64 t,.int .u64 r,.int .u64 c] 38)=w':=⟨_,rfl⟩
 have h:Below w.heap.size w w1:=hw1 ▸ z8 w _
 have HG_1:=qh (HG_0.out.here h)
 clear HG_0
 have HB_1:=qh h
 clear h
 have HX_1:=qh (show E3 w1 w.heap.size t r (.int .u64 c) from hw1 ▸ E3.new w t r (.int .u64 c) 38 _ rfl)
 go_enter Tryz.func5,Tryz.ntmps5
 go_wp2_with fail
 clear hw1
 refine (KFa.out _ HB_1.out).mono ?_
 rintro e w2 ⟨rfl,h⟩
 have HG_2:=qh (HG_1.out.here h)
 clear HG_1
 have HX_2:=qh (HX_1.out.call h)
 clear HX_1
 have HB_2:=qh (z7 HB_1.out h)
 clear h
 cases ba with
 | false =>
   go_wp2_with fail
   refine (KL.out _ HG_2.out).mono ?_
   rintro e w3 ⟨rfl,h⟩
   have HG_3:=qh (HG_2.out.here h)
   clear HG_2
   have HX_3:=qh (HX_2.out.call h)
   clear HX_2
   have HB_3:=qh (z7 HB_2.out h)
   clear h
   go_wp2_with fail
   go_ret
   exact ⟨rfl,HB_3.out⟩
 | true =>
   obtain ⟨A,hva,hsa,hgood⟩:=HVa.out (by trivial)
   have HVa_2:=qh (hva.call HB_2.out)
   clear hva
   have hrg:=o7 hgood
   have hmr:=zm7 hsa
   have hgl:(m8 (r3 A)).length≤500:=Nat.le_trans (xo2 _) hmr.1
   have hgg:x7 (m8 (r3 A)):=xe8 (r3 A) [] (fun x hx=>by cases hx) hrg
   have hgm:midI (m8 (r3 A)):=⟨hgl,by have h1:=yn0 (r3 A) [] (fun x hx=>by cases hx) hrg;have h2:=hmr.2;simp only [flatK,List.flatMap_nil,List.length_nil] at h1 h2 ⊢;unfold m8;omega⟩
   obtain ⟨d,hd⟩:∃ d,m5 A t r c=d:=⟨_,rfl⟩
   have hd2:=((ze6 hrg t r nc.1).trans (zg4 hgood nt.1 nt.2 r nc.1)).trans hd
   have K1:=qh (fun W (hg:z61 W) (h:g8 W (.slice pa na ca) A)=>zt1 A (.slice pa na ca) W hg.d h hgood hsa.midI fun _=>⟨hsa.deep,zm7 hsa⟩)
   have K3:=qh (fun s W (hg:z61 W) (h:g8 W s (m8 (r3 A)))=>(by have k:=yk0 (m8 (r3 A)) s W hg.e h;rw [zo2 hgg] at k;exact k:Calls Tryz.prog 20 #[s] W (z40 none W)))
   have K4:=qh (fun s W h=>(hd2 ▸ wg2 (m8 (r3 A)) s t r c W h hgg nc.1 nc.2:Calls Tryz.prog 21 #[s,.int .u64 t,.int .u64 r,.int .u64 c] W (t7 d W)))
   have K5:=qh (fun W (h:g8 W (.slice pa na ca) A)=>(hd ▸ x01 A (.slice pa na ca) t r c W h.m:Calls Tryz.prog 22 #[.slice pa na ca,.int .u64 t,.int .u64 r,.int .u64 c] W (t7 d W)))
   unfold z40 at K3
   rw [show za0 none = .nilIface from rfl] at K3
   clear hd hd2 hgood hsa nt nc hrg hmr hgl hgg hgm
   generalize m8 (r3 A)=RA at *
   have hx0:=HX_2.out.1
   go_wp2_with fail
   refine (K1.out _ HG_2.out HVa_2.out).mono ?_
   rintro e w3 ⟨u,rfl,hu,_,h⟩
   obtain ⟨pu,cu,rfl⟩:=hu.m.shape
   have HG_3:=qh (HG_2.out.here h)
   clear HG_2
   have HX_3:=qh (HX_2.out.call h)
   clear HX_2
   have HVa_3:=qh (HVa_2.out.call h)
   clear HVa_2
   have HB_3:=qh (z7 HB_2.out h)
   clear h
   clear hx0
   have HU_3:=qh (hu)
   clear hu
   have HS:=qh (xt2 ⟨Below.refl w3.heap.size w3,HX_3.out.1,HX_3.out.2.1,HX_3.out.2.2⟩ (Below.refl _ _).drew)
   go_wp2_with fail
   go_region_held3 (fun w'=>Below w3.heap.size w3 w'∧w'.cell? ⟨w.heap.size,0,none⟩=some (.int .u64 t)∧w'.cell? ⟨w.heap.size,1,none⟩=some (.int .u64 r)∧w'.cell? ⟨w.heap.size,2,none⟩=some (.int .u64 c))
    (first
      | exact xt2 (by assumption) (Hid.out (by assumption))
      | exact HS.out
      | assumption)
    (first
      | (go_at_call 10;refine (KL.out _ (HG_3.out.here HS.out.1)).mono ?_;rintro en w' ⟨rfl,h'⟩;have h':=qh h')
      | (go_at_call 20;refine (K3.out _ _ (HG_3.out.here (And.left (by assumption))) (HU_3.out.call (And.left (by assumption)))).mono ?_;rintro en w' ⟨rfl,h'⟩;have h':=qh h')
      | (go_at_call 21;refine (K4.out _ _ (HU_3.out.call (And.left (by assumption)))).mono ?_;rintro en w' ⟨rfl,h'⟩;have h':=qh h')
      | (go_at_call 22;refine (K5.out _ (HVa_3.out.call (And.left (by assumption)))).mono ?_;rintro en w' ⟨rfl,h'⟩;have h':=qh h'))
   all_goals
    rename_i hE
    have HE:=qh (z7 HB_3.out hE.1)
    clear hE
    go_wp2_with fail
    go_ret
    exact ⟨by simp,HE.out⟩
end Go.Proofs.YtchndljcahjldaaGreatDoor
