/- slices.Sort on numbers of 64 bits: it permutes the row, which is sorted. Conditions: fewer than 65536 numbers; as each theorem says.  -/
import Derived.Test.YtchndljcahjldaaGreatDoorMUSortE
import Derived.Test.YtchndljcahjldaaGreatDoorMUSortG
import Derived.Deep.CutRange
namespace Go.Proofs.YtchndljcahjldaaGreatDoor
set_option maxRecDepth 100000
set_option maxHeartbeats 20000000
open Go.RowKit
open Go.Sort hiding Below
variable {a0 b0 a b mid:Nat} {d dk R d4:Array Int}
structure PS (a0 b0 a b:Nat) (d dk:Array Int):Prop where
 perm:PermIn a0 b0 d dk
 below:Go.Sort.Below ltInt a b dk
 fin:∀ R,PermIn a b dk R→SortedIn ltInt a b R→SortedIn ltInt a0 b0 R
 b1:a0≤a
 b2:a≤b
 b3:b≤b0
 b4:b0≤d.size
theorem PS.size (h:PS a0 b0 a b d dk):dk.size=d.size:=h.perm.1
theorem PS.start (h1:a≤b) (h2:b≤d.size) (hb:Go.Sort.Below ltInt a b d):PS a b a b d d:=⟨permIn_refl _ _ _,hb,fun _ _ h=>h,Nat.le_refl _,h1,Nat.le_refl _,h2⟩
theorem PS.wide (h:PS a0 b0 a b d dk) (hp:PermIn a b dk R):PermIn a0 b0 d R:=
 permIn_trans _ _ _ _ _ h.perm (permIn_mono _ _ _ _ _ _ h.b1 h.b3 (by rw [h.size];exact h.b4) hp)
theorem PS.step {d1:Array Int} (h:PS a0 b0 a b d dk) (hp:PermIn a b dk d1):PS a0 b0 a b d d1:=
 ⟨h.wide hp,Go.Sort.Below.perm h.below (by have:=h.size;have:=h.b3;have:=h.b4;omega) hp,fun R hR hs=>h.fin R (permIn_trans _ _ _ _ _ hp hR) hs,h.b1,h.b2,h.b3,h.b4⟩
theorem PS.done (h:PS a0 b0 a b d dk) (hp:PermIn a b dk R) (hs:SortedIn ltInt a b R):PermIn a0 b0 d R∧SortedIn ltInt a0 b0 R:=⟨h.wide hp,h.fin R hp hs⟩
theorem PS.eqs {q:Nat} (h:PS a0 b0 a b d dk) (ha0:0<a) (_hq1:a≤q) (_hq2:q<b) (hnl:ltInt dk[a - 1]! dk[q]! = false)
 (hf:a<mid∧mid≤b∧PermIn a b dk d4∧(∀ t,a≤t→t<mid→ltInt dk[q]! d4[t]! = false)∧(∀ t,mid≤t→t<b→ltInt dk[q]! d4[t]! = true)):PS a0 b0 mid b d d4:=by
 obtain ⟨h1,h2,hp,hle,hgt⟩:=hf
 have hsz:=h.size
 have hb:b≤dk.size:=by have:=h.b3;have:=h.b4;omega
 have hb4:b≤d4.size:=by rw [hp.1];exact hb
 have low:∀ t,a≤t→t<b→ltInt dk[t]! dk[q]! = false:=fun t h3 h4=>by
  rcases h.below with h0 | h0
  ·omega
  ·exact swo_ltInt.ntrans _ _ _ (h0 t h3 h4) hnl
 have low4:=permIn_all dk d4 a b (fun x=>ltInt x dk[q]! = false) hb hp low
 have hbelow:Go.Sort.Below ltInt mid b d4 := .inr fun i h3 h4=>by
  cases hc:ltInt d4[i]! d4[mid - 1]! with
  | false=>rfl
  | true =>
    have:=swo_ltInt.trans _ _ _ (hgt i h3 h4) hc
    rw [hle (mid - 1) (by omega) (by omega)] at this
    cases this
 refine ⟨h.wide hp,hbelow,fun R hR hs=>h.fin R ?_ ?_,by have:=h.b1;omega,h2,h.b3,h.b4⟩
 ·exact permIn_trans _ _ _ _ _ hp (permIn_mono _ _ _ _ _ _ (by omega) (Nat.le_refl _) hb4 hR)
 ·refine sorted_glue_eq swo_ltInt dk[q]! hs (fun i h3 h4 => ?_) (fun i h3 h4 => ?_) (permIn_all d4 R mid b (fun x=>ltInt dk[q]! x=true) hb4 hR hgt)
  ·rw [hR.2.1 i (.inl h4)];exact hle i h3 h4
  ·rw [hR.2.1 i (.inl h4)];exact low4 i h3 (by omega)
def xc4 (a b mid:Nat) (dk d4:Array Int):Prop:=a≤mid∧mid<b∧PermIn a b dk d4∧(∀ t,a≤t→t<mid→ltInt d4[t]! d4[mid]! = true)∧(∀ t,mid<t→t<b→ltInt d4[t]! d4[mid]! = false)
theorem xc4.sorted (hm:R[mid]! = d4[mid]!) (hl:∀ t,a≤t→t<mid→ltInt R[t]! d4[mid]! = true) (hr:∀ t,mid<t→t<b→ltInt R[t]! d4[mid]! = false)
 (h1:SortedIn ltInt a mid R) (h2:SortedIn ltInt (mid+1) b R):SortedIn ltInt a b R:=
 sorted_glue swo_ltInt h1 h2 (fun i h3 h4=>by rw [hm];exact hl i h3 h4) (fun i h3 h4=>by rw [hm];exact hr i h3 h4)
theorem PS.left (h:PS a0 b0 a b d dk) (hf:xc4 a b mid dk d4) :
 Go.Sort.Below ltInt a mid d4∧∀ M,PermIn a mid d4 M→SortedIn ltInt a mid M→PS a0 b0 (mid+1) b d M:=by
 obtain ⟨h1,h2,hp,hlo,hhi⟩:=hf
 have h4:=h.step hp
 have hs4:=h4.size
 have b3:=h.b3
 have b4:=h.b4
 have hb4:b≤d4.size:=by omega
 refine ⟨h4.below.mono (by omega),fun M hM hs => ?_⟩
 have hbM:b≤M.size:=by rw [hM.1];exact hb4
 have hMa:PermIn a b d4 M:=permIn_mono _ _ _ _ _ _ (Nat.le_refl _) (by omega) hb4 hM
 have far:∀ t,mid≤t→M[t]! = d4[t]! := fun t ht=>hM.2.1 t (.inr ht)
 refine ⟨h4.wide hMa,.inr fun i h5 h6 => ?_,fun R hR hsR=>h4.fin R ?_ ?_,by have:=h.b1;omega,by omega,b3,b4⟩
 ·rw [Nat.add_sub_cancel,far i (by omega),far mid (Nat.le_refl _)];exact hhi i (by omega) h6
 ·exact permIn_trans _ _ _ _ _ hMa (permIn_mono _ _ _ _ _ _ (by omega) (Nat.le_refl _) hbM hR)
 ·have near:∀ t,t≤mid→R[t]! = M[t]! := fun t ht=>hR.2.1 t (.inl (by omega))
  refine xc4.sorted (d4:=d4) (by rw [near mid (Nat.le_refl _),far mid (Nat.le_refl _)]) (fun t h5 h6 => ?_) (fun t h5 h6 => ?_) (hs.congr fun i _ h6=>near i (by omega)) hsR
  ·rw [near t (by omega)]
   exact permIn_all d4 M a mid (fun x=>ltInt x d4[mid]! = true) (by omega) hM hlo t h5 h6
  ·exact permIn_all M R (mid+1) b (fun x=>ltInt x d4[mid]! = false) hbM hR (fun k h7 h8=>by rw [far k (by omega)];exact hhi k (by omega) h8) t (by omega) h6
theorem PS.right (h:PS a0 b0 a b d dk) (hf:xc4 a b mid dk d4) :
 Go.Sort.Below ltInt (mid+1) b d4∧∀ M,PermIn (mid+1) b d4 M→SortedIn ltInt (mid+1) b M→PS a0 b0 a mid d M:=by
 obtain ⟨h1,h2,hp,hlo,hhi⟩:=hf
 have h4:=h.step hp
 have hs4:=h4.size
 have b3:=h.b3
 have b4:=h.b4
 have hb4:b≤d4.size:=by omega
 refine ⟨.inr fun i h5 h6=>by rw [Nat.add_sub_cancel];exact hhi i (by omega) h6,fun M hM hs => ?_⟩
 have hbM:b≤M.size:=by rw [hM.1];exact hb4
 have hMa:PermIn a b d4 M:=permIn_mono _ _ _ _ _ _ (by omega) (Nat.le_refl _) hb4 hM
 have far:∀ t,t≤mid→M[t]! = d4[t]! := fun t ht=>hM.2.1 t (.inl (by omega))
 refine ⟨h4.wide hMa,?_,fun R hR hsR=>h4.fin R ?_ ?_,h.b1,h1,by omega,b4⟩
 ·rcases h4.below with h0 | h0
  ·exact .inl h0
  ·exact .inr fun i h5 h6=>by rw [far i (by omega),far (a - 1) (by omega)];exact h0 i h5 (by omega)
 ·exact permIn_trans _ _ _ _ _ hMa (permIn_mono _ _ _ _ _ _ (Nat.le_refl _) (by omega) hbM hR)
 ·have near:∀ t,mid≤t→R[t]! = M[t]! := fun t ht=>hR.2.1 t (.inr ht)
  refine xc4.sorted (d4:=d4) (by rw [near mid (Nat.le_refl _),far mid (Nat.le_refl _)]) (fun t h5 h6 => ?_) (fun t h5 h6 => ?_) hsR (hs.congr fun i h6 _=>near i (by omega))
  ·exact permIn_all M R a mid (fun x=>ltInt x d4[mid]! = true) (by omega) hR (fun k h7 h8=>by rw [far k (by omega)];exact hlo k h7 h8) t h5 h6
  ·rw [near t (by omega)]
   exact permIn_all d4 M (mid+1) b (fun x=>ltInt x d4[mid]! = false) hb4 hM (fun k h7 h8=>hhi k (by omega) h8) t (by omega) h6
def vb7 (N:Nat):Prop:=∀ (g o cap n:Nat) (d:Array Int),d.size=n→∀ (a b L:Nat) (w:World),b - a=N→z74 w g o d→a≤b→b≤d.size→d.size<65536→L≤1000→Go.Sort.Below ltInt a b d →
 Calls Tryz.prog 242 #[.slice (some ⟨g,o,none⟩) n cap,.int .i64 a,.int .i64 b,.int .i64 L] w (zy0 g o (fun d'=>PermIn a b d d'∧SortedIn ltInt a b d') w)
theorem v95 (N:Nat):vb7 N:=by
 induction N using Nat.strongRecOn with
 | ind N ih =>
 intro g o cap n d hn a0 b0 L0 w hN hH hab hb hsz hL0 hbel
 subst hn
 have IH:=qh ih;clear ih
 have HH:=qh hH;clear hH
 have HS0:=qh (PS.start hab hb hbel);clear hbel
 go_enter Tryz.func242,Tryz.ntmps242
 go_wp2_with fail
 go_loopg [1,2,3,8,9] (b0 - a0) (fun z va vb vl v8 v9 wr=>∃ (a b L:Nat) (wb wp:Bool) (dk:Array Int),va = .int .i64 a∧vb = .int .i64 b∧vl = .int .i64 L∧v8 = .bool wb∧v9 = .bool wp∧b - a≤z∧L≤1000∧PS a0 b0 a b d dk∧m6 w g o dk wr)
 case atStart=>exact ⟨a0,b0,L0,true,true,d,rfl,rfl,rfl,rfl,rfl,Nat.le_refl _,hL0,HS0.out,m6.start HH.out⟩
 case round =>
  obtain ⟨a,b,L,wb,wp,dk,rfl,rfl,rfl,rfl,rfl,hz,hL,hst,hr⟩:=hrel
  have b1:=hst.b1
  have b2:=hst.b2
  have b3:=hst.b3
  have hs:dk.size=d.size:=hst.size
  have HS:=qh hst
  have HR:=qh hr;clear hr
  clear hst HS0
  obtain ⟨l,hl⟩:∃ l:Nat,b - a=l:=⟨_,rfl⟩
  have e1:(b:Int) - (a:Int)=(l:Int):=by omega
  by_cases h12:l≤12
  ·go_wp2_with (go_at_call 258;refine (xc3 g o cap d.size dk hs a b wr HR.out.row b2 (by omega) (by omega)).mono ?_;rintro e w1 ⟨rfl,d1,hp,hr⟩)
   (try simp only [Exit.inBlock,Exit.then]);refine bodyPost_ret (results_none rfl _ _ _) rfl ?_
   exact ⟨rfl,d1,HS.out.done hp.1 hp.2,HR.out.trans hr⟩
  ·by_cases hL1:L=0
   ·subst hL1
    go_wp2_with (go_at_call 259;refine (v11 g o cap d.size dk hs a b wr HR.out.row b2 (by omega) (by omega)).mono ?_;rintro e w1 ⟨rfl,d1,hp,hr⟩)
    (try simp only [Exit.inBlock,Exit.then]);refine bodyPost_ret (results_none rfl _ _ _) rfl ?_
    exact ⟨rfl,d1,HS.out.done hp.1 hp.2,HR.out.trans hr⟩
   ·have e2:((L:Int) == 0)=false:=by simpa using hL1
    go_upto_if 35 with fail
    go_cut [3] from 19 (fun s3 wx=>∃ (L1:Nat) (d1:Array Int),s3 = .int .i64 L1∧L1≤1000∧PS a0 b0 a b d d1∧m6 w g o d1 wx)
    case first =>
     cases wb with
     | true =>
       go_wp2_with fail
       go_meet
       case rel=>exact ⟨L,dk,rfl,hL,HS.out,HR.out⟩
     | false =>
       have e3:(L:Int) - 1=((L - 1:Nat):Int):=by omega
       go_wp2_with (go_at_call 260;refine (wt8 g o cap d.size dk hs a b wr HR.out.row (by omega) (by omega) (by omega)).mono ?_;rintro e w1 ⟨rfl,d1,hp,hr⟩;have HR:=qh (HR.out.trans hr);clear hr;have HS:=qh (HS.out.step hp);clear hp)
       go_meet
       case rel=>exact ⟨L - 1,d1,by first | rfl | rw [e3],by omega,HS.out,HR.out⟩
    case rest =>
     clear HS HR hs hL hL1 e2
     obtain ⟨L,d1,rfl,hL,hst,hr⟩:=hcut
     have hs:d1.size=d.size:=hst.size
     have HS:=qh hst;clear hst
     have HR:=qh hr;clear hr
     have K:=qh (wt7 g o cap d.size d1 hs a b wc HR.out.row (by omega) (by omega) (by omega))
     go_upto_if 50 with (go_at_call 261;refine K.out.mono ?_;rintro e w4 ⟨q,h,rfl,hq1,hq2,hh,hb4⟩;have hr:=HR.out.call hb4;have HR:=qh hr;clear hr;clear hb4)
     go_cut [11,12] from 19 (fun s11 s12 wx=>∃ (q:Nat) (h:Int) (d1:Array Int),s11 = .int .i64 q∧s12 = .int .i64 h∧a≤q∧q<b∧(h=0∨h=1)∧PS a0 b0 a b d d1∧m6 w g o d1 wx)
     case first =>
      rcases hh with rfl | rfl | rfl
      ·go_wp2_with fail
       go_meet
       case rel=>exact ⟨q,0,d1,rfl,rfl,hq1,hq2,.inl rfl,HS.out,HR.out⟩
      ·go_wp2_with fail
       go_meet
       case rel=>exact ⟨q,1,d1,rfl,rfl,hq1,hq2,.inr rfl,HS.out,HR.out⟩
      ·obtain ⟨q5,hq5⟩:∃ q5:Nat,b - 1 - (q - a)=q5:=⟨_,rfl⟩
       have e4:(b:Int) - 1 - ((q:Int) - (a:Int))=(q5:Int):=by omega
       have hq51:a≤q5∧q5<b:=by omega
       clear hq5 K
       go_wp2_with (go_at_call 262;refine (w47 g o cap d.size d1 hs a b w4 HR.out.row (by omega) (by omega) (by omega)).mono ?_;rintro e w5 ⟨rfl,d5,hp,hr⟩;have HR:=qh (HR.out.trans hr);clear hr;have HS:=qh (HS.out.step hp);clear hp)
       go_meet
       case rel=>exact ⟨q5,1,d5,rfl,rfl,hq51.1,hq51.2,.inr rfl,HS.out,HR.out⟩
     case rest =>
      clear HS HR hs K hq1 hq2 hh h q
      obtain ⟨q,h,d2,rfl,rfl,hq1,hq2,hh,hst,hr⟩:=hcut
      have hs:d2.size=d.size:=hst.size
      have HS:=qh hst;clear hst
      have HR:=qh hr;clear hr
      go_upto_region 15 with fail
      go_cut [12,68] from 19 (fun s12 s68 wx=>s12 = .int .i64 h∧(∃ x,s68 = .bool x)∧wx=wc)
      case first =>
       rcases hh with rfl | rfl <;> cases wb <;> cases wp <;>
              (go_wp2_with fail
               go_meet
               exact ⟨rfl,⟨_,rfl⟩,rfl⟩)
      case rest =>
       obtain ⟨rfl,⟨x,rfl⟩,rfl⟩:=hcut
       go_upto_if 68 with fail
       go_cut [] from 19 (fun wx=>∃ d1:Array Int,PS a0 b0 a b d d1∧m6 w g o d1 wx)
       case first =>
              cases x with
              | false =>
                go_wp2_with fail
                go_meet
                case rel=>exact ⟨d2,HS.out,HR.out⟩
              | true =>
                have HPI:=qh (partialInsertionSort_holds swo_ltInt d2 a b (by omega) (by omega) HS.out.below)
                have K0:=w48 g o cap d.size d2 hs a b wc HR.out.row (by omega) (by omega) (by omega)
                obtain ⟨y,hy⟩:∃ y,(partialInsertionSort ltInt d2 a b).2=y:=⟨_,rfl⟩
                obtain ⟨d6,hd6⟩:∃ d6,(partialInsertionSort ltInt d2 a b).1=d6:=⟨_,rfl⟩
                rw [hy,hd6] at K0 HPI
                have K:=qh K0;clear K0 hy hd6
                cases y with
                | false =>
                  go_wp2_with (go_at_call 263;refine K.out.mono ?_;rintro e w6 ⟨rfl,hr⟩)
                  go_meet
                  case rel=>exact ⟨d6,HS.out.step HPI.out.1,HR.out.trans hr⟩
                | true =>
                  go_wp2_with (go_at_call 263;refine K.out.mono ?_;rintro e w6 ⟨rfl,hr⟩)
                  (try simp only [Exit.inBlock,Exit.then]);refine bodyPost_ret (results_none rfl _ _ _) rfl ?_
                  exact ⟨rfl,d6,HS.out.done HPI.out.1 (HPI.out.2 (by first | rfl | trivial)),HR.out.trans hr⟩
       case rest =>
              clear HS HR hs
              obtain ⟨d3,hst,hr⟩:=hcut
              have hs:d3.size=d.size:=hst.size
              have HS:=qh hst;clear hst
              have HR:=qh hr;clear hr
              go_upto_region 17 with fail
              go_cut [87] from 19 (fun s wx=>∃ y:Bool,s = .bool y∧(y=true→0<a∧ltInt d3[a - 1]! d3[q]! = false)∧m6 w g o d3 wx)
              case first =>
               have l1:a - 1<d.size:=by omega
               have l2:q<d.size:=by omega
               by_cases ha0:0<a
               ·obtain ⟨G,hG⟩:∃ G:Nat→Int,∀ t,d3[t]! = G t:=⟨fun t=>d3[t]!,fun _=>rfl⟩
                have hcw:∀ t,t<d.size→wc.cell? ⟨g,o+t,none⟩=some (.int .u64 (G t)):=fun t ht=>by rw [HR.out.row.cell (by omega),hG]
                have HG:=qh hG;clear hG
                go_quiet (first | (go_at_call 264;refine Calls.quiet_of_same (zs5 _ _ _)))
                go_wp2_with fail
                go_meet
                case rel=>exact ⟨_,rfl,fun h=>⟨ha0,by rw [HG.out,HG.out];simpa using h⟩,HR.out.drewN nq⟩
               ·have hcw:∀ t,t<d.size→wc.cell? ⟨g,o+t,none⟩=some (.int .u64 d3[t]!):=fun t ht=>HR.out.row.cell (by omega)
                go_quiet (first | (go_at_call 264;refine Calls.quiet_of_same (zs5 _ _ _)))
                go_wp2_with fail
                go_meet
                case rel=>exact ⟨false,rfl,fun h=>(by cases h),HR.out.drewN nq⟩
              case rest =>
               clear HR
               obtain ⟨y,rfl,hy,hr⟩:=hcut
               have HR:=qh hr;clear hr
               cases y with
               | true =>
                 obtain ⟨ha0,hb1⟩:=hy rfl
                 have HEQ:=qh (fun mid d4 hf=>HS.out.eqs (q:=q) (mid:=mid) (d4:=d4) ha0 hq1 hq2 hb1 hf)
                 have K:=qh (wi7 g o cap d.size d3 hs a b q wc HR.out.row hq1 hq2 (by omega) (by omega))
                 clear hb1 hy
                 go_wp2_with (go_at_call 265;refine K.out.mono ?_;rintro e w8 ⟨mid,d8,rfl,hf8,hr⟩)
                 have HS9:=qh (HEQ.out mid d8 hf8)
                 go_roundg (b - mid)
                 case measure=>have:=hf8.1;have:=hf8.2.1;omega
                 case rel=>exact ⟨mid,b,L,_,_,d8,rfl,rfl,rfl,rfl,rfl,Nat.le_refl _,hL,HS9.out,HR.out.trans hr⟩
               | false =>
                 clear hy
                 have K:=qh (v13 g o cap d.size d3 hs a b q wc HR.out.row hq1 hq2 (by omega) (by omega))
                 go_upto_if 113 with (go_at_call 266;refine K.out.mono ?_;rintro e w8 ⟨mid,x,d8,rfl,hf8,hr⟩;have HF:=qh hf8;have hm1:=hf8.1;have hm2:=hf8.2.1;have hs8:d8.size=d.size:=(by rw [hf8.2.2.1.1];exact hs);clear hf8;have hr:=HR.out.trans hr;have HR:=qh hr;clear hr)
                 clear K
                 by_cases hlr:mid - a<b - mid
                 ·have hlr':(mid:Int) - (a:Int)<(b:Int) - (mid:Int):=by omega
                  have HNX:=qh (HS.out.left HF.out).2
                  have K:=qh (IH.out (mid - a) (by omega) g o cap d.size d8 hs8 a mid L w8 rfl HR.out.row hm1 (by omega) (by omega) hL (HS.out.left HF.out).1)
                  go_wp2_with (go_at_call 242;refine K.out.mono ?_;rintro e w9 ⟨rfl,d9,hp,hr⟩)
                  have HS9:=qh (HNX.out d9 hp.1 hp.2)
                  go_roundg (b - (mid+1))
                  case measure=>omega
                  case rel=>exact ⟨mid+1,b,L,_,x,d9,by go_num,rfl,rfl,rfl,rfl,Nat.le_refl _,hL,HS9.out,HR.out.trans hr⟩
                 ·have hlr':¬ (mid:Int) - (a:Int)<(b:Int) - (mid:Int):=by omega
                  obtain ⟨m1,hm3⟩:∃ m1:Nat,mid+1=m1:=⟨_,rfl⟩
                  have HRT:=HS.out.right HF.out
                  rw [hm3] at HRT
                  have HNX:=qh HRT.2
                  have K:=qh (IH.out (b - m1) (by omega) g o cap d.size d8 hs8 m1 b L w8 rfl HR.out.row (by omega) (by omega) (by omega) hL HRT.1)
                  have e9:(mid:Int)+1=(m1:Int):=by omega
                  clear HRT
                  go_wp2_with (go_at_call 242;refine K.out.mono ?_;rintro e w9 ⟨rfl,d9,hp,hr⟩)
                  have HS9:=qh (HNX.out d9 hp.1 hp.2)
                  go_roundg (mid - a)
                  case measure=>omega
                  case rel=>exact ⟨a,mid,L,_,x,d9,rfl,rfl,rfl,rfl,rfl,Nat.le_refl _,hL,HS9.out,HR.out.trans hr⟩
theorem v12 (g o cap n:Nat) (d:Array Int) (hn:d.size=n) (w:World) (hH:z74 w g o d) (hsz:d.size<65536) :
 Calls Tryz.prog 221 #[.slice (some ⟨g,o,none⟩) n cap] w (zy0 g o (fun d'=>PermIn 0 d.size d d'∧SortedIn ltInt 0 d.size d') w):=by
 subst hn
 have KB:=qh (zu7 (d.size:Int) w (by omega) (by omega))
 rw [Int.toNat_natCast] at KB
 have hbl:=(zo2 (x:=d.size) (by omega)).2.2
 have K:=qh (v95 d.size g o cap d.size d rfl 0 d.size (Lib.bitLen d.size) w rfl hH (Nat.zero_le _) (Nat.le_refl _) hsz (by omega) (.inl rfl));clear hH
 generalize Lib.bitLen d.size=L at *
 go_enter Tryz.func221,Tryz.ntmps221
 go_wp2_with fail
 refine KB.out.mono ?_
 rintro e w' ⟨rfl,rfl⟩
 go_wp2_with fail
 refine K.out.mono ?_
 rintro e w2 ⟨rfl,h⟩
 go_wp2_with fail
 go_end0
 exact ⟨rfl,h⟩
end Go.Proofs.YtchndljcahjldaaGreatDoor
