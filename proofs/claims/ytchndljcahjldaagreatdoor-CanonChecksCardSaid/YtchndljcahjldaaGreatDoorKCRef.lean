/- The reference of layer 13: wrong, Check, Right. -/
import Derived.Test.YtchndljcahjldaaGreatDoorKCSegM
namespace Go.Proofs.YtchndljcahjldaaGreatDoor
open Go.RowKit
theorem wx1 {F:u9} {n:Nat} (h:∀ (j:Nat) x y,j<n→F[n]? = some x→F[j]? = some y→zv0 x.1 y.1 = []):meK F n=false:=by
 unfold meK
 split
 ·rename_i x hx
  rw [List.any_eq_false]
  intro y hy
  obtain ⟨j,hj⟩:=List.mem_iff_getElem?.1 hy
  rw [List.getElem?_take] at hj
  split at hj
  ·rw [decide_eq_true (h j x y (by assumption) hx hj)];decide
  ·cases hj
 ·rfl
theorem wn6 {F:u9} {n k:Nat} {x y:List Iv × x6} (hk:k<n) (hx:F[n]? = some x) (hy:F[k]? = some y) (h:zv0 x.1 y.1 ≠ []):meK F n=true:=by
 rw [wa3 hx,List.any_eq_true]
 exact ⟨y,List.mem_of_getElem? (i:=k) (by rw [List.getElem?_take,if_pos hk];exact hy),by rw [decide_eq_false h];rfl⟩
set_option maxRecDepth 100000 in
set_option maxHeartbeats 8000000 in
theorem ye2 (F:u9) (v:Value) (n:Nat) (w:World) (hv:zc4 w v F) (hF:x7 F) (hs:z90 F) (hn:n<F.length):Calls Tryz.prog 37 #[v,.int .i64 n] w (zb9 (z85 F n) w):=by
 obtain ⟨p,cap,rfl⟩:=hv.shape
 have hlen:=hs.1
 have HLT:=qh hn
 obtain ⟨⟨L,V⟩,hx⟩:∃ x,F[n]? = some x:=⟨F[n],List.getElem?_eq_getElem hn⟩
 have HG:Hid (∀ (i:Nat) x,F[i]? = some x→v7 x.1∧x.1.length≤20):=qh fun i x hx=>⟨(hF x (List.mem_of_getElem? hx)).1,(hs.2 x (List.mem_of_getElem? hx)).1⟩
 have HHS:=qh (fun (i:Nat) x (hx:F[i]? = some x)=>fun y hy=>Nat.le_trans ((hs.2 x (List.mem_of_getElem? hx)).2.2 y hy) (show 30≤5000 by decide))
 have HV:=qh hv
 have KM:=qh xc4
 have HX:=qh hx
 have HC:=qh (zt4 hx)
 obtain ⟨b,o,cap',q,c,q2,c2,e,c0,c1,ha⟩:=hv.elem hx
 cases e
 have KC:=qh (y21 V (.slice q2 V.length c2) w ha.vec.m)
 have i1:(0:Int)≤(n:Int):=by omega
 have i2:(n:Int)<(F.length:Int):=by omega
 dsimp only at KC HC
 generalize hcv:(zd5 V && e8 V)=cv at *
 clear hv hF hs ha hcv hn
 by_cases h1:L.length=0
 ·have e1:((L.length:Int) == 0)=true:=by simpa using h1
  have HE:=qh (show z85 F n=9 by rw [HC.out];unfold zb2;rw [if_pos (show zn8 (L,V)=true by unfold zn8;simp [h1])])
  clear h1
  go_enter Tryz.func37,Tryz.ntmps37
  go_wp2_with fail
  go_ret
  exact ⟨by rw [HE.out];rfl,Below.refl _ _⟩
 ·have e1:((L.length:Int) == 0)=false:=by simpa using h1
  by_cases h2:V.length=0
  ·have e2:((V.length:Int) == 0)=true:=by simpa using h2
   have HE:=qh (show z85 F n=9 by rw [HC.out];unfold zb2;rw [if_pos (show zn8 (L,V)=true by unfold zn8;simp [h2])])
   clear h1 h2
   go_enter Tryz.func37,Tryz.ntmps37
   go_wp2_with fail
   go_ret
   exact ⟨by rw [HE.out];rfl,Below.refl _ _⟩
  ·have e2:((V.length:Int) == 0)=false:=by simpa using h2
   have HC1:=qh (HC.out.trans (show zb2 (zn8 (L,V)) (!cv || meK F n) (ngK F n)=zb2 false (!cv || meK F n) (ngK F n) by rw [show zn8 (L,V)=false by unfold zn8;simp [h1,h2]]))
   clear HC h1 h2
   cases cv with
   | false =>
     have HE:=qh (HC1.out.trans (show zb2 false (!false || meK F n) (ngK F n)=10 by rfl))
     go_enter Tryz.func37,Tryz.ntmps37
     go_wp2_with fail
     refine KC.out.mono ?_
     rintro e w1 ⟨rfl,h⟩
     have H1:=qh h
     clear h
     go_wp2_with fail
     go_ret
     exact ⟨by rw [HE.out];rfl,H1.out⟩
   | true =>
     have HC2:=qh (HC1.out.trans (show zb2 false (!true || meK F n) (ngK F n)=zb2 false (meK F n) (ngK F n) by rfl))
     clear HC1
     go_enter Tryz.func37,Tryz.ntmps37
     go_wp2_with fail
     refine KC.out.mono ?_
     rintro e w1 ⟨rfl,h⟩
     have H1:=qh h
     clear h
     go_wp2_with fail
     go_loopw [5] (fun j wr=>∃ k:Nat,j = .int .i64 k∧k≤n∧(∀ (j:Nat) x y,j<k→F[n]? = some x→F[j]? = some y→zv0 x.1 y.1 = [])∧Below w.heap.size w wr) (fun j _=>n - (intOf j).toNat)
     case atStart=>exact ⟨0,rfl,Nat.zero_le _,fun j x y hj=>absurd hj (Nat.not_lt_zero j),H1.out⟩
     case round =>
      obtain ⟨k,rfl,hk,hbef,hb⟩:=hrel
      have HBK:=qh hbef;clear hbef
      have HB:=qh hb;clear hb
      by_cases hlk:k<n
      ·have HLK:=qh hlk
       obtain ⟨⟨L',V'⟩,hy⟩:∃ x,F[k]? = some x:=⟨F[k]'(by have:=HLT.out;omega),by simp [show k<F.length by have:=HLT.out;omega]⟩
       obtain ⟨b1,o1,cap1,q1,c1',q21,c21,e,d0,_,ha⟩:=(HV.out.call HB.out).elem HX.out
       cases e
       obtain ⟨b',o',cap'',q',c',q2',c2',e,d1,_,ha'⟩:=(HV.out.call HB.out).elem hy
       cases e
       obtain ⟨g1,g1l⟩:=HG.out _ _ HX.out
       obtain ⟨g2,g2l⟩:=HG.out _ _ hy
       dsimp only at g1 g1l g2 g2l
       have K:=qh (fun W (hb:Below wr.heap.size wr W)=>KM.out L L' (.slice q1 L.length c1') (.slice q' L'.length c') W ⟨ha.at1.call hb,g1,by omega⟩ ⟨ha'.at1.call hb,g2,by omega⟩)
       have HX2:=qh (And.intro HX.out hy)
       have HS:=qh (yc8 ⟨Below.refl wr.heap.size wr,d0,d1⟩ (Below.refl _ _).drew)
       have i3:(0:Int)≤(k:Int):=by omega
       have i4:(k:Int)<(n:Int):=by omega
       have i5:(k:Int)<(F.length:Int):=by omega
       clear ha ha' hy g1 g1l g2 g2l c0 c1
       go_wp2_with fail
       go_region_held3 (fun w'=>Below wr.heap.size wr w'∧w'.cell? ⟨b,o+n*2,none⟩=some (.slice q1 L.length c1')∧w'.cell? ⟨b,o+k*2,none⟩=some (.slice q' L'.length c'))
        (first
            | exact yc8 (by assumption) (Hid.out (by assumption))
            | exact HS.out
            | assumption)
        ((go_at_call 68;refine (K.out _ (And.left (by assumption))).mono ?_;rintro en w' ⟨um,rfl,hum,h'⟩;obtain ⟨pm,cm,rfl,_⟩:=x8 hum;clear hum;have h':=qh h'))
       all_goals
        rename_i hE
        have HE:=qh (z7 HB.out hE.1)
        clear hE
        by_cases hq:zv0 L L' = []
        ·have e1:¬ (0:Int)<((zv0 L L').length:Int):=by rw [hq];simp
         have HN:Hid (∀ (j:Nat) x y,j<k+1→F[n]? = some x→F[j]? = some y→zv0 x.1 y.1 = []):=qh fun j x y hj hx hy=>by
             rcases Nat.lt_or_eq_of_le (Nat.le_of_lt_succ hj) with h1 | rfl
             ·exact HBK.out j x y h1 hx hy
             ·obtain rfl:=Option.some.inj (HX2.out.1.symm.trans hx)
              obtain rfl:=Option.some.inj (HX2.out.2.symm.trans hy)
              exact hq
         clear hq
         go_wp2_with fail
         go_roundw
         case rel=>exact ⟨k+1,by go_num,HLK.out,HN.out,HE.out⟩
         case measure=>have:=HLK.out;simp [intOf];omega
        ·have e1:(0:Int)<((zv0 L L').length:Int):=by have:=List.length_pos_iff.2 hq;omega
         have HZ:=qh (HC2.out.trans (show zb2 false (meK F n) (ngK F n)=10 by rw [wn6 HLK.out HX2.out.1 HX2.out.2 hq];rfl))
         clear hq
         go_wp2_with fail
         go_ret
         exact ⟨by rw [HZ.out];rfl,HE.out⟩
      ·obtain rfl:k=n:=by omega
       have HC3:=qh (HC2.out.trans (show zb2 false (meK F k) (ngK F k)=zb2 false false (ngK F k) by rw [wx1 HBK.out]))
       clear HBK HC2 c0 c1
       cases k with
       | zero =>
         have HE:=qh (HC3.out.trans (show zb2 false false (ngK F 0)=0 by rfl))
         go_wp2_with fail
         go_quiet (fail)
         go_wp2_with fail
         go_ret
         exact ⟨by rw [HE.out];rfl,below_drewN HB.out _⟩
       | succ j =>
         obtain ⟨⟨M,U⟩,hy⟩:∃ y,F[j]? = some y:=⟨F[j]'(by have:=HLT.out;omega),by simp [show j<F.length by have:=HLT.out;omega]⟩
         obtain ⟨b1,o1,cap1,q1,c1',q21,c21,e,_,d0,hax⟩:=(HV.out.call HB.out).elem HX.out
         cases e
         obtain ⟨b',o',cap'',q',c',q2',c2',e,_,d1,hay⟩:=(HV.out.call HB.out).elem hy
         cases e
         have hvx:=hax.vec.m.i
         have hvy:=hay.vec.m.i
         dsimp only at hvx hvy
         have K:=qh (fun W (hb:Below wr.heap.size wr W)=>yp6 U V (.slice q2' U.length c2') (.slice q21 V.length c21) W (hvy.call hb) (hvx.call hb) (HHS.out _ _ hy) (HHS.out _ _ HX.out))
         obtain ⟨r,hr⟩:∃ r,z01 (r4 U) (r4 V)=r:=⟨_,rfl⟩
         have HE:=qh (HC3.out.trans (show zb2 false false (ngK F (j+1))=if decide (0≤r)=true then 3 else 0 by rw [yf1 hy HX.out,← hr];rfl))
         rw [hr] at K
         have hj0:(0:Int)≤(j:Int):=by omega
         have hj1:(j:Int)<(F.length:Int):=by have:=HLT.out;omega
         have hj2:(0:Int)≤(j:Int)+1:=by omega
         have hj3:(j:Int)+1<(F.length:Int):=by have:=HLT.out;omega
         have hw1:IntKind.i64.wrap ((j:Int)+1 - 1)=(j:Int):=(IntWalk.i64_in _ (by omega)).trans (by omega)
         have hw2:IntKind.i64.wrap (j:Int)=(j:Int):=IntWalk.i64_in _ (by omega)
         have hw3:IntKind.i64.wrap (((j+1:Nat):Int) - 1)=(j:Int):=(IntWalk.i64_in _ (by omega)).trans (by omega)
         have HS:=qh (yc8 ⟨Below.refl wr.heap.size wr,d1,d0⟩ (Below.refl _ _).drew)
         clear hax hay hy hvx hvy hr
         go_wp2_with fail
         go_region_held3 (fun w'=>Below wr.heap.size wr w'∧w'.cell? ⟨b,o+j*2+1,none⟩=some (.slice q2' U.length c2')∧w'.cell? ⟨b,o+(j+1)*2+1,none⟩=some (.slice q21 V.length c21))
            (first
             | exact yc8 (by assumption) (Hid.out (by assumption))
             | exact HS.out
             | assumption)
            ((go_at_call 69;refine (K.out _ (And.left (by assumption))).mono ?_;rintro en w' ⟨rfl,h'⟩;have h':=qh h'))
         all_goals
            rename_i hE
            have HB2:=qh (z7 HB.out hE.1)
            clear hE
            by_cases h0:0≤r
            ·have HZ:=qh (HE.out.trans (if_pos (decide_eq_true h0)))
             go_wp2_with fail
             go_ret
             exact ⟨by rw [HZ.out];rfl,HB2.out⟩
            ·have HZ:=qh (HE.out.trans (if_neg (by rw [decide_eq_false h0];simp)))
             go_wp2_with fail
             go_ret
             exact ⟨by rw [HZ.out];rfl,HB2.out⟩
def zv7 (F:u9):Int:=o9 (z02 F)
def cAt (F:u9):Int:=(atE (z02 F)).getD (-1)
set_option maxRecDepth 100000 in
set_option maxHeartbeats 4000000 in
theorem ye3 (F:u9) (v:Value) (w:World) (hv:zc4 w v F) (hs:z90 F) (hF:z11 F=none→x7 F):Calls Tryz.prog 12 #[v] w (yk6 (zv7 F) (cAt F) w):=by
 obtain ⟨p,cap,rfl⟩:=hv.shape
 have hlen:=hv.len
 have K:=qh (zr6 F _ w hv)
 cases hc:z11 F with
 | some e =>
   have h1:=zo9 F
   have h2:=xz1 F
   rw [hc] at h1 h2
   have HZ:=qh (show zv7 F=zb6 F∧cAt F=y64 F by unfold zv7 cAt z02;rw [hc];exact ⟨h1,h2⟩)
   have hnz:zb6 F≠0:=by
    rw [← h1]
    unfold z11 at hc
    cases hk:zr1 F with
    | none=>rw [hk] at hc;cases hc
    | some x =>
      rw [hk] at hc
      obtain rfl:=Option.some.inj hc
      unfold zr1 at hk
      obtain ⟨i,_,hi⟩:=List.exists_of_findSome?_eq_some hk
      split at hi
      ·cases hi
      ·split at hi
       ·cases hi
       ·rename_i h0
        obtain rfl:=Option.some.inj hi
        exact h0
   have h00:(zb6 F == 0)=false:=by simpa using hnz
   rw [HZ.out.1,HZ.out.2]
   clear hv hs hF hc h1 h2 HZ
   generalize zb6 F=a at *
   generalize y64 F=b at *
   go_enter Tryz.func12,Tryz.ntmps12
   go_wp2_with fail
   refine K.out.mono ?_
   rintro e1 w1 ⟨rfl,h⟩
   have H1:=qh h;clear h
   go_wp2_with fail
   go_ret2
   exact ⟨rfl,H1.out⟩
 | none =>
   have hG:=hF hc
   have h1:=zo9 F
   rw [hc] at h1
   have HZ:=qh (show zv7 F=o9 (yf4 F)∧cAt F=(atE (yf4 F)).getD (-1) by unfold zv7 cAt z02;rw [hc];exact ⟨rfl,rfl⟩)
   rw [← h1] at K
   have KW:=qh (fun n W (hb:Below w.heap.size w W) (hn:n<F.length)=>ye2 F (.slice p F.length cap) n W (hv.call hb) hG hs hn)
   rw [HZ.out.1,HZ.out.2]
   clear hv hs hF hc h1 hG HZ
   generalize y64 F=b at *
   go_enter Tryz.func12,Tryz.ntmps12
   go_wp2_with fail
   refine K.out.mono ?_
   rintro e1 w1 ⟨rfl,h⟩
   rw [show o9 none=0 from rfl]
   have H1:=qh h;clear h
   go_wp2_with fail
   go_loopw [4,6] (fun _ i wr=>∃ k:Nat,i = .int .i64 k∧k≤F.length∧(∀ j,j<k→z85 F j=0)∧Below w.heap.size w wr) (fun _ i _=>F.length - (intOf i).toNat)
   case atStart=>exact ⟨0,rfl,Nat.zero_le _,fun j hj=>absurd hj (Nat.not_lt_zero j),H1.out⟩
   case round =>
    obtain ⟨k,rfl,hk,hbef,hb⟩:=hrel
    have HBF:=qh hbef;clear hbef
    have HB:=qh hb;clear hb
    by_cases hlt:k<F.length
    ·have HLT:=qh hlt
     have K2:=qh (KW.out k wr HB.out hlt)
     by_cases h0:z85 F k=0
     ·have HN:Hid (∀ j,j<k+1→z85 F j=0):=qh fun j hj=>by
       rcases Nat.lt_or_eq_of_le (Nat.le_of_lt_succ hj) with h1 | rfl
       ·exact HBF.out j h1
       ·exact h0
      rw [h0] at K2
      clear h0
      go_wp2_with fail
      refine K2.out.mono ?_
      rintro e1 w2 ⟨rfl,h⟩
      have H2:=qh (z7 HB.out h);clear h
      go_wp2_with fail
      go_roundw
      case rel=>exact ⟨k+1,by go_num,HLT.out,HN.out,H2.out⟩
      case measure=>have:=HLT.out;simp [intOf];omega
     ·have HZ:=qh (y50 hlt HBF.out h0)
      have h00:(z85 F k == 0)=false:=by simpa using h0
      clear HBF
      generalize z85 F k=cd at *
      go_wp2_with fail
      refine K2.out.mono ?_
      rintro e1 w2 ⟨rfl,h⟩
      have H2:=qh (z7 HB.out h);clear h
      go_wp2_with fail
      go_ret2
      exact ⟨by rw [HZ.out];rfl,H2.out⟩
    ·obtain rfl:k=F.length:=by omega
     have HZ:=qh (y49 HBF.out)
     go_wp2_with fail
     go_ret2
     exact ⟨by rw [HZ.out];rfl,HB.out⟩
theorem xg8 (F:u9):decide (z02 F=none)=(zv7 F == 0):=by
 rw [Bool.eq_iff_iff,decide_eq_true_eq,beq_iff_eq]
 unfold zv7
 constructor
 ·intro h;rw [h];rfl
 ·intro h
  cases he:z02 F with
  | none=>rfl
  | some e =>
    exfalso
    rw [he] at h
    unfold z02 at he
    cases hc:z11 F with
    | some e' =>
      rw [hc] at he
      obtain rfl:=Option.some.inj he
      unfold z11 at hc
      cases hk:zr1 F with
      | none=>rw [hk] at hc;cases hc
      | some x =>
        rw [hk] at hc
        obtain rfl:=Option.some.inj hc
        unfold zr1 at hk
        obtain ⟨i,_,hi⟩:=List.exists_of_findSome?_eq_some hk
        split at hi
        ·cases hi
        ·split at hi
         ·cases hi
         ·rename_i h0
          obtain rfl:=Option.some.inj hi
          exact h0 h
    | none =>
      rw [hc] at he
      exact wn9 he h
end Go.Proofs.YtchndljcahjldaaGreatDoor
