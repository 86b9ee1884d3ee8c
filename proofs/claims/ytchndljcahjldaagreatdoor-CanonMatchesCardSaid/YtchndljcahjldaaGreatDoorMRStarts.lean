/- Starts of the reference, of one list: the numbers at which something may change, rising, each once. Conditions: the ends are numbers of 64 bits, at most 1048576 intervals. -/
import Derived.Test.YtchndljcahjldaaGreatDoorMRSearch
import Derived.Test.YtchndljcahjldaaGreatDoorMOAlg
namespace Go.Proofs.YtchndljcahjldaaGreatDoor
section
open Go.RowKit
attribute [local go_sem ↓] Go.wp_at_zero Go.wp_at_succ
variable {W w1:World} {a:Addr} {u:Value}
theorem xb9 (w:World):Calls Tryz.prog 208 #[] w fun e w'=>e = .returned (.int .u64 18446744073709551615)∧w'=w:=(xu4 w).mono fun _ _ h=>⟨h.1,h.2.symm⟩
theorem zj3 {P:Program} {ops:Array Oper} {o:Oper} {a:Act} {w:World} {K:Act→World→Prop} {Q:Exit→Act→World→Prop} {E:Prop} (hgd:o.guard=none) (s x:Operand) (t:TypeId)
 (ho:o.op = .call { callee := .builtin .append,args:=#[s,x],argTypes:=#[t,t] })
 (base:Nat) (e:TypeId) (i:TypeInfo) (size:Nat) (ht:P.underlying t=some (.slice e)) (hi:P.info? e=some i)
 (v:Value) (n:Nat) (xs:List Value) (hs:a.eval s=v) (hown:w.ownsRow base e size v n xs) (hx:a.eval x = .slice none 0 0)
 (h:K (a.put o.dst v) w) :
 if Region.wanted o (yielded ops a.tmps)=true then Oper.wp P o a w K Q else E:=by
 rw [if_pos (by simp [Region.wanted,hgd])]
 have hr:=run_append_owned_none (P:=P) w base t o.type e i size ht hi v n xs hown
 unfold Oper.wp execOp
 simp only [ho,resolve,invoke,builtin,Sem.run_bind,Sem.run_pure,Result.andThen_ok,List.map_toArray,List.map_cons,List.map_nil,hs,hx,hr]
 exact h
theorem zb6 (w:World) (x:Int) (B:Nat) (hB:B≤w.heap.size):(w.alloc (.cells #[.int .u64 x] 36)).ownsRow B 36 1 (.slice (some ⟨w.heap.size,0,none⟩) 1 1) 1 [.int .u64 x]:=
 World.ownsRow_lit w #[.int .u64 x] 1 hB (by decide) rfl
theorem zv7 {w2:World} (h:Below W.heap.size W w1∧w1.cell? a=some u) (hb:Below w1.heap.size w1 w2) :
 Below W.heap.size W w2∧w2.cell? a=some u:=⟨z7 h.1 hb,z6 h.2 hb⟩
theorem z90 (h:∀ w',Below W.heap.size W w'→w'.cell? a=some u) (hb:Below W.heap.size W w1):Below W.heap.size W w1∧w1.cell? a=some u:=⟨hb,h _ hb⟩
theorem xm6 (S:List Int) (x:Int) (c:Nat):(e8 S).take c++(Value.int .u64 x :: e8 (S.drop c))=e8 (S.take c++x :: S.drop c):=by simp [e8,List.map_take]
theorem ye3 (S:List Int) (c j:Nat) (h:(e8 (S.drop c))[j]? = some u):(e8 S)[c+j]? = some u:=by
 unfold e8 at *
 rw [List.map_drop,List.getElem?_drop] at h
 exact h
def UU:Int:=18446744073709551615
def zx9 (L:List Int) (w:World) (e:Ending) (w':World):Prop:=∃ v,e = .returned v∧d7 w' w.heap.size v L∧Below w.heap.size w w'
end
section
open Go.RowKit
attribute [local go_sem ↓] Go.wp_at_zero Go.wp_at_succ
variable {l:List Iv} {k:Nat}
theorem ws8 (U:Int) (A:List Iv) {y:Iv} (h:l[k]? = some y):zg9 U (A++l.take (k+1))=zg9 U (A++l.take k)++if y.2<U then [y.1,y.2+1] else [y.1]:=by
 rw [y71 h,← List.append_assoc,w32]
theorem w44 {ls:List (List Iv)} (h:ls[k]? = some l):(ls.take (k+1)).flatten=(ls.take k).flatten++l:=by
 rw [List.take_add_one,h];simp
theorem ws9 (ls:List (List Iv)) (k:Nat):(ls.take k).flatten.length≤ls.flatten.length:=by grind [List.flatten,List.take_append_drop,List.flatten_append,List.length,List.length_append]
set_option maxRecDepth 100000 in
set_option maxHeartbeats 40000000 in
theorem ya5 (ls:List (List Iv)) (vs:Nat→Value) (pl:Option Addr) (bl cp:Nat) (w:World) (hls:∀ (i:Nat) l,ls[i]? = some l→pl=some ⟨bl,0,none⟩∧v7 w (vs i) l∧w.cell? ⟨bl,i,none⟩=some (vs i)) (h64:∀ l ∈ ls,m9 l)
 (htot:ls.flatten.length≤1048576) (hn:ls.length≤1048576) :
 Calls Tryz.prog 161 #[.slice pl ls.length cp] w (zx9 (r6 UU ls.flatten) w):=by
 obtain ⟨i0,hi',hz0,hz1,hz2⟩:=info_parts yl2
 have HLS:=qh hls;clear hls
 have H64a:=qh h64;clear h64
 have HFT:=qh (fun k l h=>w44 (ls:=ls) (k:=k) (l:=l) h)
 have HFL0:=qh (ws9 ls)
 obtain ⟨F,hF⟩:∃ F,ls.flatten=F:=⟨_,rfl⟩
 have hTk:(ls.take ls.length).flatten=F:=by rw [List.take_length,hF]
 have HTk:=qh hTk;clear hTk
 rw [hF] at htot HFL0 ⊢
 have hlen:F.length≤1048576:=htot
 clear htot hF
 go_enter Tryz.func161,Tryz.ntmps161
 go_wp2_with fail
 obtain ⟨W0,hW0⟩:∃ W0,w.alloc (.cells #[.int .u64 0] 36)=W0:=⟨_,rfl⟩
 have ho0:d7 W0 w.heap.size (.slice (some ⟨w.heap.size,0,none⟩) 1 1) [0]:=by
  rw [← hW0]
  exact World.ownsRow_lit w #[.int .u64 0] 1 (Nat.le_refl _) (by decide) rfl
 have hb0:Below w.heap.size w W0:=by rw [← hW0];exact z8 _ _
 rw [hW0]
 have HO0:=qh ho0;clear ho0
 have HB0:=qh hb0;clear hb0
 clear hW0
 go_loopw [3,4] (fun v i wr=>∃ k0:Nat,k0≤ls.length∧i = .int .i64 k0∧d7 wr w.heap.size v (zg9 UU (ls.take k0).flatten)∧Below w.heap.size w wr) (fun _ i _=>ls.length - (intOf i).toNat)
 case atStart=>exact ⟨0,Nat.zero_le _,rfl,HO0.out,HB0.out⟩
 case round =>
  obtain ⟨k0,hk0,rfl,hown,hb⟩:=hrel
  have HB:=qh hb;clear hb
  by_cases hlt0:k0<ls.length
  ·obtain ⟨l,hl⟩:∃ l,ls[k0]? = some l:=⟨ls[k0],by simp [hlt0]⟩
   obtain ⟨hpl,hI,hbl⟩:=HLS.out k0 l hl
   subst hpl
   obtain ⟨p,cap,hvs,hlenl⟩:=hI.shape
   rw [hvs] at hI hbl
   have I:=qh hI
   have HBL:=qh hbl
   have H64:=qh (H64a.out l (List.mem_of_getElem? hl))
   have hA:=HFT.out k0 l hl
   have hAl:=HFL0.out (k0+1)
   rw [hA,List.length_append] at hAl
   have HA:=qh hA
   clear hA hI hbl hvs hl
   generalize (ls.take k0).flatten=A at *
   have hi0:(0:Int)≤(k0:Int):=by omega
   have hi1:(k0:Int)<(ls.length:Int):=by omega
   obtain ⟨pv,cv,rfl,_⟩:=y8 hown
   have HO:=qh hown;clear hown
   have hcb:=z6 HBL.out HB.out
   go_wp2_with fail
   go_loopw [3,5] (fun v j wr=>∃ k:Nat,k≤l.length∧j = .int .i64 k∧d7 wr w.heap.size v (zg9 UU (A++l.take k))∧Below w.heap.size w wr) (fun _ j _=>l.length - (intOf j).toNat)
   case atStart=>exact ⟨0,Nat.zero_le _,rfl,by rw [List.take_zero,List.append_nil];exact HO.out,HB.out⟩
   case round =>
    obtain ⟨k,hk,rfl,hown,hb⟩:=hrel
    clear HB hcb
    have HB:=qh hb;clear hb
    have hcb:=z6 HBL.out HB.out
    have hrl:=x04 UU (A++l.take k)
    rw [List.length_append,List.length_take,Nat.min_eq_left hk] at hrl
    by_cases hlt:k<l.length
    ·obtain ⟨y,hy⟩:∃ y,l[k]? = some y:=⟨l[k],by simp [hlt]⟩
     obtain ⟨b0,o0,cap0,e0,z0,z1⟩:=(I.out.call HB.out).elem hy
     cases e0
     have hy64:=H64.out.at hy
     have HR:=qh (ws8 UU A hy)
     have HY:=qh hy
     clear hy
     obtain ⟨pv2,cv2,rfl,_⟩:=y8 hown
     have HO2:=qh hown;clear hown
     generalize zg9 UU (A++l.take k)=R at *
     obtain ⟨y1,y2⟩:=y
     dsimp only at z0 z1
     have hsz:=HB.out.size
     have hj0:(0:Int)≤(k:Int):=by omega
     have hj1:(k:Int)<(l.length:Int):=by omega
     go_wp2_with (at_builtin;refine wpList_append_own _ rfl _ _ 147 rfl w.heap.size 36 i0 (.int .u64 0) 1 8 Tryz.underlying147 hi' hz0 hz1 hz2 rfl (by decide) _ _ _ rfl (HO2.out.below (z8 _ _)) ⟨_,0,none⟩ 1 1 [.int .u64 y1] rfl rfl (zr9 _ _ _ _ rfl) (by simp [Value.oneCell']) (by unfold maxLen;omega) (by omega) (by simp;omega) ?_;intro v' w1 hown' hgrow _;obtain ⟨g',cap',rfl⟩:=ownsRow_succ hown';have HO4:=qh hown';clear hown';have HW:=qh (x8 (y7 HB.out _) (HO2.out.below (z8 _ _)) hgrow (by simp;omega));clear hgrow)
     have hcb2:=z6 HBL.out HW.out
     obtain ⟨z2,z3⟩:=(I.out.call HW.out).cells (l:=l) (i:=k) (x:=(y1,y2)) HY.out
     dsimp only at z2 z3
     by_cases hu:y2<18446744073709551615
     ·have hd:decide (y2<18446744073709551615)=true:=by simpa using hu
      go_quiet ((go_at_call 208;exact Calls.quiet_of_same (xb9 _)))
      obtain ⟨wq,hwq⟩:∃ wq,w1.drewN nq=wq:=⟨_,rfl⟩
      have hdq:Below w1.heap.size w1 wq:=hwq ▸ below_drewN (Below.refl _ _) _
      have HWQ:=qh (z7 HW.out hdq)
      have HOQ:=qh (y6 HO4.out hdq)
      rw [hwq]
      clear hwq hdq z2 z3 hcb2
      have hcb3:=z6 HBL.out HWQ.out
      obtain ⟨z4,z5⟩:=(I.out.call HWQ.out).cells (l:=l) (i:=k) (x:=(y1,y2)) HY.out
      dsimp only at z4 z5
      have hszq:=HWQ.out.size
      have hwr:IntKind.u64.wrap (y2+1)=y2+1:=by have:=hy64.2.1;simp only at this;simp [IntKind.wrap,IntKind.bits,IntKind.signed];omega
      have hy2:0≤y2:=hy64.2.1
      go_wp2_with (at_builtin;refine wpList_append_own _ rfl _ _ 147 rfl w.heap.size 36 i0 (.int .u64 0) 1 8 Tryz.underlying147 hi' hz0 hz1 hz2 rfl (by decide) _ (R.length+1) _ rfl (y6 HOQ.out (z8 _ _)) ⟨_,0,none⟩ 1 1 [.int .u64 (y2+1)] rfl rfl (zr9 _ _ _ _ rfl) (by simp [Value.oneCell']) (by unfold maxLen;omega) (by omega) (by simp;omega) ?_;intro v' w2 hown' hgrow _;obtain ⟨g2,cap2,rfl⟩:=ownsRow_succ hown';have HO5:=qh hown';clear hown';have HW2:=qh (x8 (y7 HWQ.out _) (y6 HOQ.out (z8 _ _)) hgrow (by simp;omega));clear hgrow)
      go_roundw
      case rel =>
       refine ⟨k+1,by omega,by go_num,?_,HW2.out⟩
       rw [HR.out,if_pos (show y2<UU from hu)]
       simpa [d7,e8] using HO5.out
      case measure=>simp [intOf];omega
     ·have hd:decide (y2<18446744073709551615)=false:=by simpa using hu
      go_quiet ((go_at_call 208;exact Calls.quiet_of_same (xb9 _)))
      obtain ⟨wq,hwq⟩:∃ wq,w1.drewN nq=wq:=⟨_,rfl⟩
      have hdq:Below w1.heap.size w1 wq:=hwq ▸ below_drewN (Below.refl _ _) _
      have HWQ:=qh (z7 HW.out hdq)
      have HOQ:=qh (y6 HO4.out hdq)
      rw [hwq]
      clear hwq hdq z2 z3 hcb2
      go_wp2_with fail
      go_roundw
      case rel =>
       refine ⟨k+1,by omega,by go_num,?_,HWQ.out⟩
       rw [HR.out,if_neg (show ¬ y2<UU from hu)]
       simpa [d7,e8] using HOQ.out
      case measure=>simp [intOf];omega
    ·obtain rfl:k=l.length:=by omega
     rw [List.take_length] at hown
     obtain ⟨pv2,cv2,rfl,_⟩:=y8 hown
     have HO2:=qh hown;clear hown
     go_wp2_with fail
     go_roundw
     case rel=>exact ⟨k0+1,by omega,by go_num,by rw [HA.out];exact HO2.out,HB.out⟩
     case measure=>simp [intOf];omega
  ·obtain rfl:k0=ls.length:=by omega
   rw [HTk.out] at hown
   have hRl:=x04 UU F
   have hRp:0<(zg9 UU F).length:=by unfold zg9;simp
   have hst:r6 UU F=(zg9 UU F).foldl b7 []:=rfl
   have hasc:=fun k=>(zc2 ((zg9 UU F).take k) [] List.Pairwise.nil).1
   have hfl:=fun k=>zg5 ((zg9 UU F).take k) []
   have hsn:=fun (k:Nat) (x:Int) (h:(zg9 UU F)[k]? = some x)=>(show ((zg9 UU F).take (k+1)).foldl b7 []=b7 (((zg9 UU F).take k).foldl b7 []) x by rw [List.take_add_one,h];simp)
   generalize zg9 UU F=R at *
   have hN:=hown.nums (by omega)
   rcases zg4 hown with ⟨_,h0⟩ | ⟨ga,ca,rfl⟩
   ·omega
   have HN:=qh hN;clear hN hown
   have HST:=qh hst;clear hst
   have HASC:=qh hasc;clear hasc
   have HFL:=qh hfl;clear hfl
   have HSN:=qh hsn;clear hsn
   go_wp2_with fail
   obtain ⟨wA,rfl⟩:∃ wA:World,wA=wr:=⟨_,rfl⟩
   go_loopw [6,7] (fun v i w'=>∃ k:Nat,k≤R.length∧i = .int .i64 k∧d7 w' wA.heap.size v ((R.take k).foldl b7 [])∧Below wA.heap.size wA w') (fun _ i _=>R.length - (intOf i).toNat)
   case atStart=>exact ⟨0,Nat.zero_le _,rfl,d7.nil _ _,Below.refl _ _⟩
   case round =>
    obtain ⟨k,hk,rfl,hown,hb⟩:=hrel
    have HB2:=qh hb;clear hb
    by_cases hlt:k<R.length
    ·obtain ⟨x,hx⟩:∃ x,R[k]? = some x:=⟨R[k],by simp [hlt]⟩
     have HX:=qh hx
     have hs:=HSN.out k x hx
     have hasc:=HASC.out k
     have hfl:=HFL.out k
     rw [List.length_take,List.length_nil,Nat.min_eq_left hk] at hfl
     clear hx
     generalize (R.take k).foldl b7 []=S at *
     obtain ⟨c,hc⟩:∃ c,(S.countP fun y=>decide (y≤x))=c:=⟨_,rfl⟩
     have hcS:c≤S.length:=by rw [← hc];exact List.countP_le_length
     have hle:=fun (j:Nat) (y:Int) (h:S[j]? = some y)=>wz9 hasc x h
     rw [hc] at hle
     have HLE:=qh hle
     have HC:=qh hc
     have HS:=qh hs
     clear hasc hle hc hs
     obtain ⟨pv,cv,rfl,_⟩:=y8 hown
     have HOS:=qh hown
     go_wp2_with fail
     obtain ⟨wB,rfl⟩:∃ wB:World,wB=wr:=⟨_,rfl⟩
     go_loopw [8] (fun a w2=>∃ q:Nat,a = .int .i64 q∧c≤q∧q≤S.length∧d7 w2 wA.heap.size (.slice pv S.length cv) S∧Below wA.heap.size wA w2) (fun a _=>(intOf a).toNat)
     case atStart=>exact ⟨S.length,rfl,hcS,Nat.le_refl _,HOS.out,HB2.out⟩
     case round =>
      obtain ⟨q,rfl,hcq,hqS,hown2,hb2⟩:=hrel
      have HOX0:=qh hown2
      have HBx0:=qh hb2
      clear hb2
      have hcx0:wr.cell? ⟨ga,k,none⟩=some (.int .u64 x):=by simpa using (HN.out.call HBx0.out).cells HX.out
      rcases Nat.eq_zero_or_pos q with rfl | hq
      ·obtain rfl:c=0:=by omega
       have HI:=qh (show (R.take (k+1)).foldl b7 []=S.take 0++x :: S.drop 0 by rw [HS.out,wi1 x HC.out (.inl rfl)])
       have hem:(((0:Nat):Int))=0:=rfl
       rw [hem]
       clear hem
       go_wp2_with fail
       go_quiet (fail)
       obtain ⟨wy,hwx⟩:∃ wy,wr.drewN nq=wy:=⟨_,rfl⟩
       have hdx:Below wr.heap.size wr wy:=hwx ▸ below_drewN (Below.refl _ _) _
       have HOY:=qh (HOX0.out.below hdx)
       have HBy:=qh (HBx0.out.trans (hdx.mono HBx0.out.size))
       rw [hwx]
       clear hwx hdx
       go_wp2_with fail
       go_quiet (fail)
       obtain ⟨wx,hwx⟩:∃ wx,wy.drewN nq=wx:=⟨_,rfl⟩
       have hdx:Below wy.heap.size wy wx:=hwx ▸ below_drewN (Below.refl _ _) _
       have HOX:=qh (HOY.out.below hdx)
       have HBx:=qh (HBy.out.trans (hdx.mono HBy.out.size))
       rw [hwx]
       clear hwx hdx
       rcases zg4 hown2 with ⟨e1,h0⟩ | ⟨g,cap1,e1⟩
       ·obtain rfl:S = []:=List.eq_nil_of_length_eq_zero h0
        cases e1
        clear hown hown2
        have hszx:wA.heap.size≤wx.heap.size:=HBx.out.size
        have KA:=qh (fun w' (h:Below wA.heap.size wA w')=>(show w'.cell? ⟨ga,k,none⟩=some (.int .u64 x) by simpa using (HN.out.call h).cells HX.out))
        have hcx:=KA.out wx HBx.out
        go_wp2_with fail
        go_region_held3 (fun w'=>Below wA.heap.size wA w'∧w'.cell? ⟨ga,k,none⟩=some (.int .u64 x))
         (first
           | exact z90 KA.out HBx.out.drew
           | exact z90 KA.out (HBx.out.trans ((z8 _ _).drew.mono hszx))
           | exact z90 KA.out HG2.out
           | exact z90 KA.out (HBx.out.trans (HG.out.mono hszx))
           | assumption)
         (first
           | ((refine zj3 (by rfl) (.tmp 103) (.tmp 106) _ (by rfl) wx.heap.size 36 i0 1 Tryz.underlying147 hi' (.slice (some ⟨wx.heap.size,0,none⟩) 1 1) 1 [.int .u64 x] (by rfl) (y6 (zb6 wx x _ (Nat.le_refl _)) (Below.refl _ _).drew) (by rfl) ?_;have HG:=qh (show Below wx.heap.size wx (wx.alloc (.cells #[.int .u64 x] 36)).drew from ((z8 _ _).drew))))
           | ((refine q7 (by rfl) (.tmp 98) (.tmp 107) _ (by rfl) wA.heap.size 36 i0 (.int .u64 0) 1 8 Tryz.underlying147 hi' hz0 hz1 hz2 rfl (by decide) (.slice none 0 0) 0 [] (by rfl) (World.ownsRow_nil _ _ _ _) ⟨wx.heap.size,0,none⟩ 1 1 [.int .u64 x] (by rfl) rfl ((y6 (zb6 wx x _ (Nat.le_refl _)) (Below.refl _ _).drew).cells (g:=wx.heap.size) rfl) (by simp [Value.oneCell']) (by unfold maxLen;omega) (by omega) (Nat.le_trans hszx (HG.out.size)) ?_;intro v2 w2 hown2 hgrow2;have HG2:=qh (x8 (HBx.out.trans (HG.out.mono hszx)) (World.ownsRow_nil _ wA.heap.size 36 1) hgrow2 (Nat.le_trans hszx (HG.out.size)));obtain ⟨g2,c2,rfl⟩:=ownsRow_succ hown2;have HO2:=qh hown2;clear hown2 hgrow2)))
        all_goals
         go_wp2_with fail
         go_roundw
         case rel =>
          refine ⟨k+1,by omega,by go_num,?_,HG2.out⟩
          rw [HI.out]
          simpa [d7,e8] using HO2.out
         case measure=>simp [intOf];omega
       ·cases e1
        have hroom:=yl3 hown2
        clear hown hown2
        have hp0:(0:Int)≤(0:Int):=by omega
        have hp1:(0:Int)≤(cv:Int):=by omega
        have hp2:(0:Int)≤(S.length:Int):=by omega
        by_cases hce:cv=0
        ·subst hce
         obtain rfl:S = []:=List.eq_nil_of_length_eq_zero (by omega)
         clear hroom
         have hszx:wA.heap.size≤wx.heap.size:=HBx.out.size
         have KA:=qh (fun w' (h:Below wA.heap.size wA w')=>(show w'.cell? ⟨ga,k,none⟩=some (.int .u64 x) by simpa using (HN.out.call h).cells HX.out))
         have hcx:=KA.out wx HBx.out
         go_wp2_with fail
         go_region_held3 (fun w'=>Below wA.heap.size wA w'∧w'.cell? ⟨ga,k,none⟩=some (.int .u64 x))
          (first
              | exact z90 KA.out HBx.out.drew
              | exact z90 KA.out (HBx.out.trans ((z8 _ _).drew.mono hszx))
              | exact z90 KA.out HG2.out
              | exact z90 KA.out (HBx.out.trans (HG.out.mono hszx))
              | assumption)
          (first
              | ((refine q7 (by rfl) (.tmp 103) (.tmp 106) _ (by rfl) wx.heap.size 36 i0 (.int .u64 0) 1 8 Tryz.underlying147 hi' hz0 hz1 hz2 rfl (by decide) (.slice (some ⟨wx.heap.size,0,none⟩) 1 1) 1 [.int .u64 x] (by rfl) (y6 (zb6 wx x _ (Nat.le_refl _)) (Below.refl _ _).drew) ⟨g,0,none⟩ 0 0 [] (by rfl) rfl (fun jj u hj=>by simp at hj) (by simp) (by unfold maxLen;omega) (by omega) (((z8 _ _).drew).size) ?_;intro v1 w1 hown1 hgrow1;have HG:=qh (x8 ((z8 _ _).drew) (y6 (zb6 wx x _ (Nat.le_refl _)) (Below.refl _ _).drew) hgrow1 (((z8 _ _).drew).size));obtain ⟨g1,c1,rfl⟩:=ownsRow_succ (k:=0) hown1;have HO1:=qh hown1;clear hown1 hgrow1))
              | ((refine q7 (by rfl) (.tmp 98) (.tmp 107) _ (by rfl) wA.heap.size 36 i0 (.int .u64 0) 1 8 Tryz.underlying147 hi' hz0 hz1 hz2 rfl (by decide) (.slice (some ⟨g,0,none⟩) 0 0) 0 [] (by rfl) (y6 HOX.out HG.out) ⟨g1,0,none⟩ 1 c1 [.int .u64 x] (by rfl) rfl (HO1.out.cells (g:=g1) rfl) (by simp [Value.oneCell']) (by unfold maxLen;omega) (by omega) (Nat.le_trans hszx (HG.out.size)) ?_;intro v2 w2 hown2 hgrow2;have HG2:=qh (x8 (HBx.out.trans (HG.out.mono hszx)) (y6 HOX.out HG.out) hgrow2 (Nat.le_trans hszx (HG.out.size)));obtain ⟨g2,c2,rfl⟩:=ownsRow_succ (k:=0) hown2;have HO2:=qh hown2;clear hown2 hgrow2)))
         all_goals
          go_wp2_with fail
          go_roundw
          case rel =>
              refine ⟨k+1,by omega,by go_num,?_,HG2.out⟩
              rw [HI.out]
              simpa [d7,e8] using HO2.out
          case measure=>simp [intOf];omega
        ·have hszx:wA.heap.size≤wx.heap.size:=HBx.out.size
         have KA:=qh (fun w' (h:Below wA.heap.size wA w')=>(show w'.cell? ⟨ga,k,none⟩=some (.int .u64 x) by simpa using (HN.out.call h).cells HX.out))
         have hcx:=KA.out wx HBx.out
         have hlenD:(e8 (S.drop 0)).length=S.length*1:=by rw [z80];simp
         have HDL:=qh hlenD;clear hlenD
         have HOC:=qh (show ∀ u ∈ (Value.int .u64 x :: e8 (S.drop 0)),u.oneCell'=true by
          intro u hu
          rcases List.mem_cons.1 hu with rfl | hu
          ·rfl
          ·exact z48 _ u hu)
         have HFR:=qh (show wx.ownsRow wA.heap.size 36 1 (.slice (some ⟨g,0,none⟩) 0 cv) 0 ((e8 S).take 0) from y75 HOX.out (by omega))
         have HCS:=qh (show ∀ (jj:Nat) (u:Value),(e8 (S.drop 0))[jj]? = some u→wx.cell? ⟨g,0+jj,none⟩=some u by
          intro jj u hj
          have h1:=ye3 S 0 jj hj
          have h2:=HOX.out.cells (g:=g) rfl _ u h1
          rw [Addr.add_lit] at h2
          simpa using h2)
         go_wp2_with fail
         go_region_held3 (fun w'=>Below wA.heap.size wA w'∧w'.cell? ⟨ga,k,none⟩=some (.int .u64 x))
          (first
              | exact z90 KA.out HBx.out.drew
              | exact z90 KA.out (HBx.out.trans ((z8 _ _).drew.mono hszx))
              | exact z90 KA.out HG2.out
              | exact z90 KA.out (HBx.out.trans (HG.out.mono hszx))
              | assumption)
          (first
              | ((refine q7 (by rfl) (.tmp 103) (.tmp 106) _ (by rfl) wx.heap.size 36 i0 (.int .u64 0) 1 8 Tryz.underlying147 hi' hz0 hz1 hz2 rfl (by decide) (.slice (some ⟨wx.heap.size,0,none⟩) 1 1) 1 [.int .u64 x] (by rfl) (y6 (zb6 wx x _ (Nat.le_refl _)) (Below.refl _ _).drew) ⟨g,0,none⟩ S.length cv (e8 (S.drop 0)) (by rfl) HDL.out (fun jj u hj=>z6 (by rw [Addr.add_lit];exact HCS.out jj u hj) ((z8 _ _).drew)) (z48 _) (by unfold maxLen;omega) (by omega) (((z8 _ _).drew).size) ?_;intro v1 w1 hown1 hgrow1;have HG:=qh (x8 ((z8 _ _).drew) (y6 (zb6 wx x _ (Nat.le_refl _)) (Below.refl _ _).drew) hgrow1 (((z8 _ _).drew).size));have hown1b:w1.ownsRow wx.heap.size 36 1 v1 (S.length+1) (.int .u64 x :: e8 (S.drop 0)):=(by rw [Nat.add_comm];exact hown1);obtain ⟨g1,c1,rfl⟩:=ownsRow_succ hown1b;have HO1:=qh hown1b;clear hown1 hown1b hgrow1))
              | ((refine q7 (by rfl) (.tmp 98) (.tmp 107) _ (by rfl) wA.heap.size 36 i0 (.int .u64 0) 1 8 Tryz.underlying147 hi' hz0 hz1 hz2 rfl (by decide) (.slice (some ⟨g,0,none⟩) 0 cv) 0 ((e8 S).take 0) (by rfl) (y6 HFR.out HG.out) ⟨g1,0,none⟩ (S.length+1) c1 (.int .u64 x :: e8 (S.drop 0)) (by rfl) HO1.out.1 (HO1.out.cells (g:=g1) rfl) (HOC.out) (by unfold maxLen;omega) (by omega) (Nat.le_trans hszx (HG.out.size)) ?_;intro v2 w2 hown2 hgrow2;have HG2:=qh (x8 (HBx.out.trans (HG.out.mono hszx)) (y6 HFR.out HG.out) hgrow2 (Nat.le_trans hszx (HG.out.size)));have e2:0+(S.length+1)=S.length+1:=(by omega);rw [xm6,e2] at hown2;obtain ⟨g2,c2,rfl⟩:=ownsRow_succ hown2;have HO2:=qh hown2;clear hown2 hgrow2 e2)))
         all_goals
          go_wp2_with fail
          go_roundw
          case rel =>
              refine ⟨k+1,by omega,by go_num,?_,HG2.out⟩
              rw [HI.out]
              have e:(S.take 0++x :: S.drop 0).length=S.length+1:=by simp
              unfold d7
              rw [e]
              exact HO2.out
          case measure=>simp [intOf];omega
      ·obtain ⟨j,rfl⟩:∃ j,q=j+1:=⟨q - 1,by omega⟩
       obtain ⟨y,hy⟩:∃ y,S[j]? = some y:=⟨S[j],by simp [show j<S.length by omega]⟩
       obtain ⟨g,cap1,e1⟩:∃ g cap1,Value.slice pv S.length cv = .slice (some ⟨g,0,none⟩) S.length cap1:=by
        rcases zg4 hown2 with ⟨_,h0⟩ | h
        ·omega
        ·exact h
       cases e1
       have hcy:wr.cell? ⟨g,j,none⟩=some (.int .u64 y):=by simpa using (d7.nums HOX0.out (by omega)).cells hy
       have hj0:(0:Int)≤(j:Int):=by omega
       have hj1:(j:Int)<(S.length:Int):=by omega
       have hj2:(0:Int)<(j:Int)+1:=by omega
       have hjb:(((j:Int)+1) == 0)=false:=by simp;omega
       have hw1:IntKind.i64.wrap ((j:Int)+1 - 1)=(j:Int):=(IntWalk.i64_in _ (by omega)).trans (by omega)
       have hw2:IntKind.i64.wrap (j:Int)=(j:Int):=IntWalk.i64_in _ (by omega)
       have hw3:IntKind.i64.wrap (((j+1:Nat):Int) - 1)=(j:Int):=(IntWalk.i64_in _ (by omega)).trans (by omega)
       have hk0:(0:Int)≤(k:Int):=by omega
       have hk1:(k:Int)<(R.length:Int):=by omega
       by_cases hyx:y≤x
       ·have hjc:=(HLE.out j y hy).1 hyx
        obtain rfl:c=j+1:=by omega
        have hd:decide (x<y)=false:=by simp;omega
        have HY:=qh hy
        clear hy hyx hjc
        go_wp2_with fail
        go_quiet (fail)
        obtain ⟨wy,hwx⟩:∃ wy,wr.drewN nq=wy:=⟨_,rfl⟩
        have hdx:Below wr.heap.size wr wy:=hwx ▸ below_drewN (Below.refl _ _) _
        have HOY:=qh (HOX0.out.below hdx)
        have HBy:=qh (HBx0.out.trans (hdx.mono HBx0.out.size))
        rw [hwx]
        clear hwx hdx
        have hcy2:wy.cell? ⟨g,j,none⟩=some (.int .u64 y):=by simpa using (d7.nums HOY.out (by omega)).cells HY.out
        have hcx2:wy.cell? ⟨ga,k,none⟩=some (.int .u64 x):=by simpa using (HN.out.call HBy.out).cells HX.out
        clear hcy hcx0
        by_cases hxy:y=x
        ·subst hxy
         have HI:=qh (show (R.take (k+1)).foldl b7 []=S by rw [HS.out,ws7 y HC.out (by omega) (by rw [Nat.add_sub_cancel];exact HY.out)])
         go_wp2_with fail
         go_quiet (fail)
         obtain ⟨wx,hwx⟩:∃ wx,wy.drewN nq=wx:=⟨_,rfl⟩
         have hdx:Below wy.heap.size wy wx:=hwx ▸ below_drewN (Below.refl _ _) _
         have HOX:=qh (HOY.out.below hdx)
         have HBx:=qh (HBy.out.trans (hdx.mono HBy.out.size))
         rw [hwx]
         clear hwx hdx
         go_wp2_with fail
         go_roundw
         case rel=>exact ⟨k+1,by omega,by go_num,by rw [HI.out];exact HOX.out,HBx.out⟩
         case measure=>simp [intOf];omega
        ·have hne:(y != x)=true:=by simpa using hxy
         have HI:=qh (show (R.take (k+1)).foldl b7 []=S.take (j+1)++x :: S.drop (j+1) by
          rw [HS.out,wi1 x HC.out (.inr (by rw [Nat.add_sub_cancel,HY.out];simpa using hxy))])
         clear hxy
         go_wp2_with fail
         go_quiet (fail)
         obtain ⟨wx,hwx⟩:∃ wx,wy.drewN nq=wx:=⟨_,rfl⟩
         have hdx:Below wy.heap.size wy wx:=hwx ▸ below_drewN (Below.refl _ _) _
         have HOX:=qh (HOY.out.below hdx)
         have HBx:=qh (HBy.out.trans (hdx.mono HBy.out.size))
         rw [hwx]
         clear hwx hdx
         have hroom:=yl3 hown2
         clear hown hown2
         have hp0:(0:Int)≤(j:Int)+1:=by omega
         have hp1:(j:Int)+1≤(cv:Int):=by omega
         have hp2:(j:Int)+1≤(S.length:Int):=by omega
         by_cases hce:cv=(j+1)
         ·have hce2:=qh (show S.length=(j+1) by omega)
          subst cv
          clear hroom
          have hszx:wA.heap.size≤wx.heap.size:=HBx.out.size
          have KA:=qh (fun w' (h:Below wA.heap.size wA w')=>(show w'.cell? ⟨ga,k,none⟩=some (.int .u64 x) by simpa using (HN.out.call h).cells HX.out))
          have hcx:=KA.out wx HBx.out
          have hlenD:(e8 (S.drop (j+1))).length=(S.length - (j+1))*1:=by rw [z80];simp
          have HDL:=qh hlenD;clear hlenD
          have HOC:=qh (show ∀ u ∈ (Value.int .u64 x :: e8 (S.drop (j+1))),u.oneCell'=true by
              intro u hu
              rcases List.mem_cons.1 hu with rfl | hu
              ·rfl
              ·exact z48 _ u hu)
          have HFR:=qh (show wx.ownsRow wA.heap.size 36 1 (.slice (some ⟨g,0,none⟩) (j+1) (j+1)) (j+1) ((e8 S).take (j+1)) from y75 HOX.out (by omega))
          have HND:=qh (show e8 (S.drop (j+1)) = [] by unfold e8;rw [List.drop_of_length_le (by have:=hce2.out;omega)];rfl)
          go_wp2_with fail
          go_region_held3 (fun w'=>Below wA.heap.size wA w'∧w'.cell? ⟨ga,k,none⟩=some (.int .u64 x))
              (first
                | exact z90 KA.out HBx.out.drew
                | exact z90 KA.out (HBx.out.trans ((z8 _ _).drew.mono hszx))
                | exact z90 KA.out HG2.out
                | exact z90 KA.out (HBx.out.trans (HG.out.mono hszx))
                | assumption)
              (first
                | ((refine q7 (by rfl) (.tmp 103) (.tmp 106) _ (by rfl) wx.heap.size 36 i0 (.int .u64 0) 1 8 Tryz.underlying147 hi' hz0 hz1 hz2 rfl (by decide) (.slice (some ⟨wx.heap.size,0,none⟩) 1 1) 1 [.int .u64 x] (by rfl) (y6 (zb6 wx x _ (Nat.le_refl _)) (Below.refl _ _).drew) ⟨g,0,none⟩ (S.length - (j+1)) 0 (e8 (S.drop (j+1))) (by rfl) HDL.out (fun jj u hj=>by rw [HND.out] at hj;simp at hj) (z48 _) (by unfold maxLen;omega) (by omega) (((z8 _ _).drew).size) ?_;intro v1 w1 hown1 hgrow1;have HG:=qh (x8 ((z8 _ _).drew) (y6 (zb6 wx x _ (Nat.le_refl _)) (Below.refl _ _).drew) hgrow1 (((z8 _ _).drew).size));have hown1b:w1.ownsRow wx.heap.size 36 1 v1 ((S.length - (j+1))+1) (.int .u64 x :: e8 (S.drop (j+1))):=(by rw [Nat.add_comm];exact hown1);obtain ⟨g1,c1,rfl⟩:=ownsRow_succ hown1b;have HO1:=qh hown1b;clear hown1 hown1b hgrow1))
                | ((refine q7 (by rfl) (.tmp 98) (.tmp 107) _ (by rfl) wA.heap.size 36 i0 (.int .u64 0) 1 8 Tryz.underlying147 hi' hz0 hz1 hz2 rfl (by decide) (.slice (some ⟨g,0,none⟩) (j+1) (j+1)) (j+1) ((e8 S).take (j+1)) (by rfl) (y6 HFR.out HG.out) ⟨g1,0,none⟩ ((S.length - (j+1))+1) c1 (.int .u64 x :: e8 (S.drop (j+1))) (by rfl) HO1.out.1 (HO1.out.cells (g:=g1) rfl) (HOC.out) (by unfold maxLen;omega) (by omega) (Nat.le_trans hszx (HG.out.size)) ?_;intro v2 w2 hown2 hgrow2;have HG2:=qh (x8 (HBx.out.trans (HG.out.mono hszx)) (y6 HFR.out HG.out) hgrow2 (Nat.le_trans hszx (HG.out.size)));have e2:(j+1)+((S.length - (j+1))+1)=S.length+1:=(by omega);rw [xm6,e2] at hown2;obtain ⟨g2,c2,rfl⟩:=ownsRow_succ hown2;have HO2:=qh hown2;clear hown2 hgrow2 e2)))
          all_goals
              go_wp2_with fail
              go_roundw
              case rel =>
               refine ⟨k+1,by omega,by go_num,?_,HG2.out⟩
               rw [HI.out]
               have e:(S.take (j+1)++x :: S.drop (j+1)).length=S.length+1:=by simp;omega
               unfold d7
               rw [e]
               exact HO2.out
              case measure=>simp [intOf];omega
         ·have hszx:wA.heap.size≤wx.heap.size:=HBx.out.size
          have KA:=qh (fun w' (h:Below wA.heap.size wA w')=>(show w'.cell? ⟨ga,k,none⟩=some (.int .u64 x) by simpa using (HN.out.call h).cells HX.out))
          have hcx:=KA.out wx HBx.out
          have hlenD:(e8 (S.drop (j+1))).length=(S.length - (j+1))*1:=by rw [z80];simp
          have HDL:=qh hlenD;clear hlenD
          have HOC:=qh (show ∀ u ∈ (Value.int .u64 x :: e8 (S.drop (j+1))),u.oneCell'=true by
              intro u hu
              rcases List.mem_cons.1 hu with rfl | hu
              ·rfl
              ·exact z48 _ u hu)
          have HFR:=qh (show wx.ownsRow wA.heap.size 36 1 (.slice (some ⟨g,0,none⟩) (j+1) cv) (j+1) ((e8 S).take (j+1)) from y75 HOX.out (by omega))
          have HCS:=qh (show ∀ (jj:Nat) (u:Value),(e8 (S.drop (j+1)))[jj]? = some u→wx.cell? ⟨g,(j+1)+jj,none⟩=some u by
              intro jj u hj
              have h1:=ye3 S (j+1) jj hj
              have h2:=HOX.out.cells (g:=g) rfl _ u h1
              rw [Addr.add_lit] at h2
              simpa using h2)
          go_wp2_with fail
          go_region_held3 (fun w'=>Below wA.heap.size wA w'∧w'.cell? ⟨ga,k,none⟩=some (.int .u64 x))
              (first
                | exact z90 KA.out HBx.out.drew
                | exact z90 KA.out (HBx.out.trans ((z8 _ _).drew.mono hszx))
                | exact z90 KA.out HG2.out
                | exact z90 KA.out (HBx.out.trans (HG.out.mono hszx))
                | assumption)
              (first
                | ((refine q7 (by rfl) (.tmp 103) (.tmp 106) _ (by rfl) wx.heap.size 36 i0 (.int .u64 0) 1 8 Tryz.underlying147 hi' hz0 hz1 hz2 rfl (by decide) (.slice (some ⟨wx.heap.size,0,none⟩) 1 1) 1 [.int .u64 x] (by rfl) (y6 (zb6 wx x _ (Nat.le_refl _)) (Below.refl _ _).drew) ⟨g,(j+1),none⟩ (S.length - (j+1)) (cv - (j+1)) (e8 (S.drop (j+1))) (by rfl) HDL.out (fun jj u hj=>z6 (by rw [Addr.add_lit];exact HCS.out jj u hj) ((z8 _ _).drew)) (z48 _) (by unfold maxLen;omega) (by omega) (((z8 _ _).drew).size) ?_;intro v1 w1 hown1 hgrow1;have HG:=qh (x8 ((z8 _ _).drew) (y6 (zb6 wx x _ (Nat.le_refl _)) (Below.refl _ _).drew) hgrow1 (((z8 _ _).drew).size));have hown1b:w1.ownsRow wx.heap.size 36 1 v1 ((S.length - (j+1))+1) (.int .u64 x :: e8 (S.drop (j+1))):=(by rw [Nat.add_comm];exact hown1);obtain ⟨g1,c1,rfl⟩:=ownsRow_succ hown1b;have HO1:=qh hown1b;clear hown1 hown1b hgrow1))
                | ((refine q7 (by rfl) (.tmp 98) (.tmp 107) _ (by rfl) wA.heap.size 36 i0 (.int .u64 0) 1 8 Tryz.underlying147 hi' hz0 hz1 hz2 rfl (by decide) (.slice (some ⟨g,0,none⟩) (j+1) cv) (j+1) ((e8 S).take (j+1)) (by rfl) (y6 HFR.out HG.out) ⟨g1,0,none⟩ ((S.length - (j+1))+1) c1 (.int .u64 x :: e8 (S.drop (j+1))) (by rfl) HO1.out.1 (HO1.out.cells (g:=g1) rfl) (HOC.out) (by unfold maxLen;omega) (by omega) (Nat.le_trans hszx (HG.out.size)) ?_;intro v2 w2 hown2 hgrow2;have HG2:=qh (x8 (HBx.out.trans (HG.out.mono hszx)) (y6 HFR.out HG.out) hgrow2 (Nat.le_trans hszx (HG.out.size)));have e2:(j+1)+((S.length - (j+1))+1)=S.length+1:=(by omega);rw [xm6,e2] at hown2;obtain ⟨g2,c2,rfl⟩:=ownsRow_succ hown2;have HO2:=qh hown2;clear hown2 hgrow2 e2)))
          all_goals
              go_wp2_with fail
              go_roundw
              case rel =>
               refine ⟨k+1,by omega,by go_num,?_,HG2.out⟩
               rw [HI.out]
               have e:(S.take (j+1)++x :: S.drop (j+1)).length=S.length+1:=by simp;omega
               unfold d7
               rw [e]
               exact HO2.out
              case measure=>simp [intOf];omega
       ·have hjc:c≤j:=by
         have h1:=HLE.out j y hy
         apply Classical.byContradiction;intro hn
         exact hyx (h1.2 (by omega))
        have hd:decide (x<y)=true:=by simp;omega
        clear hy hyx
        go_wp2_with fail
        go_quiet (fail)
        obtain ⟨wy,hwx⟩:∃ wy,wr.drewN nq=wy:=⟨_,rfl⟩
        have hdx:Below wr.heap.size wr wy:=hwx ▸ below_drewN (Below.refl _ _) _
        have HOY:=qh (HOX0.out.below hdx)
        have HBy:=qh (HBx0.out.trans (hdx.mono HBx0.out.size))
        rw [hwx]
        clear hwx hdx
        go_wp2_with fail
        go_roundw
        case rel=>exact ⟨j,rfl,hjc,by omega,HOY.out,HBy.out⟩
        case measure=>simp [intOf]
    ·obtain rfl:k=R.length:=by omega
     rw [List.take_length,← HST.out] at hown
     obtain ⟨pv,cv,rfl,_⟩:=y8 hown
     have HOS:=qh hown
     go_wp2_with fail
     go_ret
     exact ⟨_,rfl,p8 HOS.out HB.out.size,HB.out.trans (HB2.out.mono HB.out.size)⟩
theorem xm7 (ls:List (List Iv)) (vs:Nat→Value) (bl cp:Nat) (w:World) (hls:∀ (i:Nat) l,ls[i]? = some l→v7 w (vs i) l∧w.cell? ⟨bl,i,none⟩=some (vs i)) (h64:∀ l ∈ ls,m9 l)
 (htot:ls.flatten.length≤1048576) (hn:ls.length≤1048576) :
 Calls Tryz.prog 161 #[.slice (some ⟨bl,0,none⟩) ls.length cp] w (zx9 (r6 UU ls.flatten) w):=
 ya5 ls vs (some ⟨bl,0,none⟩) bl cp w (fun i l h=>⟨rfl,hls i l h⟩) h64 htot hn
end
section
open Go.RowKit
variable {l:List Iv}
theorem wt0 (L:List Iv) (x:Iv) (v:Value) (B:Nat) (w:World) (hown:r9 w B v L) (hB:B≤w.heap.size) (hlen:L.length≤4194304) (h64:m9 L) (hx:yz3 x) :
 Calls Tryz.prog 163 #[v,.agg #[.int .u64 x.1,.int .u64 x.2]] w (x03 B (yk7 L x) w):=by
 obtain ⟨x1,x2⟩:=x
 by_cases hL:L = []
 ·subst hL
  exact ws4 v B x1 x2 w hown hB
 ·obtain ⟨m,y,rfl⟩:=z79 hL
  have hm:m.length≤4194304:=by simp at hlen;omega
  by_cases hn:y.2+1=x1
  ·rw [zu4 m y (x1,x2) hn]
   exact wi0 m y v B x1 x2 w hown hB hm (h64 y (by simp)) hx hn
  ·rw [y22 m y (x1,x2) hn]
   exact ws5 m y v B x1 x2 w hown hB hm (h64 y (by simp)) hx hn
theorem v83:(18446744073709551615:Int)=UU:=rfl
def z69 (L:List Iv) (w:World) (e:Ending) (w':World):Prop:=∃ v,e = .returned v∧r9 w' w.heap.size v L∧Below w.heap.size w w'
theorem v84 (l:List Iv) (s:Value) (x:Int) (r:Bool) (w:World) (hl:v7 w s l) (h:y9 l x=r) :
 Calls Tryz.prog 51 #[s,.int .u64 x] w (q8 r w):=by
 subst h;exact zi2 l s x w hl
theorem v85:UM=UU:=rfl
theorem wt1 (p q:Bool) (w:World):Calls Tryz.prog 162 #[.bool p,.bool q,.int .i64 0] w (fun e w'=>e = .returned (.bool (fOr p q))∧w'=w):=by
 go_enter Tryz.func162,Tryz.ntmps162
 cases p <;> cases q <;> (go_wp2_with fail;go_ret;exact ⟨rfl,rfl⟩)
theorem wi2 (p q:Bool) (w:World):Calls Tryz.prog 162 #[.bool p,.bool q,.int .i64 2] w (fun e w'=>e = .returned (.bool (yh2 p q))∧w'=w):=by
 go_enter Tryz.func162,Tryz.ntmps162
 cases p <;> cases q <;> (go_wp2_with fail;go_ret;exact ⟨rfl,rfl⟩)
theorem xm8 (a b:List Iv) (s t:Value) (bl:Nat) (w:World) (ha:v7 w s a) (hb:v7 w t b) (h64:m9 a) (h64b:m9 b) (hl:a.length+b.length≤1048576)
 (h0:w.cell? ⟨bl,0,none⟩=some s) (h1:w.cell? ⟨bl,1,none⟩=some t) :
 Calls Tryz.prog 161 #[.slice (some ⟨bl,0,none⟩) 2 2] w (zx9 (r6 UU (a++b)) w):=by
 have h:=xm7 [a,b] (fun i=>if i=0 then s else t) bl 2 w (fun i l hl=>by
  match i,hl with
  | 0,hl=>cases hl;exact ⟨ha,h0⟩
  | 1,hl=>cases hl;exact ⟨hb,h1⟩) (fun l hl=>by
    rcases List.mem_cons.1 hl with rfl | hl
    ·exact h64
    ·rw [List.mem_singleton.1 hl];exact h64b) (by simpa using hl) (by simp)
 rw [show [a,b].flatten=a++b by simp] at h
 exact h
theorem v02 (h:okL UU l):m9 l:=fun x hx=>by
 have:=h x hx
 unfold UU at this
 exact ⟨by omega,by omega⟩
theorem wi3 (h:m9 l) (ho:∀ y ∈ l,y.1≤y.2):okL UU l:=fun y hy=>⟨(h y hy).1.1,ho y hy,(h y hy).2.2⟩
theorem wt2 {x:Iv} (h:0≤x.1∧x.1≤x.2∧x.2≤UU):yz3 x:=by
 unfold UU at h
 exact ⟨by omega,by omega⟩
theorem v03:0≤UU:=by decide
set_option maxRecDepth 100000 in
set_option maxHeartbeats 4000000 in
theorem yt9 (op:Int) (f:Bool→Bool→Bool) (ht:∀ p q w,Calls Tryz.prog 162 #[.bool p,.bool q,.int .i64 op] w (fun e w'=>e = .returned (.bool (f p q))∧w'=w))
 (a b:List Iv) (s t:Value) (w:World) (hl:v7 w s a) (hm:v7 w t b) (h64:m9 a) (h64b:m9 b) (ho:∀ y ∈ a,y.1≤y.2) (hob:∀ y ∈ b,y.1≤y.2) (hle:a.length+b.length≤1048576) :
 Calls Tryz.prog 120 #[s,t,.int .i64 op] w (z69 (opL UM f a b) w):=by
 rw [v85]
 obtain ⟨p,cap,rfl,hlen⟩:=hl.shape
 obtain ⟨q,cbp,rfl,hlenb⟩:=hm.shape
 have hoa:=wi3 h64 ho
 have hobb:=wi3 h64b hob
 have hr:=zd8 v03 (ye2 hoa hobb)
 have hasc:=zg1 UU (a++b)
 have hsl:=zg6 UU (a++b)
 rw [List.length_append] at hsl
 have hfacts:=fun k hk=>v02 (wh0 (opP f a b) hasc hr k hk)
 have hlens:=fun k=>xt9 (U:=UU) (opP f a b) (r6 UU (a++b)) k
 have hpin:=fun k hk=>wt2 (yt7 hasc hr k hk)
 have hsin:=fun (i:Nat) (x:Int) (h:(r6 UU (a++b))[i]? = some x)=>hr x (List.mem_of_getElem? h)
 have hlo:∀ (k:Nat) (x:Int),(r6 UU (a++b))[k+1]? = some x→1≤x:=by
  intro k x hx
  have hlt:=(List.getElem?_eq_some_iff.1 hx).1
  have h1:(r6 UU (a++b))[0]<(r6 UU (a++b))[k+1]:=(List.pairwise_iff_getElem.1 hasc) 0 (k+1) (by omega) hlt (by omega)
  have h2:=(hsin 0 _ (show (r6 UU (a++b))[0]? = some (r6 UU (a++b))[0] by simp [show 0<(r6 UU (a++b)).length by omega])).1
  have h3:=(List.getElem?_eq_some_iff.1 hx).2
  omega
 have I:=qh hl
 have J:=qh hm
 have KS:=qh (fun bl W h1 h2 h3 h4=>xm8 a b (.slice p a.length cap) (.slice q b.length cbp) bl W h1 h2 h64 h64b hle h3 h4)
 have KH:=qh (v84)
 have KT:=qh ht
 have KP:=qh yt8
 have KU:=qh wt0
 have hstep:∀ k,goP UU (opP f a b) (r6 UU (a++b)) (k+1)=if f (y9 a ((r6 UU (a++b)).getD k 0)) (y9 b ((r6 UU (a++b)).getD k 0)) then yk7 (goP UU (opP f a b) (r6 UU (a++b)) k) (b8 UU (r6 UU (a++b)) k) else goP UU (opP f a b) (r6 UU (a++b)) k:=fun k=>rfl
 have hres:opL UU f a b=goP UU (opP f a b) (r6 UU (a++b)) (r6 UU (a++b)).length:=rfl
 rw [hres]
 clear hres hasc hr hoa hobb
 generalize opP f a b=PP at *
 generalize r6 UU (a++b)=S at *
 have HF:=qh hfacts
 have HL:=qh hlens
 have HPin:=qh hpin
 have HSin:=qh hsin
 have HLo:=qh hlo
 have HStep:=qh hstep
 clear hl hm h64 h64b ho hob hfacts hlens hpin hsin hlo hstep ht
 go_enter Tryz.func120,Tryz.ntmps120
 go_wp2_with fail
 refine (KS.out w.heap.size _ (I.out.call (z8 _ _)) (J.out.call (z8 _ _)) (by simp) (by simp)).mono ?_
 rintro e w1 ⟨v,rfl,hv,hb1⟩
 have HB1:=qh (z7 (z8 w _) hb1);clear hb1
 have HN:=qh (hv.nums (by omega))
 obtain ⟨ps,cs,rfl,_⟩:=y8 hv
 clear hv
 go_wp2_with fail
 go_loopw [8,9] (fun v i wr=>∃ k:Nat,k≤S.length∧i = .int .i64 k∧r9 wr w1.heap.size v (goP UU PP S k)∧Below w1.heap.size w1 wr) (fun _ i _=>S.length - (intOf i).toNat)
 case atStart=>exact ⟨0,Nat.zero_le _,rfl,r9.nil _ _,Below.refl _ _⟩
 case round =>
  obtain ⟨k,hk,rfl,hown,hb⟩:=hrel
  have HB:=qh hb;clear hb
  by_cases hlt:k<S.length
  ·obtain ⟨x,hx⟩:∃ x,S[k]? = some x:=⟨S[k],by simp [hlt]⟩
   obtain ⟨bs,os,cs',e0,c0⟩:=(HN.out.call HB.out).elem hx
   cases e0
   have hgd:S.getD k 0=x:=by rw [List.getD_eq_getElem?_getD,hx];rfl
   have hst:=HStep.out k
   rw [hgd] at hst
   have hf:=HF.out k hk
   have hgl:=HL.out k
   have hp:=HPin.out k hlt
   have KPx:=qh (fun w h=>KP.out S (.slice (some ⟨bs,os,none⟩) S.length cs) k w h hlt (fun i x h=>HSin.out i x h) (fun x h=>HLo.out k x h))
   clear hx hgd
   rw [v83] at KPx
   generalize hL:goP UU PP S k=L at *
   generalize hP:b8 UU S k=P at *
   obtain ⟨pv,cv,rfl,_⟩:=y8 hown
   have HOW:=qh hown
   have HBw:=qh (HB1.out.trans (HB.out.mono HB1.out.size))
   have KHab:=qh (show ∀ (s:Value) (r:Bool),(s = .slice p a.length cap∧r=y9 a x)∨(s = .slice q b.length cbp∧r=y9 b x)→∀ W,(Below wr.heap.size wr W∧W.cell? ⟨bs,os+k,none⟩=some (.int .u64 x))→Calls Tryz.prog 51 #[s,.int .u64 x] W (q8 r W) from fun s r h W hW=>by
    rcases h with ⟨rfl,rfl⟩ | ⟨rfl,rfl⟩
    ·exact KH.out a _ x _ W (I.out.call (z7 HBw.out hW.1)) rfl
    ·exact KH.out b _ x _ W (J.out.call (z7 HBw.out hW.1)) rfl)
   generalize y9 a x=ra at *
   generalize y9 b x=rb at *
   obtain ⟨r,hr⟩:∃ r,f ra rb=r:=⟨_,rfl⟩
   have ktx:=KT.out ra rb
   rw [hr] at ktx hst
   have KTx:=qh ktx
   have HST:=qh hst
   have hj0:(0:Int)≤(k:Int):=by omega
   have hj1:(k:Int)<(S.length:Int):=by omega
   have hs:Below wr.heap.size wr wr∧wr.cell? ⟨bs,os+k,none⟩=some (.int .u64 x):=⟨Below.refl _ _,c0⟩
   clear hst hr hown hL hP ktx c0
   cases r with
   | false =>
     go_wp2_with fail
     go_region_held3 (fun w'=>Below wr.heap.size wr w'∧w'.cell? ⟨bs,os+k,none⟩=some (.int .u64 x))
      (first
        | exact zv7 (by assumption) (Hid.out (by assumption))
        | exact zv7 hs (Below.refl _ _).drew
        | exact hs
        | assumption)
      (first
        | (go_at_call 51;refine (KHab.out _ _ (by first | exact .inl ⟨rfl,rfl⟩ | exact .inr ⟨rfl,rfl⟩) _ (by assumption)).mono ?_;rintro en w' ⟨rfl,hb4'⟩;have hb4:=qh hb4';clear hb4')
        | (go_at_call 162;refine (KTx.out _).mono ?_;rintro en w' ⟨rfl,rfl⟩))
     all_goals
      have hE:Below wr.heap.size wr w'∧w'.cell? ⟨bs,os+k,none⟩=some (.int .u64 x):=by assumption
      have HO2:=qh (HOW.out.below hE.1)
      have HB2:=qh (HB.out.trans (hE.1.mono HB.out.size))
      clear hE hs
      go_wp2_with fail
      go_roundw
      case rel=>exact ⟨k+1,by omega,by go_num,by rw [HST.out];exact HO2.out,HB2.out⟩
      case measure=>simp [intOf];omega
   | true =>
     go_wp2_with fail
     go_region_held3 (fun w'=>Below wr.heap.size wr w'∧w'.cell? ⟨bs,os+k,none⟩=some (.int .u64 x))
      (first
        | exact zv7 (by assumption) (Hid.out (by assumption))
        | exact zv7 hs (Below.refl _ _).drew
        | exact hs
        | assumption)
      (first
        | (go_at_call 51;refine (KHab.out _ _ (by first | exact .inl ⟨rfl,rfl⟩ | exact .inr ⟨rfl,rfl⟩) _ (by assumption)).mono ?_;rintro en w' ⟨rfl,hb4'⟩;have hb4:=qh hb4';clear hb4')
        | (go_at_call 162;refine (KTx.out _).mono ?_;rintro en w' ⟨rfl,rfl⟩))
     all_goals
      have hE:Below wr.heap.size wr w'∧w'.cell? ⟨bs,os+k,none⟩=some (.int .u64 x):=by assumption
      have HO2:=qh (HOW.out.below hE.1)
      have HB2:=qh (HB.out.trans (hE.1.mono HB.out.size))
      have KPy:=qh (KPx.out w' (HN.out.call HB2.out))
      clear hE hs KPx
      go_wp2_with fail
      refine KPy.out.mono ?_
      rintro e w3 ⟨rfl,h3⟩
      have HB3:=qh (HB2.out.trans (h3.mono HB2.out.size))
      have KUx:=qh (KU.out L P _ w1.heap.size w3 (HO2.out.below h3) HB3.out.size (by omega) hf hp)
      clear h3
      go_wp2_with fail
      refine KUx.out.mono ?_
      rintro e w4 ⟨v4,rfl,hv4,h4⟩
      have HB4:=qh (HB3.out.trans h4);clear h4
      obtain ⟨pv4,cv4,rfl,_⟩:=y8 hv4
      have HV4:=qh hv4;clear hv4
      go_wp2_with fail
      go_roundw
      case rel=>exact ⟨k+1,by omega,by go_num,by rw [HST.out];exact HV4.out,HB4.out⟩
      case measure=>simp [intOf];omega
  ·obtain rfl:k=S.length:=by omega
   obtain ⟨pv,cv,rfl,_⟩:=y8 hown
   have HOW:=qh hown;clear hown
   go_wp2_with fail
   go_ret
   exact ⟨_,rfl,p8 HOW.out HB1.out.size,HB1.out.trans (HB.out.mono HB1.out.size)⟩
structure z19 (w:World) (s:Value) (l:List Iv):Prop where
 at':v7 w s l
 good:t6 l
 len:l.length≤20000
theorem z19.call {w w':World} {s:Value} (h:z19 w s l) (hb:Below w.heap.size w w'):z19 w' s l:=⟨h.at'.call hb,h.good,h.len⟩
theorem t6.ord (h:t6 l):∀ y ∈ l,y.1≤y.2:=fun y hy=>(h.ok y hy).2.1
theorem v86 (a b:List Iv) (s t:Value) (w:World) (ha:z19 w s a) (hb:z19 w t b):Calls Tryz.prog 120 #[s,t,.int .i64 0] w (z69 (orL a b) w):=
 yt9 0 fOr wt1 a b s t w ha.at' hb.at' ha.good.all hb.good.all ha.good.ord hb.good.ord (by have:=ha.len;have:=hb.len;omega)
theorem v87 (a b:List Iv) (s t:Value) (w:World) (ha:z19 w s a) (hb:z19 w t b):Calls Tryz.prog 120 #[s,t,.int .i64 2] w (z69 (zn0 a b) w):=
 yt9 2 yh2 wi2 a b s t w ha.at' hb.at' ha.good.all hb.good.all ha.good.ord hb.good.ord (by have:=ha.len;have:=hb.len;omega)
set_option maxRecDepth 100000 in
theorem x06 (a b:List Iv) (s t:Value) (w:World) (ha:z19 w s a) (hb:z19 w t b):Calls Tryz.prog 89 #[s,t] w (z69 (orL a b) w):=by
 have K:=qh (v86 a b s t w ha hb);clear ha hb
 go_enter Tryz.func89,Tryz.ntmps89
 go_wp2_with fail
 refine K.out.mono ?_
 rintro e w1 ⟨v,rfl,hv,h1⟩
 have HV:=qh hv;have H1:=qh h1;clear hv h1
 go_wp2_with fail
 go_ret
 exact ⟨v,rfl,HV.out,H1.out⟩
set_option maxRecDepth 100000 in
theorem y25 (a b:List Iv) (s t:Value) (w:World) (ha:z19 w s a) (hb:z19 w t b):Calls Tryz.prog 235 #[s,t] w (z69 (zn0 a b) w):=by
 have K:=qh (v87 a b s t w ha hb);clear ha hb
 go_enter Tryz.func235,Tryz.ntmps235
 go_wp2_with fail
 refine K.out.mono ?_
 rintro e w1 ⟨v,rfl,hv,h1⟩
 have HV:=qh hv;have H1:=qh h1;clear hv h1
 go_wp2_with fail
 go_ret
 exact ⟨v,rfl,HV.out,H1.out⟩
theorem wt3 (a b:List Iv):(orL a b).length≤1+2*(a.length+b.length):=by grind [wd6,fOr,zg6,UM,List.length_append,orL]
theorem yl4 (a b:List Iv):(zn0 a b).length≤1+2*(a.length+b.length):=by grind [wd6,yh2,zg6,UM,List.length_append,zn0]
def xc0 (v:Value):Prop:=∀ n c,v = .slice none n c→n=0∧c=0
end
end Go.Proofs.YtchndljcahjldaaGreatDoor
