/- bits.TrailingZeros of a number from 1 to 13. Condition: the table of package bits lies in its variable. -/
import Derived.Lib.LaidTab
import Derived.Test.YtchndljcahjldaaGreatDoorMQMath
namespace Go.Proofs.YtchndljcahjldaaGreatDoor
section
open Go.RowKit
variable {w w':World}
def yw8:List Int := [0,1,56,2,57,49,28,3,61,58,42,50,38,29,17,4,62,47,59,36,45,43,51,22,53,39,33,30,24,18,12,5,63,55,48,27,60,41,37,16,46,35,44,21,52,32,23,11,54,26,40,15,34,20,31,10,25,14,19,9,13,8,7,6]
def Deb (w:World):Prop:=Lib.TabIs Tryz.prog w "math/bits.deBruijn64tab" .u8 yw8
def zz9 (w:World):Prop:=∀ W,Below w.heap.size w W→Deb W
theorem zz9.now (h:zz9 w):Deb w:=h w (Below.refl _ _)
theorem zz9.here (h:zz9 w) (hb:Below w.heap.size w w'):zz9 w':=fun W hW=>h W (hb.trans (hW.mono hb.size))
theorem wo3:Tryz.prog.globalNamed "math/bits.deBruijn64tab" = some 2:=by kernel_rfl
theorem Deb.cell (h:Deb w) {i:Nat} {z:Int} (hz:yw8[i]? = some z):w.cell? ⟨2,i,none⟩=some (.int .u8 z):=by
 have hi:=(List.getElem?_eq_some_iff.1 hz).1
 have:=Lib.TabIs.cell h wo3 i hi
 rw [List.getD_eq_getElem?_getD,hz] at this
 exact this
def tzK (n:Nat):Nat := [0,0,1,0,2,0,1,0,3,0,1,0,2,0].getD n 0
set_option maxRecDepth 100000 in
set_option maxHeartbeats 8000000 in
theorem wa3 (n:Nat) (h1:1≤n) (h2:n≤13) (w:World) (hd:Deb w):Calls Tryz.prog 227 #[.int .u64 n] w (fun e w'=>e = .returned (.int .i64 (tzK n))∧Below w.heap.size w w'):=by
 have hc:n=1∨n=2∨n=3∨n=4∨n=5∨n=6∨n=7∨n=8∨n=9∨n=10∨n=11∨n=12∨n=13:=by omega
 clear h1 h2
 rcases hc with rfl | rfl | rfl | rfl | rfl | rfl | rfl | rfl | rfl | rfl | rfl | rfl | rfl
 ·have c0:=hd.cell (i:=0) (z:=0) rfl
  have e0:IntKind.u64.wrap (bits BinOp.and IntKind.u64 1 (IntKind.u64.wrap (-1))*285870213051353865) / 288230376151711744=0:=by kernel_rfl
  clear hd
  go_enter Tryz.func227,Tryz.ntmps227
  go_wp2_with fail
  go_ret
  exact ⟨rfl,Below.refl _ _⟩
 ·have c0:=hd.cell (i:=1) (z:=1) rfl
  have e0:IntKind.u64.wrap (bits BinOp.and IntKind.u64 2 (IntKind.u64.wrap (-2))*285870213051353865) / 288230376151711744=1:=by kernel_rfl
  clear hd
  go_enter Tryz.func227,Tryz.ntmps227
  go_wp2_with fail
  go_ret
  exact ⟨rfl,Below.refl _ _⟩
 ·have c0:=hd.cell (i:=0) (z:=0) rfl
  have e0:IntKind.u64.wrap (bits BinOp.and IntKind.u64 3 (IntKind.u64.wrap (-3))*285870213051353865) / 288230376151711744=0:=by kernel_rfl
  clear hd
  go_enter Tryz.func227,Tryz.ntmps227
  go_wp2_with fail
  go_ret
  exact ⟨rfl,Below.refl _ _⟩
 ·have c0:=hd.cell (i:=3) (z:=2) rfl
  have e0:IntKind.u64.wrap (bits BinOp.and IntKind.u64 4 (IntKind.u64.wrap (-4))*285870213051353865) / 288230376151711744=3:=by kernel_rfl
  clear hd
  go_enter Tryz.func227,Tryz.ntmps227
  go_wp2_with fail
  go_ret
  exact ⟨rfl,Below.refl _ _⟩
 ·have c0:=hd.cell (i:=0) (z:=0) rfl
  have e0:IntKind.u64.wrap (bits BinOp.and IntKind.u64 5 (IntKind.u64.wrap (-5))*285870213051353865) / 288230376151711744=0:=by kernel_rfl
  clear hd
  go_enter Tryz.func227,Tryz.ntmps227
  go_wp2_with fail
  go_ret
  exact ⟨rfl,Below.refl _ _⟩
 ·have c0:=hd.cell (i:=1) (z:=1) rfl
  have e0:IntKind.u64.wrap (bits BinOp.and IntKind.u64 6 (IntKind.u64.wrap (-6))*285870213051353865) / 288230376151711744=1:=by kernel_rfl
  clear hd
  go_enter Tryz.func227,Tryz.ntmps227
  go_wp2_with fail
  go_ret
  exact ⟨rfl,Below.refl _ _⟩
 ·have c0:=hd.cell (i:=0) (z:=0) rfl
  have e0:IntKind.u64.wrap (bits BinOp.and IntKind.u64 7 (IntKind.u64.wrap (-7))*285870213051353865) / 288230376151711744=0:=by kernel_rfl
  clear hd
  go_enter Tryz.func227,Tryz.ntmps227
  go_wp2_with fail
  go_ret
  exact ⟨rfl,Below.refl _ _⟩
 ·have c0:=hd.cell (i:=7) (z:=3) rfl
  have e0:IntKind.u64.wrap (bits BinOp.and IntKind.u64 8 (IntKind.u64.wrap (-8))*285870213051353865) / 288230376151711744=7:=by kernel_rfl
  clear hd
  go_enter Tryz.func227,Tryz.ntmps227
  go_wp2_with fail
  go_ret
  exact ⟨rfl,Below.refl _ _⟩
 ·have c0:=hd.cell (i:=0) (z:=0) rfl
  have e0:IntKind.u64.wrap (bits BinOp.and IntKind.u64 9 (IntKind.u64.wrap (-9))*285870213051353865) / 288230376151711744=0:=by kernel_rfl
  clear hd
  go_enter Tryz.func227,Tryz.ntmps227
  go_wp2_with fail
  go_ret
  exact ⟨rfl,Below.refl _ _⟩
 ·have c0:=hd.cell (i:=1) (z:=1) rfl
  have e0:IntKind.u64.wrap (bits BinOp.and IntKind.u64 10 (IntKind.u64.wrap (-10))*285870213051353865) / 288230376151711744=1:=by kernel_rfl
  clear hd
  go_enter Tryz.func227,Tryz.ntmps227
  go_wp2_with fail
  go_ret
  exact ⟨rfl,Below.refl _ _⟩
 ·have c0:=hd.cell (i:=0) (z:=0) rfl
  have e0:IntKind.u64.wrap (bits BinOp.and IntKind.u64 11 (IntKind.u64.wrap (-11))*285870213051353865) / 288230376151711744=0:=by kernel_rfl
  clear hd
  go_enter Tryz.func227,Tryz.ntmps227
  go_wp2_with fail
  go_ret
  exact ⟨rfl,Below.refl _ _⟩
 ·have c0:=hd.cell (i:=3) (z:=2) rfl
  have e0:IntKind.u64.wrap (bits BinOp.and IntKind.u64 12 (IntKind.u64.wrap (-12))*285870213051353865) / 288230376151711744=3:=by kernel_rfl
  clear hd
  go_enter Tryz.func227,Tryz.ntmps227
  go_wp2_with fail
  go_ret
  exact ⟨rfl,Below.refl _ _⟩
 ·have c0:=hd.cell (i:=0) (z:=0) rfl
  have e0:IntKind.u64.wrap (bits BinOp.and IntKind.u64 13 (IntKind.u64.wrap (-13))*285870213051353865) / 288230376151711744=0:=by kernel_rfl
  clear hd
  go_enter Tryz.func227,Tryz.ntmps227
  go_wp2_with fail
  go_ret
  exact ⟨rfl,Below.refl _ _⟩
set_option maxRecDepth 100000 in
theorem wy0 (n:Nat) (h1:1≤n) (h2:n≤13) (w:World) (hd:Deb w):Calls Tryz.prog 183 #[.int .u64 n] w (fun e w'=>e = .returned (.int .i64 (tzK n))∧Below w.heap.size w w'):=by
 have K:=qh (wa3 n h1 h2 w hd);clear h1 h2 hd
 go_enter Tryz.func183,Tryz.ntmps183
 go_wp2_with fail
 refine K.out.mono ?_
 rintro e w1 ⟨rfl,h⟩
 have H1:=qh h;clear h
 go_wp2_with fail
 go_ret
 exact ⟨rfl,H1.out⟩
structure z08 (w:World) (v:Value) (F:t8):Prop where
 m:z85 w v F
 sane:z02 v
theorem z08.call {v:Value} {F:t8} (h:z08 w v F) (hb:Below w.heap.size w w'):z08 w' v F:=⟨h.m.call hb,h.sane⟩
def zf0 (F:t8):Option (Int × Option Int):=(yj3 F).map fun x=>(x.1,some (x.2:Int))
structure zh3 (w:World):Prop where
 e:z82 w
 d:zz9 w
theorem zh3.here (h:zh3 w) (hb:Below w.heap.size w w'):zh3 w':=⟨h.e.here hb,h.d.here hb⟩
set_option maxRecDepth 100000 in
set_option maxHeartbeats 2000000 in
theorem xi3 (l m:List Int) (s t:Value) (w:World) (hl:yj8 w s l) (hm:yj8 w t m) :
 Calls Tryz.prog 27 #[s,t] w (q8 (decide (l=m)) w):=by
 obtain ⟨p,cap,rfl,hl1,hl2⟩:=hl
 obtain ⟨q,caq,rfl,hm1,hm2⟩:=hm
 have HL:=qh hl2;clear hl2
 have HM:=qh hm2;clear hm2
 have hl3:l.length≤9223372036854775807:=by unfold maxLen at hl1;omega
 have hm3:m.length≤9223372036854775807:=by unfold maxLen at hm1;omega
 clear hl1 hm1
 by_cases hlen:l.length=m.length
 ·go_enter Tryz.func27,Tryz.ntmps27
  have hb:((l.length:Int) != (m.length:Int))=false:=by simp [hlen]
  have HLEN:=qh hlen;clear hlen
  go_wp2_with fail
  go_loopw [13] (fun i wr=>∃ k:Nat,k≤l.length∧i = .int .i64 k∧l.take k=m.take k∧Below w.heap.size w wr) (fun i _=>l.length - (intOf i).toNat)
  case atStart=>exact ⟨0,Nat.zero_le _,rfl,by simp,Below.refl _ _⟩
  case round =>
   obtain ⟨k,hk,rfl,heq,hb⟩:=hrel
   have HB:=qh hb;clear hb
   have HE:=qh heq;clear heq
   by_cases hlt:k<l.length
   ·obtain ⟨b,o,rfl,hcl⟩:=HL.out (by intro h;subst h;simp at hlt)
    obtain ⟨b',o',rfl,hcm⟩:=HM.out (fun h=>by rw [HLEN.out,h] at hlt;exact absurd hlt (Nat.not_lt_zero k))
    have hgl:l[k]? = some l[k]:=by simp [hlt]
    have hlt2:k<m.length:=by have:=HLEN.out;omega
    have hgm:m[k]? = some m[k]:=by simp [hlt2]
    generalize hX:l[k]=X at *
    generalize hY:m[k]=Y at *
    have c0:wr.cell? ⟨b,o+k,none⟩=some (.int .i64 X):=z6 (hcl k X hgl) HB.out
    have d0:wr.cell? ⟨b',o'+k,none⟩=some (.int .i64 Y):=z6 (hcm k Y hgm) HB.out
    clear hcl hcm hgl hgm
    have HX:=qh hX;clear hX
    have HY:=qh hY;clear hY
    by_cases hxy:X=Y
    ·subst hxy
     go_wp2_with fail
     go_quiet (fail)
     go_wp2_with fail
     go_roundw
     case rel =>
      refine ⟨k+1,by omega,by go_num,?_,below_drewN HB.out _⟩
      rw [List.take_succ_eq_append_getElem hlt,List.take_succ_eq_append_getElem hlt2,HE.out,HX.out,HY.out]
     case measure=>simp [intOf];omega
    ·have hne:decide (l=m)=false:=by
      simp only [decide_eq_false_iff_not]
      intro e
      subst e
      exact hxy (HX.out.symm.trans HY.out)
     have HN:=qh hne;clear hne
     have e1:(X != Y)=true:=by simpa using hxy
     clear hxy
     go_wp2_with fail
     go_quiet (fail)
     go_wp2_with fail
     go_ret
     exact ⟨b9 HN.out.symm,below_drewN HB.out _⟩
   ·obtain rfl:k=l.length:=by omega
    have hall:decide (l=m)=true:=by
     have e:=HE.out
     rw [List.take_length,HLEN.out,List.take_length] at e
     simpa using e
    have HN:=qh hall;clear hall
    go_wp2_with fail
    go_ret
    exact ⟨b9 HN.out.symm,HB.out⟩
 ·have hb:((l.length:Int) != (m.length:Int))=true:=by simp;omega
  have hne:decide (l=m)=false:=by
   simp only [decide_eq_false_iff_not]
   intro e
   exact hlen (congrArg List.length e)
  have HN:=qh hne;clear hne
  clear hlen
  go_enter Tryz.func27,Tryz.ntmps27
  go_wp2_with fail
  go_ret
  exact ⟨b9 HN.out.symm,Below.refl _ _⟩
end
end Go.Proofs.YtchndljcahjldaaGreatDoor
