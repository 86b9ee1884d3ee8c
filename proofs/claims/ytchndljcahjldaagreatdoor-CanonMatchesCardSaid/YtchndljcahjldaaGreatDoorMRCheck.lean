/- New of package fault, and Check of package ranges and of the reference. Conditions: the ends are numbers of 64 bits; the variable errors.errorType holds the type error. -/
import Derived.Test.YtchndljcahjldaaGreatDoorMEFacts
import Derived.Test.YtchndljcahjldaaGreatDoorMRIv
import Derived.IntWalk
namespace Go.Proofs.YtchndljcahjldaaGreatDoor
set_option maxRecDepth 100000
set_option maxHeartbeats 2000000
section
open Go.RowKit
variable {W w1:World} {p q r t:Addr} {a b c d:Value}
theorem y64 (c a:Int) (w:World) (hc:(c == 0)=false) :
 Calls Tryz.prog 35 #[.int .i64 c,.int .i64 a] w fun e w'=>e = .returned (.iface 76 (.agg #[.int .i64 c,.int .i64 a]))∧w=w':=by
 go_enter Tryz.func35,Tryz.ntmps35
 go_wp2
 go_ret
 exact ⟨rfl,rfl⟩
def z72 (x:Option (Int × Option Int)) (w:World) (e:Ending) (w':World):Prop:=e = .returned (zj1 x)∧Below w.heap.size w w'
theorem wg5 (l:List Iv) (s:Value) (i:Nat) (x:Iv) (w:World) (hl:v7 w s l) (hi:l[i]? = some x) (hx:x.1≤x.2) :
 Calls Tryz.prog 146 #[s,.int .i64 i] w (fun e w'=>e = .returned .nilIface∧Below w.heap.size w w'):=by
 obtain ⟨b,o,cap,rfl,c0,c1⟩:=hl.elem hi
 have hlt:i<l.length:=(List.getElem?_eq_some_iff.1 hi).1
 have k:=fun w=>yu1 x.1 x.2 w
 rw [show zj1 (x07 x.1 x.2) = .nilIface from by unfold x07;rw [if_pos hx];rfl] at k
 have K:=qh k
 have hlen:=hl.shape.choose_spec.choose_spec.2
 clear k hl hi hx
 obtain ⟨x1,x2⟩:=x
 go_enter Tryz.func146,Tryz.ntmps146
 go_wp2_with fail
 refine (K.out _).mono ?_
 rintro e w1 ⟨rfl,h1⟩
 have H1:=qh h1;clear h1
 go_wp2_with fail
 go_ret
 exact ⟨rfl,H1.out⟩
theorem wr8 (l:List Iv) (s:Value) (i:Nat) (x:Iv) (w:World) (hg:z82 w) (hl:v7 w s l) (hi:l[i]? = some x) (hx:¬ x.1≤x.2) :
 Calls Tryz.prog 146 #[s,.int .i64 i] w (fun e w'=>e = .returned (.iface 76 (.agg #[.int .i64 2,.int .i64 i]))∧Below w.heap.size w w'):=by
 obtain ⟨b,o,cap,rfl,c0,c1⟩:=hl.elem hi
 have hlt:i<l.length:=(List.getElem?_eq_some_iff.1 hi).1
 have k:=fun w=>yu1 x.1 x.2 w
 rw [show zj1 (x07 x.1 x.2) = .iface 31 (.int .i64 2) from by unfold x07;rw [if_neg hx];rfl] at k
 have K:=qh k
 have k3:∀ w,z82 w→Calls Tryz.prog 13 #[.iface 31 (.int .i64 2)] w (wc8 2 w):=fun w hg=>zz2 (some (2,none)) w hg
 have K3:=qh k3;clear k3
 have K4:=qh y64
 have hlen:=hl.shape.choose_spec.choose_spec.2
 have Hg:=qh hg
 clear k hl hi hx hg
 obtain ⟨x1,x2⟩:=x
 go_enter Tryz.func146,Tryz.ntmps146
 go_wp2_with fail
 refine (K.out _).mono ?_
 rintro e w1 ⟨rfl,h1⟩
 have H1:=qh h1;clear h1
 go_wp2_with fail
 refine (K3.out _ (Hg.out.here H1.out)).mono ?_
 rintro e w2 ⟨rfl,h2⟩
 have H2:=qh (z7 H1.out h2);clear h2 H1
 go_wp2_with fail
 refine (K4.out 2 (i:Int) _ (by decide)).mono ?_
 rintro e w3 ⟨rfl,rfl⟩
 go_wp2_with fail
 go_ret
 exact ⟨rfl,H2.out⟩
def z16 (l:List Iv):Option (Int × Option Int):=(zv2 l).map fun x=>(x.1,some (x.2:Int))
theorem zl3 {w2:World}
 (h:Below W.heap.size W w1∧w1.cell? p=some a∧w1.cell? q=some b∧w1.cell? r=some c∧w1.cell? t=some d) (hb:Hid (Below w1.heap.size w1 w2)) :
 Below W.heap.size W w2∧w2.cell? p=some a∧w2.cell? q=some b∧w2.cell? r=some c∧w2.cell? t=some d:=
 ⟨z7 h.1 hb.out,z6 h.2.1 hb.out,z6 h.2.2.1 hb.out,z6 h.2.2.2.1 hb.out,z6 h.2.2.2.2 hb.out⟩
theorem z96
 (h:Below W.heap.size W w1∧w1.cell? p=some a∧w1.cell? q=some b∧w1.cell? r=some c∧w1.cell? t=some d) :
 Below W.heap.size W w1.drew∧w1.drew.cell? p=some a∧w1.drew.cell? q=some b∧w1.drew.cell? r=some c∧w1.drew.cell? t=some d:=zl3 h (Below.refl _ _).drew
theorem yk0 (l:List Iv) (s:Value) (w:World) (hg:z82 w) (hl:v7 w s l) (h64:m9 l) :
 Calls Tryz.prog 92 #[s] w (z72 (z16 l) w):=by
 obtain ⟨p,cap,rfl,hlen⟩:=hl.shape
 have I:=qh hl;clear hl
 have Hg:=qh hg;clear hg
 have K1:=qh wg5
 have K2:=qh wr8
 have K4:=qh y64
 have KR:=qh zo1
 go_enter Tryz.func92,Tryz.ntmps92
 go_wp2_with fail
 go_loopw [7] (fun i wr=>∃ k:Nat,k≤l.length∧i = .int .i64 k∧(∀ j,j<k→z47 l j=0)∧Below w.heap.size w wr) (fun i _=>l.length - (intOf i).toNat)
 case atStart=>exact ⟨0,Nat.zero_le _,rfl,fun j h=>absurd h (Nat.not_lt_zero j),Below.refl _ _⟩
 case round =>
  obtain ⟨k,hk,rfl,hall,hb⟩:=hrel
  have HB:=qh hb;clear hb
  have HA:=qh hall;clear hall
  by_cases hlt:k<l.length
  ·obtain ⟨x,hx⟩:∃ x,l[k]? = some x:=⟨l[k],by simp [hlt]⟩
   by_cases hle:x.1≤x.2
   ·go_wp2_with fail
    refine (K1.out l _ k x _ (I.out.call HB.out) hx (by omega)).mono ?_
    rintro e w1 ⟨rfl,h1⟩
    have H1:=qh (z7 HB.out h1);clear h1
    cases k with
    | zero =>
      have hbad:=qh (zu2 hx hle)
      clear hx hle
      go_wp2_with fail
      go_quiet (fail)
      go_wp2_with fail
      go_roundw
      case rel=>exact ⟨1,by omega,by go_num,(fun j hj=>(show j=0 by omega) ▸ hbad.out),below_drewN H1.out _⟩
      case measure=>simp [intOf];omega
    | succ j =>
      obtain ⟨y,hy⟩:∃ y,l[j]? = some y:=⟨l[j],by simp [show j<l.length by omega]⟩
      obtain ⟨b,o,cap',e,cx0,cx1⟩:=(I.out.call H1.out).elem hx
      have cy:=(I.out.call H1.out).elem hy
      rw [e] at cy
      obtain ⟨b',o',cap'',e',cy0,cy1⟩:=cy
      cases e;cases e'
      have bx:=h64.at hx
      have by':=h64.at hy
      have KX:=qh (fun w=>KR.out y.1 y.2 x.1 x.2 w by'.2.1 bx.1.2 bx.2.1 by'.1.2)
      have hz:=zu1 y.1 y.2 x.1 x.2
      obtain ⟨r,hr⟩:∃ r,z73 y.1 y.2 x.1 x.2=r:=⟨_,rfl⟩
      rw [hr] at KX hz
      have hbad:z47 l (j+1)=if r=0 then 0 else 3:=by
       by_cases h0:r=0
       ·rw [if_pos h0,zr8 hx hy hle (hz.1 h0)]
       ·rw [if_neg h0,zl4 hx hy hle (fun h=>h0 (hz.2 h))]
      have HBad:=qh hbad
      obtain ⟨x1,x2⟩:=x
      obtain ⟨y1,y2⟩:=y
      dsimp only at cx0 cx1 cy0 cy1
      have hs:Below w.heap.size w w1∧w1.cell? ⟨b,o+j*2,none⟩=some (.int .u64 y1)∧w1.cell? ⟨b,o+j*2+1,none⟩=some (.int .u64 y2)∧w1.cell? ⟨b,o+(j+1)*2,none⟩=some (.int .u64 x1)∧w1.cell? ⟨b,o+(j+1)*2+1,none⟩=some (.int .u64 x2):=⟨H1.out,cy0,cy1,cx0,cx1⟩
      have hj0:(0:Int)≤(j:Int):=by omega
      have hj1:(j:Int)<(l.length:Int):=by omega
      have hj2:(0:Int)≤(j:Int)+1:=by omega
      have hj3:(j:Int)+1<(l.length:Int):=by omega
      have hw1:IntKind.i64.wrap ((j:Int)+1 - 1)=(j:Int):=(IntWalk.i64_in _ (by omega)).trans (by omega)
      have hw2:IntKind.i64.wrap (j:Int)=(j:Int):=IntWalk.i64_in _ (by omega)
      have hw3:IntKind.i64.wrap (((j+1:Nat):Int) - 1)=(j:Int):=(IntWalk.i64_in _ (by omega)).trans (by omega)
      clear hx hy bx by' hle hz hbad hr cx0 cx1 cy0 cy1
      go_wp2_with fail
      go_region_held3 (fun w'=>Below w.heap.size w w'∧w'.cell? ⟨b,o+j*2,none⟩=some (.int .u64 y1)∧w'.cell? ⟨b,o+j*2+1,none⟩=some (.int .u64 y2)∧w'.cell? ⟨b,o+(j+1)*2,none⟩=some (.int .u64 x1)∧w'.cell? ⟨b,o+(j+1)*2+1,none⟩=some (.int .u64 x2))
       (first
         | exact zl3 (by assumption) (by assumption)
         | exact z96 (by assumption)
         | exact hs
         | assumption)
       (first
         | (go_at_call 73;refine (KX.out _).mono ?_;rintro en w' ⟨rfl,hb4'⟩;have hb4:=qh hb4';clear hb4'))
      all_goals
       rename_i hE
       have HE:=qh hE.1
       clear hs hE
       by_cases h0:r=0
       ·have h0b:(r != 0)=false:=by simpa using h0
        have HZ:=qh h0
        clear h0
        go_wp2_with fail
        go_roundw
        case rel =>
         refine ⟨j+1+1,by omega,by go_num,fun i hi => ?_,HE.out⟩
         rcases Nat.lt_or_eq_of_le (Nat.le_of_lt_succ hi) with h | h
         ·exact HA.out i h
         ·rw [h,HBad.out,if_pos HZ.out]
        case measure=>simp [intOf];omega
       ·have h0b:(r != 0)=true:=by simpa using h0
        have HZ:=qh h0
        clear h0
        go_wp2_with fail
        refine (K4.out 3 ((j:Int)+1) _ (by decide)).mono ?_
        rintro e w3 ⟨rfl,rfl⟩
        go_wp2_with fail
        go_ret
        refine ⟨?_,HE.out⟩
        have hc:=y19 hlt HA.out (by rw [HBad.out,if_neg HZ.out];decide)
        have hv:z16 l=some (3,some ((j:Int)+1)):=by unfold z16;rw [hc,HBad.out,if_neg HZ.out];rfl
        rw [hv]
        rfl
   ·have hbad:=qh (z64 hx hle)
    go_wp2_with fail
    refine (K2.out l _ k x _ (Hg.out.here HB.out) (I.out.call HB.out) hx (by omega)).mono ?_
    rintro e w1 ⟨rfl,h1⟩
    have H1:=qh (z7 HB.out h1);clear h1 hx hle
    go_wp2_with fail
    go_ret
    refine ⟨?_,H1.out⟩
    have hc:=y19 hlt HA.out (by rw [hbad.out];decide)
    have hv:z16 l=some (2,some (k:Int)):=by unfold z16;rw [hc,hbad.out];rfl
    rw [hv]
    rfl
  ·obtain rfl:k=l.length:=by omega
   go_wp2_with fail
   go_ret
   refine ⟨?_,HB.out⟩
   have hv:z16 l=none:=by unfold z16;rw [yk5 HA.out];rfl
   rw [hv]
   rfl
def yz2 (a b:Int) (w:World) (e:Ending) (w':World):Prop:=e = .returned (.tuple #[.int .i64 a,.int .i64 b])∧Below w.heap.size w w'
theorem y18 (l:List Iv) (s:Value) (w:World) (hl:v7 w s l) (h64:m9 l) :
 Calls Tryz.prog 65 #[s] w (yz2 (c5 (z16 l)) ((atE (z16 l)).getD (-1)) w):=by
 obtain ⟨p,cap,rfl,hlen⟩:=hl.shape
 have I:=qh hl;clear hl
 have KR:=qh zj4
 go_enter Tryz.func65,Tryz.ntmps65
 go_wp2_with fail
 go_loopw [4] (fun i wr=>∃ k:Nat,k≤l.length∧i = .int .i64 k∧(∀ j,j<k→z47 l j=0)∧Below w.heap.size w wr) (fun i _=>l.length - (intOf i).toNat)
 case atStart=>exact ⟨0,Nat.zero_le _,rfl,fun j h=>absurd h (Nat.not_lt_zero j),Below.refl _ _⟩
 case round =>
  obtain ⟨k,hk,rfl,hall,hb⟩:=hrel
  have HB:=qh hb;clear hb
  have HA:=qh hall;clear hall
  by_cases hlt:k<l.length
  ·obtain ⟨x,hx⟩:∃ x,l[k]? = some x:=⟨l[k],by simp [hlt]⟩
   by_cases hle:x.1≤x.2
   ·obtain ⟨b0,o0,cap0,e0,z0,z1⟩:=(I.out.call HB.out).elem hx
    cases e0
    have k1:=fun w=>yu0 x.1 x.2 w
    rw [show decide (x.1≤x.2)=true from by simpa using hle] at k1
    have K1:=qh k1;clear k1
    go_wp2_with fail
    refine (K1.out _).mono ?_
    rintro e w1 ⟨rfl,h1⟩
    clear z0 z1
    have H1:=qh (z7 HB.out h1);clear h1
    cases k with
    | zero =>
      have hbad:=qh (zu2 hx hle)
      clear hx hle
      go_wp2_with fail
      go_quiet (fail)
      go_wp2_with fail
      go_roundw
      case rel=>exact ⟨1,by omega,by go_num,(fun j hj=>(show j=0 by omega) ▸ hbad.out),below_drewN H1.out _⟩
      case measure=>simp [intOf];omega
    | succ j =>
      obtain ⟨y,hy⟩:∃ y,l[j]? = some y:=⟨l[j],by simp [show j<l.length by omega]⟩
      obtain ⟨b,o,cap',e,cx0,cx1⟩:=(I.out.call H1.out).elem hx
      have cy:=(I.out.call H1.out).elem hy
      rw [e] at cy
      obtain ⟨b',o',cap'',e',cy0,cy1⟩:=cy
      cases e;cases e'
      have bx:=h64.at hx
      have by':=h64.at hy
      have KX:=qh (fun w=>KR.out y.1 y.2 x.1 x.2 w by'.2.1 bx.1.2 bx.2.1 by'.1.2)
      have hz:=zu1 y.1 y.2 x.1 x.2
      obtain ⟨r,hr⟩:∃ r,z73 y.1 y.2 x.1 x.2=r:=⟨_,rfl⟩
      rw [hr] at KX hz
      have hbad:z47 l (j+1)=if r=0 then 0 else 3:=by
       by_cases h0:r=0
       ·rw [if_pos h0,zr8 hx hy hle (hz.1 h0)]
       ·rw [if_neg h0,zl4 hx hy hle (fun h=>h0 (hz.2 h))]
      have HBad:=qh hbad
      obtain ⟨x1,x2⟩:=x
      obtain ⟨y1,y2⟩:=y
      dsimp only at cx0 cx1 cy0 cy1
      have hs:Below w.heap.size w w1∧w1.cell? ⟨b0,o0+j*2,none⟩=some (.int .u64 y1)∧w1.cell? ⟨b0,o0+j*2+1,none⟩=some (.int .u64 y2)∧w1.cell? ⟨b0,o0+(j+1)*2,none⟩=some (.int .u64 x1)∧w1.cell? ⟨b0,o0+(j+1)*2+1,none⟩=some (.int .u64 x2):=⟨H1.out,cy0,cy1,cx0,cx1⟩
      have hj0:(0:Int)≤(j:Int):=by omega
      have hj1:(j:Int)<(l.length:Int):=by omega
      have hj2:(0:Int)≤(j:Int)+1:=by omega
      have hj3:(j:Int)+1<(l.length:Int):=by omega
      have hw1:IntKind.i64.wrap ((j:Int)+1 - 1)=(j:Int):=(IntWalk.i64_in _ (by omega)).trans (by omega)
      have hw2:IntKind.i64.wrap (j:Int)=(j:Int):=IntWalk.i64_in _ (by omega)
      have hw3:IntKind.i64.wrap (((j+1:Nat):Int) - 1)=(j:Int):=(IntWalk.i64_in _ (by omega)).trans (by omega)
      clear hx hy bx by' hle hz hbad hr cx0 cx1 cy0 cy1
      go_wp2_with fail
      go_region_held3 (fun w'=>Below w.heap.size w w'∧w'.cell? ⟨b0,o0+j*2,none⟩=some (.int .u64 y1)∧w'.cell? ⟨b0,o0+j*2+1,none⟩=some (.int .u64 y2)∧w'.cell? ⟨b0,o0+(j+1)*2,none⟩=some (.int .u64 x1)∧w'.cell? ⟨b0,o0+(j+1)*2+1,none⟩=some (.int .u64 x2))
       (first
         | exact zl3 (by assumption) (by assumption)
         | exact z96 (by assumption)
         | exact hs
         | assumption)
       (first
         | (go_at_call 116;refine (KX.out _).mono ?_;rintro en w' ⟨rfl,hb4'⟩;have hb4:=qh hb4';clear hb4'))
      all_goals
       rename_i hE
       have HE:=qh hE.1
       clear hs hE
       by_cases h0:r=0
       ·have h0b:(r != 0)=false:=by simpa using h0
        have HZ:=qh h0
        clear h0
        go_wp2_with fail
        go_roundw
        case rel =>
         refine ⟨j+1+1,by omega,by go_num,fun i hi => ?_,HE.out⟩
         rcases Nat.lt_or_eq_of_le (Nat.le_of_lt_succ hi) with h | h
         ·exact HA.out i h
         ·rw [h,HBad.out,if_pos HZ.out]
        case measure=>simp [intOf];omega
       ·have h0b:(r != 0)=true:=by simpa using h0
        have HZ:=qh h0
        clear h0
        go_wp2_with fail
        go_ret2
        refine ⟨?_,HE.out⟩
        have hc:=y19 hlt HA.out (by rw [HBad.out,if_neg HZ.out];decide)
        have hv:z16 l=some (3,some ((j:Int)+1)):=by unfold z16;rw [hc,HBad.out,if_neg HZ.out];rfl
        rw [hv]
        rfl
   ·have hbad:=qh (z64 hx hle)
    obtain ⟨b0,o0,cap0,e0,z0,z1⟩:=(I.out.call HB.out).elem hx
    cases e0
    have k1:=fun w=>yu0 x.1 x.2 w
    rw [show decide (x.1≤x.2)=false from by simpa using hle] at k1
    have K1:=qh k1;clear k1
    clear hx hle
    go_wp2_with fail
    refine (K1.out _).mono ?_
    rintro e w1 ⟨rfl,h1⟩
    have H1:=qh (z7 HB.out h1);clear h1 z0 z1
    go_wp2_with fail
    go_ret2
    refine ⟨?_,H1.out⟩
    have hc:=y19 hlt HA.out (by rw [hbad.out];decide)
    have hv:z16 l=some (2,some (k:Int)):=by unfold z16;rw [hc,hbad.out];rfl
    rw [hv]
    rfl
  ·obtain rfl:k=l.length:=by omega
   go_wp2_with fail
   go_ret2
   refine ⟨?_,HB.out⟩
   have hv:z16 l=none:=by unfold z16;rw [yk5 HA.out];rfl
   rw [hv]
   rfl
def yk1 (l:List Iv):Bool:=decide (c5 (z16 l)=0)
theorem yk2 (l:List Iv):yk1 l=true↔m5 l:=by
 unfold yk1 z16
 rw [← y65]
 cases h:zv2 l with
 | none=>simp [c5]
 | some x =>
   obtain ⟨c,k⟩:=x
   simp only [Option.map_some,c5,reduceCtorEq,iff_false]
   intro hc
   have hc:=of_decide_eq_true hc
   subst hc
   unfold zv2 at h
   obtain ⟨j,_,hj⟩:=List.exists_of_findSome?_eq_some h
   grind
theorem wg6 (a b x:Int):zv3 a b x=inI (a,b) x:=rfl
theorem wr9 (a b x:Int) (r:Bool) (w:World) (h:zv3 a b x=r) :
 Calls Tryz.prog 97 #[.agg #[.int .u64 a,.int .u64 b],.int .u64 x] w (q8 r w):=by
 subst h;exact xn1 a b x w
theorem w28 (l:List Iv) (x:Int) (k:Nat) (y:Iv) (h:l[k]? = some y):y9 (l.take (k+1)) x=(y9 (l.take k) x || inI y x):=by
 unfold y9
 rw [List.take_add_one,h]
 simp
theorem zi2 (l:List Iv) (s:Value) (x:Int) (w:World) (hl:v7 w s l) :
 Calls Tryz.prog 51 #[s,.int .u64 x] w (q8 (y9 l x) w):=by
 obtain ⟨p,cap,rfl,hlen⟩:=hl.shape
 have I:=qh hl;clear hl
 have K:=qh wr9
 go_enter Tryz.func51,Tryz.ntmps51
 go_wp2_with fail
 go_loopw [5] (fun i wr=>∃ k:Nat,k≤l.length∧i = .int .i64 k∧y9 (l.take k) x=false∧Below w.heap.size w wr) (fun i _=>l.length - (intOf i).toNat)
 case atStart=>exact ⟨0,Nat.zero_le _,rfl,rfl,Below.refl _ _⟩
 case round =>
  obtain ⟨k,hk,rfl,hall,hb⟩:=hrel
  have HB:=qh hb;clear hb
  have HA:=qh hall;clear hall
  by_cases hlt:k<l.length
  ·obtain ⟨y,hy⟩:∃ y,l[k]? = some y:=⟨l[k],by simp [hlt]⟩
   obtain ⟨b0,o0,cap0,e0,z0,z1⟩:=(I.out.call HB.out).elem hy
   cases e0
   have HT:=qh (w28 l x k y hy)
   have HM:=qh (List.mem_of_getElem? hy)
   clear hy
   obtain ⟨y1,y2⟩:=y
   cases hr:zv3 y1 y2 x with
   | true =>
     have KR:=qh (fun w=>K.out y1 y2 x true w hr)
     have HR:=qh hr;clear hr
     go_wp2_with fail
     refine (KR.out _).mono ?_
     rintro e w1 ⟨rfl,h1⟩
     have H1:=qh (z7 HB.out h1);clear h1
     go_wp2_with fail
     go_ret
     exact ⟨b9 ((t7 l x).2 ⟨_,HM.out,(ye1 (y1,y2) x).1 HR.out⟩).symm,H1.out⟩
   | false =>
     have KR:=qh (fun w=>K.out y1 y2 x false w hr)
     have HR:=qh hr;clear hr
     go_wp2_with fail
     refine (KR.out _).mono ?_
     rintro e w1 ⟨rfl,h1⟩
     have H1:=qh (z7 HB.out h1);clear h1
     go_wp2_with fail
     go_roundw
     case rel=>exact ⟨k+1,by omega,by go_num,by rw [HT.out,HA.out,← wg6,HR.out];rfl,H1.out⟩
     case measure=>simp [intOf];omega
  ·obtain rfl:k=l.length:=by omega
   rw [List.take_length] at HA
   go_wp2_with fail
   go_ret
   exact ⟨b9 HA.out.symm,HB.out⟩
end
end Go.Proofs.YtchndljcahjldaaGreatDoor
