/- New of package fault, and Check of package ranges and of the reference. Conditions: the ends are numbers of 64 bits; the variable errors.errorType holds the type error. -/
import Derived.Test.YtgcakgegboicjaaGreatDoorKEFacts
import Derived.Test.YtgcakgegboicjaaGreatDoorKRIv
import Derived.IntWalk
namespace Go.Proofs.YtgcakgegboicjaaGreatDoor
set_option maxRecDepth 100000
set_option maxHeartbeats 2000000
section
open Go.RowKit
theorem new_ok (c a:Int) (w:World) (hc:(c == 0)=false) :
 Calls Tryz.prog 59 #[.int .i64 c,.int .i64 a] w fun e w'=>e = .returned (.iface 95 (.agg #[.int .i64 c,.int .i64 a]))∧w=w':=by
 go_enter Tryz.func59,Tryz.ntmps59
 go_wp2
 go_ret
 exact ⟨rfl,rfl⟩
def IsErr (x:Option (Int × Option Int)) (w:World) (e:Ending) (w':World):Prop:=e = .returned (errV x)∧Below w.heap.size w w'
theorem one_ok (l:List Iv) (s:Value) (i:Nat) (x:Iv) (w:World) (hl:IvsAt w s l) (hi:l[i]? = some x) (hx:x.1≤x.2) :
 Calls Tryz.prog 169 #[s,.int .i64 i] w (fun e w'=>e = .returned .nilIface∧Below w.heap.size w w'):=by
 obtain ⟨b,o,cap,rfl,c0,c1⟩:=hl.elem hi
 have hlt:i<l.length:=(List.getElem?_eq_some_iff.1 hi).1
 have k:=fun w=>check_any x.1 x.2 w
 rw [show errV (chkE x.1 x.2) = .nilIface from by unfold chkE;rw [if_pos hx];rfl] at k
 have K:=qh k
 have hlen:=hl.shape.choose_spec.choose_spec.2
 clear k hl hi hx
 obtain ⟨x1,x2⟩:=x
 go_enter Tryz.func169,Tryz.ntmps169
 go_wp2_with fail
 refine (K.out _).mono ?_
 rintro e w1 ⟨rfl,h1⟩
 have H1:=qh h1;clear h1
 go_wp2_with fail
 go_ret
 exact ⟨rfl,H1.out⟩
theorem one_bad (l:List Iv) (s:Value) (i:Nat) (x:Iv) (w:World) (hg:ErrT w) (hl:IvsAt w s l) (hi:l[i]? = some x) (hx:¬ x.1≤x.2) :
 Calls Tryz.prog 169 #[s,.int .i64 i] w (fun e w'=>e = .returned (.iface 95 (.agg #[.int .i64 2,.int .i64 i]))∧Below w.heap.size w w'):=by
 obtain ⟨b,o,cap,rfl,c0,c1⟩:=hl.elem hi
 have hlt:i<l.length:=(List.getElem?_eq_some_iff.1 hi).1
 have k:=fun w=>check_any x.1 x.2 w
 rw [show errV (chkE x.1 x.2) = .iface 31 (.int .i64 2) from by unfold chkE;rw [if_neg hx];rfl] at k
 have K:=qh k
 have k3:∀ w,ErrT w→Calls Tryz.prog 19 #[.iface 31 (.int .i64 2)] w (IntEnd 2 w):=fun w hg=>Code_any (some (2,none)) w hg
 have K3:=qh k3;clear k3
 have K4:=qh new_ok
 have hlen:=hl.shape.choose_spec.choose_spec.2
 have Hg:=qh hg
 clear k hl hi hx hg
 obtain ⟨x1,x2⟩:=x
 go_enter Tryz.func169,Tryz.ntmps169
 go_wp2_with fail
 refine (K.out _).mono ?_
 rintro e w1 ⟨rfl,h1⟩
 have H1:=qh h1;clear h1
 go_wp2_with fail
 refine (K3.out _ (Hg.out.here H1.out)).mono ?_
 rintro e w2 ⟨rfl,h2⟩
 have H2:=qh (below_call H1.out h2);clear h2 H1
 go_wp2_with fail
 refine (K4.out 2 (i:Int) _ (by decide)).mono ?_
 rintro e w3 ⟨rfl,rfl⟩
 go_wp2_with fail
 go_ret
 exact ⟨rfl,H2.out⟩
end
section
open Go.RowKit
def chkV (l:List Iv):Option (Int × Option Int):=(chkL l).map fun x=>(x.1,some (x.2:Int))
theorem keep_four {W w1 w2:World} {p q r t:Addr} {a b c d:Value}
 (h:Below W.heap.size W w1∧w1.cell? p=some a∧w1.cell? q=some b∧w1.cell? r=some c∧w1.cell? t=some d) (hb:Hid (Below w1.heap.size w1 w2)) :
 Below W.heap.size W w2∧w2.cell? p=some a∧w2.cell? q=some b∧w2.cell? r=some c∧w2.cell? t=some d:=
 ⟨below_call h.1 hb.out,keep_cell h.2.1 hb.out,keep_cell h.2.2.1 hb.out,keep_cell h.2.2.2.1 hb.out,keep_cell h.2.2.2.2 hb.out⟩
theorem keep_four_drew {W w1:World} {p q r t:Addr} {a b c d:Value}
 (h:Below W.heap.size W w1∧w1.cell? p=some a∧w1.cell? q=some b∧w1.cell? r=some c∧w1.cell? t=some d) :
 Below W.heap.size W w1.drew∧w1.drew.cell? p=some a∧w1.drew.cell? q=some b∧w1.drew.cell? r=some c∧w1.drew.cell? t=some d:=keep_four h (Below.refl _ _).drew
theorem rcheck_any (l:List Iv) (s:Value) (w:World) (hg:ErrT w) (hl:IvsAt w s l) (h64:All64 l) :
 Calls Tryz.prog 96 #[s] w (IsErr (chkV l) w):=by
 obtain ⟨p,cap,rfl,hlen⟩:=hl.shape
 have I:=qh hl;clear hl
 have Hg:=qh hg;clear hg
 have K1:=qh one_ok
 have K2:=qh one_bad
 have K4:=qh new_ok
 have KR:=qh relate_any
 go_enter Tryz.func96,Tryz.ntmps96
 go_wp2_with fail
 go_loopw [7] (fun i wr=>∃ k:Nat,k≤l.length∧i = .int .i64 k∧(∀ j,j<k→badAt l j=0)∧Below w.heap.size w wr) (fun i _=>l.length - (intOf i).toNat)
 case atStart=>exact ⟨0,Nat.zero_le _,rfl,fun j h=>absurd h (Nat.not_lt_zero j),Below.refl _ _⟩
 case round =>
  obtain ⟨k,hk,rfl,hall,hb⟩:=hrel
  have HB:=qh hb;clear hb
  have HA:=qh hall;clear hall
  by_cases hlt:k<l.length
  ·obtain ⟨x,hx⟩:∃ x,l[k]? = some x:=⟨l[k],by simp [hlt]⟩
   by_cases hle:x.1≤x.2
   ·go_wp2_with fail
    refine (K1.out l _ k x _ (I.out.call HB.out) hx (by omega)).mono ?_
    rintro e w1 ⟨rfl,h1⟩
    have H1:=qh (below_call HB.out h1);clear h1
    cases k with
    | zero =>
      have hbad:=qh (bad_first hx hle)
      clear hx hle
      go_wp2_with fail
      go_quiet (fail)
      go_wp2_with fail
      go_roundw
      case rel=>exact ⟨1,by omega,by go_num,(fun j hj=>(show j=0 by omega) ▸ hbad.out),below_drewN H1.out _⟩
      case measure=>simp [intOf];omega
    | succ j =>
      obtain ⟨y,hy⟩:∃ y,l[j]? = some y:=⟨l[j],by simp [show j<l.length by omega]⟩
      obtain ⟨b,o,cap',e,cx0,cx1⟩:=(I.out.call H1.out).elem hx
      have cy:=(I.out.call H1.out).elem hy
      rw [e] at cy
      obtain ⟨b',o',cap'',e',cy0,cy1⟩:=cy
      cases e;cases e'
      have bx:=h64.at hx
      have by':=h64.at hy
      have KX:=qh (fun w=>KR.out y.1 y.2 x.1 x.2 w by'.2.1 bx.1.2 bx.2.1 by'.1.2)
      have hz:=relN_zero y.1 y.2 x.1 x.2
      obtain ⟨r,hr⟩:∃ r,relN y.1 y.2 x.1 x.2=r:=⟨_,rfl⟩
      rw [hr] at KX hz
      have hbad:badAt l (j+1)=if r=0 then 0 else 3:=by
       by_cases h0:r=0
       ·rw [if_pos h0,bad_fine hx hy hle (hz.1 h0)]
       ·rw [if_neg h0,bad_order hx hy hle (fun h=>h0 (hz.2 h))]
      have HBad:=qh hbad
      obtain ⟨x1,x2⟩:=x
      obtain ⟨y1,y2⟩:=y
      dsimp only at cx0 cx1 cy0 cy1
      have hs:Below w.heap.size w w1∧w1.cell? ⟨b,o+j*2,none⟩=some (.int .u64 y1)∧w1.cell? ⟨b,o+j*2+1,none⟩=some (.int .u64 y2)∧w1.cell? ⟨b,o+(j+1)*2,none⟩=some (.int .u64 x1)∧w1.cell? ⟨b,o+(j+1)*2+1,none⟩=some (.int .u64 x2):=⟨H1.out,cy0,cy1,cx0,cx1⟩
      have hj0:(0:Int)≤(j:Int):=by omega
      have hj1:(j:Int)<(l.length:Int):=by omega
      have hj2:(0:Int)≤(j:Int)+1:=by omega
      have hj3:(j:Int)+1<(l.length:Int):=by omega
      have hw1:IntKind.i64.wrap ((j:Int)+1 - 1)=(j:Int):=(IntWalk.i64_in _ (by omega)).trans (by omega)
      have hw2:IntKind.i64.wrap (j:Int)=(j:Int):=IntWalk.i64_in _ (by omega)
      have hw3:IntKind.i64.wrap (((j+1:Nat):Int) - 1)=(j:Int):=(IntWalk.i64_in _ (by omega)).trans (by omega)
      clear hx hy bx by' hle hz hbad hr cx0 cx1 cy0 cy1
      go_wp2_with fail
      go_region_held3 (fun w'=>Below w.heap.size w w'∧w'.cell? ⟨b,o+j*2,none⟩=some (.int .u64 y1)∧w'.cell? ⟨b,o+j*2+1,none⟩=some (.int .u64 y2)∧w'.cell? ⟨b,o+(j+1)*2,none⟩=some (.int .u64 x1)∧w'.cell? ⟨b,o+(j+1)*2+1,none⟩=some (.int .u64 x2))
       (first
         | exact keep_four (by assumption) (by assumption)
         | exact keep_four_drew (by assumption)
         | exact hs
         | assumption)
       (first
         | (go_at_call 120;refine (KX.out _).mono ?_;rintro en w' ⟨rfl,hb4'⟩;have hb4:=qh hb4';clear hb4'))
      all_goals
       rename_i hE
       have HE:=qh hE.1
       clear hs hE
       by_cases h0:r=0
       ·have h0b:(r != 0)=false:=by simpa using h0
        have HZ:=qh h0
        clear h0
        go_wp2_with fail
        go_roundw
        case rel =>
         refine ⟨j+1+1,by omega,by go_num,fun i hi => ?_,HE.out⟩
         rcases Nat.lt_or_eq_of_le (Nat.le_of_lt_succ hi) with h | h
         ·exact HA.out i h
         ·rw [h,HBad.out,if_pos HZ.out]
        case measure=>simp [intOf];omega
       ·have h0b:(r != 0)=true:=by simpa using h0
        have HZ:=qh h0
        clear h0
        go_wp2_with fail
        refine (K4.out 3 ((j:Int)+1) _ (by decide)).mono ?_
        rintro e w3 ⟨rfl,rfl⟩
        go_wp2_with fail
        go_ret
        refine ⟨?_,HE.out⟩
        have hc:=chk_some hlt HA.out (by rw [HBad.out,if_neg HZ.out];decide)
        have hv:chkV l=some (3,some ((j:Int)+1)):=by unfold chkV;rw [hc,HBad.out,if_neg HZ.out];rfl
        rw [hv]
        rfl
   ·have hbad:=qh (bad_inverted hx hle)
    go_wp2_with fail
    refine (K2.out l _ k x _ (Hg.out.here HB.out) (I.out.call HB.out) hx (by omega)).mono ?_
    rintro e w1 ⟨rfl,h1⟩
    have H1:=qh (below_call HB.out h1);clear h1 hx hle
    go_wp2_with fail
    go_ret
    refine ⟨?_,H1.out⟩
    have hc:=chk_some hlt HA.out (by rw [hbad.out];decide)
    have hv:chkV l=some (2,some (k:Int)):=by unfold chkV;rw [hc,hbad.out];rfl
    rw [hv]
    rfl
  ·obtain rfl:k=l.length:=by omega
   go_wp2_with fail
   go_ret
   refine ⟨?_,HB.out⟩
   have hv:chkV l=none:=by unfold chkV;rw [chk_none HA.out];rfl
   rw [hv]
   rfl
end
section
open Go.RowKit
def IsPair (a b:Int) (w:World) (e:Ending) (w':World):Prop:=e = .returned (.tuple #[.int .i64 a,.int .i64 b])∧Below w.heap.size w w'
theorem refCheck_any (l:List Iv) (s:Value) (w:World) (hl:IvsAt w s l) (h64:All64 l) :
 Calls Tryz.prog 100 #[s] w (IsPair (codeE (chkV l)) ((atE (chkV l)).getD (-1)) w):=by
 obtain ⟨p,cap,rfl,hlen⟩:=hl.shape
 have I:=qh hl;clear hl
 have KR:=qh refRelate_any
 go_enter Tryz.func100,Tryz.ntmps100
 go_wp2_with fail
 go_loopw [4] (fun i wr=>∃ k:Nat,k≤l.length∧i = .int .i64 k∧(∀ j,j<k→badAt l j=0)∧Below w.heap.size w wr) (fun i _=>l.length - (intOf i).toNat)
 case atStart=>exact ⟨0,Nat.zero_le _,rfl,fun j h=>absurd h (Nat.not_lt_zero j),Below.refl _ _⟩
 case round =>
  obtain ⟨k,hk,rfl,hall,hb⟩:=hrel
  have HB:=qh hb;clear hb
  have HA:=qh hall;clear hall
  by_cases hlt:k<l.length
  ·obtain ⟨x,hx⟩:∃ x,l[k]? = some x:=⟨l[k],by simp [hlt]⟩
   by_cases hle:x.1≤x.2
   ·obtain ⟨b0,o0,cap0,e0,z0,z1⟩:=(I.out.call HB.out).elem hx
    cases e0
    have k1:=fun w=>right_any x.1 x.2 w
    rw [show decide (x.1≤x.2)=true from by simpa using hle] at k1
    have K1:=qh k1;clear k1
    go_wp2_with fail
    refine (K1.out _).mono ?_
    rintro e w1 ⟨rfl,h1⟩
    clear z0 z1
    have H1:=qh (below_call HB.out h1);clear h1
    cases k with
    | zero =>
      have hbad:=qh (bad_first hx hle)
      clear hx hle
      go_wp2_with fail
      go_quiet (fail)
      go_wp2_with fail
      go_roundw
      case rel=>exact ⟨1,by omega,by go_num,(fun j hj=>(show j=0 by omega) ▸ hbad.out),below_drewN H1.out _⟩
      case measure=>simp [intOf];omega
    | succ j =>
      obtain ⟨y,hy⟩:∃ y,l[j]? = some y:=⟨l[j],by simp [show j<l.length by omega]⟩
      obtain ⟨b,o,cap',e,cx0,cx1⟩:=(I.out.call H1.out).elem hx
      have cy:=(I.out.call H1.out).elem hy
      rw [e] at cy
      obtain ⟨b',o',cap'',e',cy0,cy1⟩:=cy
      cases e;cases e'
      have bx:=h64.at hx
      have by':=h64.at hy
      have KX:=qh (fun w=>KR.out y.1 y.2 x.1 x.2 w by'.2.1 bx.1.2 bx.2.1 by'.1.2)
      have hz:=relN_zero y.1 y.2 x.1 x.2
      obtain ⟨r,hr⟩:∃ r,relN y.1 y.2 x.1 x.2=r:=⟨_,rfl⟩
      rw [hr] at KX hz
      have hbad:badAt l (j+1)=if r=0 then 0 else 3:=by
       by_cases h0:r=0
       ·rw [if_pos h0,bad_fine hx hy hle (hz.1 h0)]
       ·rw [if_neg h0,bad_order hx hy hle (fun h=>h0 (hz.2 h))]
      have HBad:=qh hbad
      obtain ⟨x1,x2⟩:=x
      obtain ⟨y1,y2⟩:=y
      dsimp only at cx0 cx1 cy0 cy1
      have hs:Below w.heap.size w w1∧w1.cell? ⟨b0,o0+j*2,none⟩=some (.int .u64 y1)∧w1.cell? ⟨b0,o0+j*2+1,none⟩=some (.int .u64 y2)∧w1.cell? ⟨b0,o0+(j+1)*2,none⟩=some (.int .u64 x1)∧w1.cell? ⟨b0,o0+(j+1)*2+1,none⟩=some (.int .u64 x2):=⟨H1.out,cy0,cy1,cx0,cx1⟩
      have hj0:(0:Int)≤(j:Int):=by omega
      have hj1:(j:Int)<(l.length:Int):=by omega
      have hj2:(0:Int)≤(j:Int)+1:=by omega
      have hj3:(j:Int)+1<(l.length:Int):=by omega
      have hw1:IntKind.i64.wrap ((j:Int)+1 - 1)=(j:Int):=(IntWalk.i64_in _ (by omega)).trans (by omega)
      have hw2:IntKind.i64.wrap (j:Int)=(j:Int):=IntWalk.i64_in _ (by omega)
      have hw3:IntKind.i64.wrap (((j+1:Nat):Int) - 1)=(j:Int):=(IntWalk.i64_in _ (by omega)).trans (by omega)
      clear hx hy bx by' hle hz hbad hr cx0 cx1 cy0 cy1
      go_wp2_with fail
      go_region_held3 (fun w'=>Below w.heap.size w w'∧w'.cell? ⟨b0,o0+j*2,none⟩=some (.int .u64 y1)∧w'.cell? ⟨b0,o0+j*2+1,none⟩=some (.int .u64 y2)∧w'.cell? ⟨b0,o0+(j+1)*2,none⟩=some (.int .u64 x1)∧w'.cell? ⟨b0,o0+(j+1)*2+1,none⟩=some (.int .u64 x2))
       (first
         | exact keep_four (by assumption) (by assumption)
         | exact keep_four_drew (by assumption)
         | exact hs
         | assumption)
       (first
         | (go_at_call 173;refine (KX.out _).mono ?_;rintro en w' ⟨rfl,hb4'⟩;have hb4:=qh hb4';clear hb4'))
      all_goals
       rename_i hE
       have HE:=qh hE.1
       clear hs hE
       by_cases h0:r=0
       ·have h0b:(r != 0)=false:=by simpa using h0
        have HZ:=qh h0
        clear h0
        go_wp2_with fail
        go_roundw
        case rel =>
         refine ⟨j+1+1,by omega,by go_num,fun i hi => ?_,HE.out⟩
         rcases Nat.lt_or_eq_of_le (Nat.le_of_lt_succ hi) with h | h
         ·exact HA.out i h
         ·rw [h,HBad.out,if_pos HZ.out]
        case measure=>simp [intOf];omega
       ·have h0b:(r != 0)=true:=by simpa using h0
        have HZ:=qh h0
        clear h0
        go_wp2_with fail
        go_ret2
        refine ⟨?_,HE.out⟩
        have hc:=chk_some hlt HA.out (by rw [HBad.out,if_neg HZ.out];decide)
        have hv:chkV l=some (3,some ((j:Int)+1)):=by unfold chkV;rw [hc,HBad.out,if_neg HZ.out];rfl
        rw [hv]
        rfl
   ·have hbad:=qh (bad_inverted hx hle)
    obtain ⟨b0,o0,cap0,e0,z0,z1⟩:=(I.out.call HB.out).elem hx
    cases e0
    have k1:=fun w=>right_any x.1 x.2 w
    rw [show decide (x.1≤x.2)=false from by simpa using hle] at k1
    have K1:=qh k1;clear k1
    clear hx hle
    go_wp2_with fail
    refine (K1.out _).mono ?_
    rintro e w1 ⟨rfl,h1⟩
    have H1:=qh (below_call HB.out h1);clear h1 z0 z1
    go_wp2_with fail
    go_ret2
    refine ⟨?_,H1.out⟩
    have hc:=chk_some hlt HA.out (by rw [hbad.out];decide)
    have hv:chkV l=some (2,some (k:Int)):=by unfold chkV;rw [hc,hbad.out];rfl
    rw [hv]
    rfl
  ·obtain rfl:k=l.length:=by omega
   go_wp2_with fail
   go_ret2
   refine ⟨?_,HB.out⟩
   have hv:chkV l=none:=by unfold chkV;rw [chk_none HA.out];rfl
   rw [hv]
   rfl
def rightB (l:List Iv):Bool:=decide (codeE (chkV l)=0)
theorem rightB_iff (l:List Iv):rightB l=true↔canon l:=by
 unfold rightB chkV
 rw [← canon_iff]
 cases h:chkL l with
 | none=>simp [codeE]
 | some x =>
   obtain ⟨c,k⟩:=x
   simp only [Option.map_some,codeE,reduceCtorEq,iff_false]
   intro hc
   have hc:=of_decide_eq_true hc
   subst hc
   unfold chkL at h
   obtain ⟨j,_,hj⟩:=List.exists_of_findSome?_eq_some h
   split at hj
   ·cases hj
   ·rename_i hb
    have e:=congrArg (fun o:Option (Int × Nat)=>o.map Prod.fst) hj
    simp only [Option.map_some,Option.some.injEq] at e
    exact hb e
theorem hasB_inI (a b x:Int):hasB a b x=inI (a,b) x:=rfl
theorem refHasR (a b x:Int) (r:Bool) (w:World) (h:hasB a b x=r) :
 Calls Tryz.prog 104 #[.agg #[.int .u64 a,.int .u64 b],.int .u64 x] w (IsEnd r w):=by
 subst h;exact refHas_any a b x w
theorem hasL_take (l:List Iv) (x:Int) (k:Nat) (y:Iv) (h:l[k]? = some y):hasL (l.take (k+1)) x=(hasL (l.take k) x || inI y x):=by
 unfold hasL
 rw [List.take_add_one,h]
 simp
theorem refHasL_any (l:List Iv) (s:Value) (x:Int) (w:World) (hl:IvsAt w s l) :
 Calls Tryz.prog 51 #[s,.int .u64 x] w (IsEnd (hasL l x) w):=by
 obtain ⟨p,cap,rfl,hlen⟩:=hl.shape
 have I:=qh hl;clear hl
 have K:=qh refHasR
 go_enter Tryz.func51,Tryz.ntmps51
 go_wp2_with fail
 go_loopw [5] (fun i wr=>∃ k:Nat,k≤l.length∧i = .int .i64 k∧hasL (l.take k) x=false∧Below w.heap.size w wr) (fun i _=>l.length - (intOf i).toNat)
 case atStart=>exact ⟨0,Nat.zero_le _,rfl,rfl,Below.refl _ _⟩
 case round =>
  obtain ⟨k,hk,rfl,hall,hb⟩:=hrel
  have HB:=qh hb;clear hb
  have HA:=qh hall;clear hall
  by_cases hlt:k<l.length
  ·obtain ⟨y,hy⟩:∃ y,l[k]? = some y:=⟨l[k],by simp [hlt]⟩
   obtain ⟨b0,o0,cap0,e0,z0,z1⟩:=(I.out.call HB.out).elem hy
   cases e0
   have HT:=qh (hasL_take l x k y hy)
   have HM:=qh (List.mem_of_getElem? hy)
   clear hy
   obtain ⟨y1,y2⟩:=y
   cases hr:hasB y1 y2 x with
   | true =>
     have KR:=qh (fun w=>K.out y1 y2 x true w hr)
     have HR:=qh hr;clear hr
     go_wp2_with fail
     refine (KR.out _).mono ?_
     rintro e w1 ⟨rfl,h1⟩
     have H1:=qh (below_call HB.out h1);clear h1
     go_wp2_with fail
     go_ret
     exact ⟨ret_bool ((hasL_iff l x).2 ⟨_,HM.out,(inI_iff (y1,y2) x).1 HR.out⟩).symm,H1.out⟩
   | false =>
     have KR:=qh (fun w=>K.out y1 y2 x false w hr)
     have HR:=qh hr;clear hr
     go_wp2_with fail
     refine (KR.out _).mono ?_
     rintro e w1 ⟨rfl,h1⟩
     have H1:=qh (below_call HB.out h1);clear h1
     go_wp2_with fail
     go_roundw
     case rel=>exact ⟨k+1,by omega,by go_num,by rw [HT.out,HA.out,← hasB_inI,HR.out];rfl,H1.out⟩
     case measure=>simp [intOf];omega
  ·obtain rfl:k=l.length:=by omega
   rw [List.take_length] at HA
   go_wp2_with fail
   go_ret
   exact ⟨ret_bool HA.out.symm,HB.out⟩
end
end Go.Proofs.YtgcakgegboicjaaGreatDoor
