/- The law EntryKeeps in every state, out of what package entry says. Conditions: the contracts of package entry, and the fixed value of errors.errorType. -/
import Derived.Test.YtchndljcahjldaaGreatDoorMNRef
import Derived.Test.YtchndljcahjldaaGreatDoorMVPieces
import Derived.WalkMore
namespace Go.Proofs.YtchndljcahjldaaGreatDoor
section
open Go.RowKit
variable {w:World} {B n T:Nat} {v:Value}
def zd3 (w:World) (B T:Nat) (v:Value) (n:Nat):Prop:=
 ∃ p cap,v = .slice p n cap∧n≤maxLen∧(0<n→∃ g o,p=some ⟨g,o,none⟩∧B≤g∧g<T∧∀ i,i<n →
  ((∃ z:Int,w.cell? ⟨g,o+i*2,none⟩=some (.int .u64 z))∧w.frozen? ⟨g,o+i*2,none⟩=false)∧(∃ z:Int,w.cell? ⟨g,o+i*2+1,none⟩=some (.int .u64 z))∧w.frozen? ⟨g,o+i*2+1,none⟩=false)
theorem i7.num (h:i7 w B v n):zd3 w B w.heap.size v n:=by
 obtain ⟨p,cap,h1,h2,h3⟩:=h
 refine ⟨p,cap,h1,h2,fun hn => ?_⟩
 obtain ⟨g,o,h4,h5,h6⟩:=h3 hn
 obtain ⟨⟨⟨z,hz⟩,_⟩,_⟩:=h6 0 hn
 exact ⟨g,o,h4,h5,World.block_lt_of_cell? w _ hz,h6⟩
theorem zd3.call {w':World} (h:zd3 w B T v n) (hT:T≤w.heap.size) (hb:Below w.heap.size w w'):zd3 w' B T v n:=by
 obtain ⟨p,cap,h1,h2,h3⟩:=h
 refine ⟨p,cap,h1,h2,fun hn => ?_⟩
 obtain ⟨g,o,h4,h5,h6,h7⟩:=h3 hn
 refine ⟨g,o,h4,h5,h6,fun i hi => ?_⟩
 obtain ⟨⟨⟨z,hz⟩,hf⟩,⟨y,hy⟩,hg⟩:=h7 i hi
 exact ⟨⟨⟨z,z6 hz hb⟩,x6 hf (by show g<_;omega) hb⟩,⟨y,z6 hy hb⟩,x6 hg (by show g<_;omega) hb⟩
theorem y04 {g g' j j':Nat} {z:Int} (h:∃ y:Int,w.cell? ⟨g',j',none⟩=some (.int .u64 y)):∃ y:Int,(w.setCell ⟨g,j,none⟩ (.int .u64 z)).cell? ⟨g',j',none⟩=some (.int .u64 y):=by
 obtain ⟨y,hy⟩:=h
 by_cases he:g'=g∧j'=j
 ·obtain ⟨rfl,rfl⟩:=he
  exact ⟨z,by rw [World.cell?_setCell_same' _ _ _ (by rw [hy];rfl)]⟩
 ·exact ⟨y,by rw [World.cell?_setCell_other _ _ _ _ (by intro e2;injection e2 with e3 e4;exact he ⟨e3.symm,e4.symm⟩)];exact hy⟩
theorem zd3.set (h:zd3 w B T v n) (g j:Nat) (z:Int):zd3 (w.setCell ⟨g,j,none⟩ (.int .u64 z)) B T v n:=by
 obtain ⟨p,cap,h1,h2,h3⟩:=h
 refine ⟨p,cap,h1,h2,fun hn => ?_⟩
 obtain ⟨g',o,h4,h5,h6,h7⟩:=h3 hn
 refine ⟨g',o,h4,h5,h6,fun i hi => ?_⟩
 obtain ⟨⟨hz,hf⟩,hy,hg⟩:=h7 i hi
 exact ⟨⟨y04 hz,by rw [World.frozen?_setCell];exact hf⟩,y04 hy,by rw [World.frozen?_setCell];exact hg⟩
section
variable {ops:Array Oper} {rest:List Oper} {o:Oper} {a:Act} {Q:Exit→Act→World→Prop}
theorem yx3 (hgd:o.guard=none) (s x:Operand) (w0 w:World) (hB:Below w0.heap.size w0 w) (v0 v:Value) (l:List Iv)
 (ho:o.op = .call { callee := .builtin .append,args:=#[s,x],argTypes:=#[42,42] })
 (hs:a.eval s=v0) (hx:a.eval x=v) (hown:w.ownsRow w0.heap.size 65 2 v0 0 []) (hv:v7 w v l) (hsv:xc0 v) (hl:l.length≤10000)
 (h:∀ v' w',r9 w' w0.heap.size v' l→Below w0.heap.size w0 w'→wpList Tryz.prog ops Q rest (a.put o.dst v') w'):wpList Tryz.prog ops Q (o :: rest) a w:=by
 obtain ⟨i0,hi',hz0,hz1,hz2⟩:=info_parts zb2
 obtain ⟨p,cap,rfl,_⟩:=hv.shape
 cases p with
 | none =>
   obtain ⟨h1,h2⟩:=hsv _ _ rfl
   obtain rfl:l = []:=List.eq_nil_of_length_eq_zero h1
   subst h2
   refine wpList_plain hgd fun _ hK => ?_
   have hr:=run_append_owned_none (P:=Tryz.prog) w w0.heap.size 42 o.type 65 i0 2 Tryz.underlying42 hi' v0 0 [] hown
   unfold Oper.wp execOp
   simp only [ho,resolve,invoke,builtin,Sem.run_bind,Sem.run_pure,Result.andThen_ok,List.map_toArray,List.map_cons,List.map_nil,hs,hx,List.length_nil,hr]
   exact hK _ _ (h v0 w hown hB)
 | some ad =>
   have hnews:∀ j u,(ivC l)[j]? = some u→w.cell? (ad.add j)=some u:=by
    intro j u hj
    have hne:l ≠ []:=by rintro rfl;simp [ivC] at hj
    obtain ⟨q,cp,e,_,h3⟩:=hv
    obtain ⟨b,of,e2,_⟩:=h3 hne
    cases e
    cases e2
    exact y73 (cap:=cap) (n:=l.length) ⟨_,_,rfl,by omega,h3⟩ j u hj
   refine wpList_append_own _ hgd s x 42 ho w0.heap.size 65 i0 (.agg #[.int .u64 0,.int .u64 0]) 2 16 Tryz.underlying42 hi' hz0 hz1 hz2 rfl (by decide) v0 0 [] hs hown ad l.length cap (ivC l) hx (zd9 l) hnews (zu5 l) (by unfold maxLen;omega) (by omega) hB.size ?_
   intro v' w' hown' hgrow _
   refine h v' w' ?_ (x8 hB hown hgrow hB.size)
   unfold r9
   rw [Nat.zero_add,List.nil_append] at hown'
   exact hown'
end
theorem x73 {W:World} {B:Nat} {v:Value} {L:List Iv} (h:r9 W B v L):z02 v:=by
 have hrow:W.ownsRow B 65 2 v L.length (ivC L):=h
 rcases hrow.2 with ⟨h1,_⟩ | ⟨g,cap,cur,h1,_,_,hnc,_⟩
 ·refine ⟨fun n c e => ?_,fun a n c e => ?_⟩
  ·rw [e] at h1;cases h1;exact ⟨rfl,rfl⟩
  ·rw [e] at h1;cases h1
 ·refine ⟨fun n c e => ?_,fun a n c e => ?_⟩
  ·rw [e] at h1;cases h1
  ·rw [e] at h1;cases h1;exact hnc
end
section
open Go.RowKit
variable {m:Int} {G:List Iv} {y:Iv} {p:Option Addr} {n c:Nat}
set_option maxRecDepth 100000 in
theorem w00 (H:List Iv) (s:Value) (b:Nat) (w:World) (hg:z82 w) (hl:v7 w s H) (h64:m9 H) (hc:w.cell? ⟨b,2,none⟩=some s) :
 Calls Tryz.prog 236 #[.pointer (some ⟨b,0,none⟩)] w (z72 (z16 H) w):=by
 obtain ⟨p,cap,rfl,_⟩:=hl.shape
 have K:=qh (yk0 H _ w hg hl h64)
 clear hg hl h64
 go_enter Tryz.func236,Tryz.ntmps236
 go_wp2_with fail
 refine K.out.mono ?_
 rintro e w1 ⟨rfl,h⟩
 have H1:=qh h;clear h
 obtain ⟨v,hv⟩:∃ v,zj1 (z16 H)=v:=⟨_,rfl⟩
 rw [hv]
 have HV:=qh hv;clear hv
 go_wp2_with fail
 go_ret
 exact ⟨by rw [HV.out];rfl,H1.out⟩
set_option maxRecDepth 100000 in
theorem x74 (x1 x2 m:Int) (b:Nat) (w:World) (hc:w.cell? ⟨b,1,none⟩=some (.int .u64 m)) :
 Calls Tryz.prog 239 #[.agg #[.int .u64 x1,.int .u64 x2],.pointer (some ⟨b,0,none⟩)] w (q8 (decide (m<x2)) w):=by
 have hb:=z8 w (.cells #[.int .u64 x1,.int .u64 x2] 65)
 have hc1:=z6 hc hb
 have HB:=qh hb;clear hb hc
 go_enter Tryz.func239,Tryz.ntmps239
 go_wp2_with fail
 go_ret
 exact ⟨rfl,HB.out⟩
def xj3 (m:Int) (H:List Iv):Int:=match z67 m H with | some k=>(k:Int) | none => -1
set_option maxRecDepth 100000 in
set_option maxHeartbeats 2000000 in
theorem w01 (m:Int) (H:List Iv) (s:Value) (b:Nat) (w:World) (hl:v7 w s H) (hc:w.cell? ⟨b,1,none⟩=some (.int .u64 m)) :
 Calls Tryz.prog 238 #[s,.func (.func 239) #[] #[.pointer (some ⟨b,0,none⟩)]] w (zi6 (xj3 m H) w):=by
 obtain ⟨p,cap,rfl,hlen⟩:=hl.shape
 have HL:=qh hl;clear hl
 have K:=qh x74
 go_enter Tryz.func238,Tryz.ntmps238
 go_wp2_with fail
 go_loopw [8] (fun i wr=>∃ k:Nat,i = .int .i64 k∧k≤H.length∧(∀ j z,j<k→H[j]? = some z→z.2≤m)∧Below w.heap.size w wr) (fun i _=>H.length - (intOf i).toNat)
 case atStart=>exact ⟨0,rfl,Nat.zero_le _,fun j z hj=>absurd hj (Nat.not_lt_zero j),Below.refl _ _⟩
 case round =>
  obtain ⟨k,rfl,hk,hbef,hbr⟩:=hrel
  have HBF:=qh hbef;clear hbef
  have hcr:=z6 hc hbr
  have HL2:=qh (HL.out.call hbr)
  have HBR:=qh hbr;clear hbr
  by_cases hlt:k<H.length
  ·have hy:H[k]? = some H[k]:=by simp [hlt]
   obtain ⟨b1,o,cp,e,c0,c1⟩:=HL2.out.elem hy
   cases e
   have HY:=qh hy;clear hy
   generalize H[k]=y at *
   obtain ⟨y1,y2⟩:=y
   dsimp only at c0 c1
   have i1:(0:Int)≤(k:Int):=by omega
   have i2:(k:Int)<(H.length:Int):=by omega
   by_cases hgt:m<y2
   ·have e1:decide (m<y2)=true:=by simpa using hgt
    have HZ:=qh (y95 HY.out hgt HBF.out)
    clear hgt
    go_wp2_with fail
    refine (K.out y1 y2 m b _ hcr).mono ?_
    rintro e w1 ⟨rfl,h⟩
    have H1:=qh (z7 HBR.out h);clear h
    rw [e1]
    go_wp2_with fail
    go_ret
    exact ⟨by unfold xj3;rw [HZ.out];rfl,H1.out⟩
   ·have e1:decide (m<y2)=false:=by simpa using hgt
    have HG:=qh hgt;clear hgt
    go_wp2_with fail
    refine (K.out y1 y2 m b _ hcr).mono ?_
    rintro e w1 ⟨rfl,h⟩
    have H1:=qh (z7 HBR.out h);clear h
    rw [e1]
    go_wp2_with fail
    go_roundw
    case rel=>exact ⟨k+1,by go_num,by omega,fun j z hj hz=>by
     rcases Nat.lt_or_eq_of_le (Nat.le_of_lt_succ hj) with h | h
     ·exact HBF.out j z h hz
     ·subst h
      have:=HY.out.symm.trans hz
      obtain rfl:=Option.some.inj this
      have:=HG.out
      dsimp only
      omega,H1.out⟩
    case measure=>simp [intOf];omega
  ·obtain rfl:k=H.length:=by omega
   have HZ:=qh (zq7 fun i y hy=>HBF.out i y (List.getElem?_eq_some_iff.1 hy).1 hy)
   go_wp2_with fail
   go_ret
   exact ⟨by unfold xj3;rw [HZ.out];rfl,HBR.out⟩
def yx4 (m:Int) (H:List Iv):Option (Int × Option Int):=(z67 m H).map fun i=>(4,some (i:Int))
set_option maxRecDepth 100000 in
set_option maxHeartbeats 2000000 in
theorem w02 (m:Int) (H:List Iv) (s:Value) (b:Nat) (w:World) (hl:v7 w s H) (hm:w.cell? ⟨b,1,none⟩=some (.int .u64 m)) (hc:w.cell? ⟨b,2,none⟩=some s) :
 Calls Tryz.prog 237 #[.pointer (some ⟨b,0,none⟩)] w (z72 (yx4 m H) w):=by
 obtain ⟨p,cap,rfl,_⟩:=hl.shape
 have K:=qh (w01 m H _ b w hl hm)
 have KN:=qh y64
 clear hl hm
 cases hb:z67 m H with
 | none =>
   have e1:xj3 m H = -1:=by unfold xj3;rw [hb]
   have e2:yx4 m H=none:=by unfold yx4;rw [hb];rfl
   rw [e1] at K;rw [e2];clear e1 e2 hb
   go_enter Tryz.func237,Tryz.ntmps237
   go_wp2_with fail
   refine K.out.mono ?_
   rintro e w1 ⟨rfl,h⟩
   have H1:=qh h;clear h
   go_wp2_with fail
   go_ret
   exact ⟨rfl,H1.out⟩
 | some k =>
   have e1:xj3 m H=(k:Int):=by unfold xj3;rw [hb]
   have e2:yx4 m H=some (4,some (k:Int)):=by unfold yx4;rw [hb];rfl
   rw [e1] at K;rw [e2];clear e1 e2 hb
   have i1:(0:Int)≤(k:Int):=by omega
   go_enter Tryz.func237,Tryz.ntmps237
   go_wp2_with fail
   refine K.out.mono ?_
   rintro e w1 ⟨rfl,h⟩
   have H1:=qh h;clear h
   go_wp2_with fail
   refine (KN.out 4 (k:Int) _ (by decide)).mono ?_
   rintro e w3 ⟨rfl,rfl⟩
   go_wp2_with fail
   go_ret
   exact ⟨rfl,H1.out⟩
def wp8 (r m:Int) (s:Value) (w:World) (e:Ending) (w':World):Prop:=
 e = .returned (.slice (some ⟨w.heap.size+1,0,none⟩) 2 2) ∧
  w'=(w.alloc (.cells #[.int .u64 r,.int .u64 m,s] 63)).alloc (.cells #[.func (.func 236) #[] #[.pointer (some ⟨w.heap.size,0,none⟩)],.func (.func 237) #[] #[.pointer (some ⟨w.heap.size,0,none⟩)]] 207)
set_option maxRecDepth 100000 in
theorem xj4 (r m:Int) (p:Option Addr) (n c:Nat) (w:World):Calls Tryz.prog 212 #[.agg #[.int .u64 r,.int .u64 m,.slice p n c]] w (wp8 r m (.slice p n c) w):=by
 go_enter Tryz.func212,Tryz.ntmps212
 go_wp2_with fail
 go_ret
 exact ⟨by simp,by simp⟩
theorem z37 {x:Option (Int × Option Int)} (h:x≠none):∃ t v,zj1 x = .iface t v:=by
 match x,h with
 | some (c,none),_=>exact ⟨_,_,rfl⟩
 | some (c,some a),_=>exact ⟨_,_,rfl⟩
theorem x75 (W:World) (x y z f h:Value) (t u:TypeId) (g:Nat) (hg:W.heap.size=g) :
 ((W.alloc (.cells #[x,y,z] t)).alloc (.cells #[f,h] u)).cell? ⟨g,1,none⟩=some y∧((W.alloc (.cells #[x,y,z] t)).alloc (.cells #[f,h] u)).cell? ⟨g,2,none⟩=some z ∧
   ((W.alloc (.cells #[x,y,z] t)).alloc (.cells #[f,h] u)).cell? ⟨g+1,0,none⟩=some f∧((W.alloc (.cells #[x,y,z] t)).alloc (.cells #[f,h] u)).cell? ⟨g+1,1,none⟩=some h:=by
 subst hg
 refine ⟨z6 (by simp) (z8 _ _),z6 (by simp) (z8 _ _),?_,?_⟩
 ·rw [World.cell?_alloc_at _ _ _ _ (by simp)];rfl
 ·rw [World.cell?_alloc_at _ _ _ _ (by simp)];rfl
set_option maxRecDepth 100000 in
set_option maxHeartbeats 4000000 in
theorem yg7 (r m:Int) (H:List Iv) (s:Value) (w:World) (hg:z82 w) (ha:zk0 w s m H) :
 Calls Tryz.prog 147 #[.agg #[.int .u64 r,.int .u64 m,s]] w (z72 (z18 m H) w):=by
 have hl:=ha.at'
 obtain ⟨p,cap,rfl,_⟩:=hl.shape
 have hb:=z8 w (.cells #[.int .u64 r,.int .u64 m,.slice p H.length cap] 63)
 have KS:=qh xj4
 have HB:=qh hb;clear hb
 have HL:=qh hl;clear hl
 have HG:=qh hg;clear hg
 have H64:=qh ha.all;clear ha
 go_enter Tryz.func147,Tryz.ntmps147
 go_wp2_with fail
 refine (KS.out _ _ _ _ _ _).mono ?_
 rintro e w1 ⟨rfl,hw1⟩
 have hb1:Below w.heap.size w w1:=hw1 ▸ y7 (y7 HB.out _) _
 obtain ⟨g,hgs⟩:∃ g,(w.alloc (.cells #[.int .u64 r,.int .u64 m,.slice p H.length cap] 63)).heap.size=g:=⟨_,rfl⟩
 have hcs:=x75 (w.alloc (.cells #[.int .u64 r,.int .u64 m,.slice p H.length cap] 63)) (.int .u64 r) (.int .u64 m) (.slice p H.length cap) (.func (.func 236) #[] #[.pointer (some ⟨g,0,none⟩)]) (.func (.func 237) #[] #[.pointer (some ⟨g,0,none⟩)]) 63 207 g hgs
 rw [hgs] at hw1 ⊢
 rw [← hw1] at hcs
 obtain ⟨c1,c2,f0,f1⟩:=hcs
 have HB1:=qh hb1;clear hb1 hw1 hgs
 go_wp2_with fail
 go_loopw [9] (fun i wr=>∃ k:Nat,i = .int .i64 k∧k≤2∧(1≤k→z16 H=none)∧(2≤k→z67 m H=none)∧Below w1.heap.size w1 wr) (fun i _=>2 - (intOf i).toNat)
 case atStart=>exact ⟨0,rfl,by omega,fun h=>absurd h (by omega),fun h=>absurd h (by omega),Below.refl _ _⟩
 case round =>
  obtain ⟨k,rfl,hk,hn1,hn2,hbr⟩:=hrel
  have d1:=z6 c1 hbr
  have d2:=z6 c2 hbr
  have g0:=z6 f0 hbr
  have g1:=z6 f1 hbr
  have HBR:=qh hbr;clear hbr
  have HW:=qh (z7 HB1.out HBR.out)
  have hcase:k=0∨k=1∨k=2:=by omega
  rcases hcase with rfl | rfl | rfl
  ·clear hn1 hn2 hk
   have K:=qh (w00 H (.slice p H.length cap) g wr (HG.out.here HW.out) (HL.out.call HW.out) H64.out d2)
   go_wp2_with fail
   refine K.out.mono ?_
   rintro e w2 ⟨rfl,h⟩
   have H2:=qh (z7 HBR.out h);clear h
   cases hc:z16 H with
   | none =>
     rw [show zj1 none = .nilIface from rfl]
     have HC:=qh hc;clear hc
     go_wp2_with fail
     go_roundw
     case rel=>exact ⟨1,by go_num,by omega,fun _=>HC.out,fun h=>absurd h (by omega),H2.out⟩
     case measure=>simp [intOf]
   | some x =>
     have HX:Hid (z18 m H=some x):=qh (by unfold z18;rw [hc])
     obtain ⟨t,v,hv⟩:=z37 (x:=some x) (by simp)
     rw [hv]
     have HV:=qh hv;clear hv hc
     go_wp2_with fail
     go_ret
     exact ⟨by rw [HX.out,HV.out];rfl,(z7 HB1.out H2.out)⟩
  ·have HC:=qh (hn1 (by omega));clear hn1 hn2 hk
   have K:=qh (w02 m H (.slice p H.length cap) g wr (HL.out.call HW.out) d1 d2)
   go_wp2_with fail
   refine K.out.mono ?_
   rintro e w2 ⟨rfl,h⟩
   have H2:=qh (z7 HBR.out h);clear h
   cases hc:z67 m H with
   | none =>
     rw [show yx4 m H=none from by unfold yx4;rw [hc];rfl,show zj1 none = .nilIface from rfl]
     have HD:=qh hc;clear hc
     go_wp2_with fail
     go_roundw
     case rel=>exact ⟨2,by go_num,by omega,fun _=>HC.out,fun _=>HD.out,H2.out⟩
     case measure=>simp [intOf]
   | some i =>
     have HX:Hid (z18 m H=some (4,some (i:Int))):=qh (by unfold z18;rw [HC.out,hc];rfl)
     rw [show yx4 m H=some (4,some (i:Int)) from by unfold yx4;rw [hc];rfl]
     obtain ⟨t,v,hv⟩:=z37 (x:=some ((4:Int),some (i:Int))) (by simp)
     rw [hv]
     have HV:=qh hv;clear hv hc
     go_wp2_with fail
     go_ret
     exact ⟨by rw [HX.out,HV.out];rfl,(z7 HB1.out H2.out)⟩
  ·have HX:Hid (z18 m H=none):=qh (by unfold z18;rw [hn1 (by omega),hn2 (by omega)];rfl)
   clear hn1 hn2 hk
   go_wp2_with fail
   go_ret
   exact ⟨by rw [HX.out];rfl,HW.out⟩
theorem yr5 (w:World):Calls Tryz.prog 223 #[.int .u64 0] w (fun e w'=>e = .returned (.tuple #[.int .u64 0,.bool false])∧w'=w):=by
 go_enter Tryz.func223,Tryz.ntmps223
 go_wp2
 go_ret2
 exact ⟨rfl,rfl⟩
theorem x76 (x:Int) (w:World) (h0:0<x) (h1:x≤18446744073709551615):Calls Tryz.prog 223 #[.int .u64 x] w (fun e w'=>e = .returned (.tuple #[.int .u64 (x - 1),.bool true])∧w'=w):=by
 have e1:(x == 0)=false:=by simp;omega
 have hw:IntKind.u64.wrap (x - 1)=x - 1:=IntWalk.u64_in _ (by omega)
 go_enter Tryz.func223,Tryz.ntmps223
 go_wp2
 go_ret2
 exact ⟨rfl,rfl⟩
theorem yx5 {L:Int} {H:List Iv} (hg:z04 L G) (hc:o5 L G=true) (hk:x7 L G=x7 m H) (r:Int):z56 r (x7 m H)=r∧i8 (x7 m H)=L∧r5 (x7 m H)=G∧z44 (x7 m H)=true:=by grind [yh3,z56,z44,x7]
def v63:Value→Nat | .slice _ n _=>n | _=>0
theorem zh4:∀ {G:List Iv} {y:Iv},m5 (G ++ [y])→m5 G∧y.1≤y.2∧∀ z ∈ G,z.2+1<y.1
 | [],y,h=>⟨trivial,h.1,fun z hz=>(by cases hz)⟩
 | [x],y,h=>⟨⟨h.1,fun z hz=>(by cases hz),trivial⟩,h.2.2.1,fun z hz=>by rw [List.mem_singleton.1 hz];exact h.2.1 y rfl⟩
 | x :: z :: r,y,h=>by
   have ih:=zh4 (G:=z :: r) (y:=y) h.2.2
   refine ⟨⟨h.1,h.2.1,ih.1⟩,ih.2.1,fun u hu => ?_⟩
   rcases List.mem_cons.1 hu with rfl | hu
   ·have h1:=h.2.1 z rfl
    have h2:=ih.2.2 z (by simp)
    have h3:=ih.1.1
    omega
   grind
theorem wc9 (G:List Iv) (y:Iv) (x:Int):y9 (G ++ [y]) x=(y9 G x || inI y x):=by unfold y9;simp
theorem yr6 (h:z04 m (G ++ [y])) (hy:y.2<m):o5 m (G ++ [y])=true:=by
 obtain ⟨_,h1,h2⟩:=zh4 h.good.can
 unfold o5
 rw [Bool.not_eq_true',Bool.eq_false_iff]
 grind [t7,List.mem_singleton]
theorem yr7 (h:z04 m (G ++ [y])) (hy:¬ y.2<m) (h0:y.1=0):x7 m (G ++ [y]) = []:=by
 obtain ⟨_,h1,h2⟩:=zh4 h.good.can
 have hG:G = []:=by
  cases G with
  | nil=>rfl
  | cons z r =>
    have h3:=h2 z (by simp)
    have h4:=h.good.ok z (by simp)
    omega
 have hk:=z14 h
 cases hc:x7 m (G ++ [y]) with
 | nil=>rfl
 | cons z r =>
   have hz:=(zk1 hk.can (by rw [hc];simp)).2
   grind [z88,z21,i8,x7,yy2,y9,inI]
theorem yr8 (h:z04 m (G ++ [y])) (hy:¬ y.2<m) (h0:¬ y.1=0):z04 (y.1 - 1) G∧x7 (y.1 - 1) G=x7 m (G ++ [y]):=by
 obtain ⟨hc,h1,h2⟩:=zh4 h.good.can
 have hyo:=h.good.ok y (by simp)
 have htop:=h.hole y (by simp)
 have hg:z04 (y.1 - 1) G:=⟨⟨hc,fun z hz=>h.good.ok z (by simp [hz])⟩,by omega,by omega,fun z hz=>by have:=h2 z hz;omega⟩
 refine ⟨hg,zn2 (z14 hg) (z14 h) fun x => ?_⟩
 by_cases hx:0≤x
 ·grind [z21,yy2,wc9,inI]
 ·have h3:∀ L:List Iv,t6 L→y9 L x=false:=fun L hL=>by
   rw [Bool.eq_false_iff]
   intro hh
   obtain ⟨u,hu,h1,h2⟩:=(t7 _ _).1 hh
   have:=hL.ok u hu
   omega
  grind [z14]
theorem vb0 (H:List Iv) (s:Value) (x:Int) (r:Bool) (w:World) (hl:v7 w s H) (hc:m5 H) (h:y9 H x=r):Calls Tryz.prog 55 #[s,.int .u64 x] w (q8 r w):=h ▸ yl1 H s x w hl hc
theorem yg8 {B:Nat} {L:List Iv} {w':World} {v:Value} (hv:r9 w' B v L) (hl:L.length≤1048576):v7 w' v L∧z02 v∧i7 w' B v L.length:=⟨hv.ivs hl,x73 hv,ys1 hv⟩
set_option maxRecDepth 100000 in
theorem yg9 (r m:Int) (H:List Iv) (s:Value) (w:World) (he:y96 w s m H) :
 Calls Tryz.prog 269 #[.agg #[.int .u64 r,.int .u64 m,s]] w (v65 (x7 m H) w):=by
 obtain ⟨p,cap,rfl,_⟩:=he.any.at'.shape
 have hb:=z8 w (.cells #[.int .u64 r,.int .u64 m,.slice p H.length cap] 63)
 have K:=qh (ym0 H _ 0 m _ (he.op.call hb) he.good.one)
 have HLN:Hid ((x7 m H).length≤1048576):=qh (by have:=ys4 (m:=m) (H:=H);have:=he.any.len;omega)
 rw [show zn0 [(0,m)] H=x7 m H from rfl] at K
 have HB:=qh hb;clear hb he
 go_enter Tryz.func269,Tryz.ntmps269
 go_wp2_with fail
 refine K.out.mono ?_
 rintro e w1 ⟨v,rfl,hv,h⟩
 have HV:=qh hv
 have H1:=qh h;clear hv h
 go_wp2_with fail
 go_ret
 obtain ⟨k1,k2,k3⟩:=yg8 HV.out HLN.out
 exact ⟨v,rfl,k1,k2,k3.base HB.out.size,z7 HB.out H1.out⟩
set_option maxRecDepth 100000 in
set_option maxHeartbeats 2000000 in
theorem wp9 (r:Int) (L:List Iv) (s:Value) (w:World) (hL':ys5 w s L):Calls Tryz.prog 245 #[.int .u64 r,s] w (xj9 r L w):=by
 have ho:=hL'.op
 obtain ⟨p,cap,rfl,_⟩:=ho.at'.shape
 by_cases hL:L = []
 ·have hlen:L.length=0:=by rw [hL];rfl
  unfold xj9
  rw [show z56 r L=0 from by simp [z56,hL],show i8 L=0 from by rw [hL];rfl,show z44 L=false from by rw [hL];rfl,show r5 L = [] from by rw [hL];rfl]
  rw [hlen]
  clear ho hL' hL hlen
  go_enter Tryz.func245,Tryz.ntmps245
  go_wp2_with fail
  refine bodyPost_ret (v := .tuple #[.agg #[.int .u64 0,.int .u64 0,.slice none 0 0],.bool false]) (by simp [results,Tryz.results245,go_sem]) rfl ?_
  refine ⟨_,rfl,yd5 _,zf2,yh1 _ _,?_⟩
  exact z8 _ _
 ·obtain ⟨k,hk⟩:∃ k,L.length=k+1:=⟨L.length - 1,by have:=List.length_pos_iff.2 hL;omega⟩
  obtain ⟨z,hz,ht⟩:=wd3 hk
  have htr:=z88 ho.good hL
  obtain ⟨b,o,cp,e,_,c1⟩:=ho.at'.elem hz
  cases e
  rw [← ht] at c1
  have hlen:=ho.len
  have hlen3:=hL'.len
  have hb:=z8 w (.cells #[.int .u64 0,.int .u64 0,.slice none 0 0] 63)
  have c1':=z6 c1 hb
  have hgo:t6 [(0,i8 L)]:=z20 htr.1 (Int.le_refl _) htr.2
  have hh:zn0 [(0,i8 L)] L=r5 L:=by unfold r5;rw [if_neg hL]
  have km:=ym0 L _ 0 (i8 L) _ (ho.call hb) hgo
  rw [hh] at km
  unfold xj9
  rw [show z56 r L=r from by simp [z56,hL],show z44 L=true from by unfold z44;cases L with | nil=>exact absurd rfl hL | cons _ _=>rfl]
  have K:=qh km;clear km
  have HB:=qh hb;clear hb
  have HHL:=qh (ys2 (L:=L))
  rw [hk] at hlen hlen3 HHL K ⊢
  have i0:¬ (k:Int)+1=0:=by omega
  have i1:(0:Int)≤(k:Int):=by omega
  clear ho hL' hL hk hz ht htr c1 hgo hh
  generalize i8 L=t at *
  generalize r5 L=G at *
  go_enter Tryz.func245,Tryz.ntmps245
  go_wp2_with fail
  refine K.out.mono ?_
  rintro e w1 ⟨v,rfl,hv,h⟩
  obtain ⟨pv,cv,rfl,_⟩:=y8 hv
  have HV:=qh hv
  have e0:=z6 (p:=⟨w.heap.size,0,none⟩) (v := .int .u64 0) (by simp) h
  have e1:=z6 (p:=⟨w.heap.size,1,none⟩) (v := .int .u64 0) (by simp) h
  have e2:=z6 (p:=⟨w.heap.size,2,none⟩) (v := .slice none 0 0) (by simp) h
  have f0:=x6 (p:=⟨w.heap.size,0,none⟩) (by simp) (by simp) h
  have f1:=x6 (p:=⟨w.heap.size,1,none⟩) (by simp) (by simp) h
  have f2:=x6 (p:=⟨w.heap.size,2,none⟩) (by simp) (by simp) h
  have H1:=qh h;clear hv h
  go_wp2_with fail
  have hs3:=z29 e0 e1 e2 (.int .u64 r) (.int .u64 t) (.slice pv G.length cv)
  refine bodyPost_ret (v := .tuple #[.agg #[.int .u64 r,.int .u64 t,.slice pv G.length cv],.bool true]) (by simp [results,Tryz.results245,go_sem,hs3.1,hs3.2.1,hs3.2.2]) rfl ?_
  have hlt:w.heap.size<(w.alloc (.cells #[.int .u64 0,.int .u64 0,.slice none 0 0] 63)).heap.size:=by simp
  have ho:=z78 (o:=2) (z78 (o:=1) (z78 (o:=0) HV.out hlt (.int .u64 r)) hlt (.int .u64 t)) hlt (.slice pv G.length cv)
  have hw:=p8 (B':=w.heap.size) ho (Nat.le_of_lt hlt)
  obtain ⟨k1,k2,k3⟩:=yg8 hw (by have:=HHL.out;omega)
  exact ⟨_,rfl,k1,k2,k3,(((z7 HB.out H1.out).setCell (p:=⟨w.heap.size,0,none⟩) (Nat.le_refl _) _).setCell (p:=⟨w.heap.size,1,none⟩) (Nat.le_refl _) _).setCell (p:=⟨w.heap.size,2,none⟩) (Nat.le_refl _) _⟩
set_option maxRecDepth 100000 in
theorem yh0 (r m:Int) (H:List Iv) (s:Value) (w:World) (hg:z82 w) (ha:zk0 w s m H) :
 Calls Tryz.prog 111 #[.agg #[.int .u64 r,.int .u64 m,s]] w (q8 (okN m H && o5 m H) w):=by
 have hl:=ha.at'
 obtain ⟨p,cap,rfl,_⟩:=hl.shape
 have hb:=z8 w (.cells #[.int .u64 r,.int .u64 m,.slice p H.length cap] 63)
 have k:=yg7 r m H _ _ (hg.here hb) (ha.call hb)
 have HL:=qh (hl.call hb)
 have HI:=qh (xr2 ha.all ⟨ha.low,ha.top⟩)
 have K:=qh k;clear k hl ha hg
 have HB:=qh hb;clear hb
 unfold o5
 cases hc:z18 m H with
 | some x =>
   obtain ⟨t,v,hv⟩:=z37 (x:=some x) (by simp)
   rw [hc] at K
   rw [show okN m H=false from by unfold okN;rw [hc];rfl]
   rw [show z72 (some x) (w.alloc (.cells #[.int .u64 r,.int .u64 m,.slice p H.length cap] 63))=fun e w'=>e = .returned (.iface t v)∧Below (w.alloc (.cells #[.int .u64 r,.int .u64 m,.slice p H.length cap] 63)).heap.size (w.alloc (.cells #[.int .u64 r,.int .u64 m,.slice p H.length cap] 63)) w' from by unfold z72;rw [hv]] at K
   clear hc hv HI
   go_enter Tryz.func111,Tryz.ntmps111
   go_wp2_with fail
   refine K.out.mono ?_
   rintro e w1 ⟨rfl,h⟩
   have H1:=qh (z7 HB.out h);clear h
   go_wp2_with fail
   go_ret
   exact ⟨rfl,H1.out⟩
 | none =>
   have hok:okN m H=true:=by unfold okN;rw [hc];rfl
   have HC:=qh ((HI.out.1 hok).good.can)
   have KH:=qh (fun W h=>vb0 H (.slice p H.length cap) m (y9 H m) W h HC.out rfl)
   rw [hok]
   generalize y9 H m=b at *
   rw [hc] at K
   clear hc hok HI
   go_enter Tryz.func111,Tryz.ntmps111
   go_wp2_with fail
   refine K.out.mono ?_
   rintro e w1 ⟨rfl,h⟩
   have b0:=z6 (p:=⟨w.heap.size,1,none⟩) (v := .int .u64 m) (by simp) h
   have b1:=z6 (p:=⟨w.heap.size,2,none⟩) (v := .slice p H.length cap) (by simp) h
   have HL1:=qh (HL.out.call h)
   have H1:=qh (z7 HB.out h);clear h
   rw [show zj1 none = .nilIface from rfl]
   go_wp2_with fail
   refine (KH.out _ HL1.out).mono ?_
   rintro e w2 ⟨rfl,h⟩
   have H2:=qh (z7 H1.out h);clear h
   cases b <;>
   ·go_wp2_with fail
    go_ret
    exact ⟨rfl,H2.out⟩
def v64 (L:List Iv) (w:World) (e:Ending) (w':World):Prop:=∃ v,e = .returned v∧r9 w' w.heap.size v L∧Below w.heap.size w w'
theorem w03 {w:World} {l R:List Iv} (h:v7 w (.slice p n c) l) (e:l=G++R):v7 w (.slice p G.length c) G:=by
 subst e
 obtain ⟨q,cp,e,hl,hc⟩:=h
 cases e
 rw [List.length_append] at hl
 refine ⟨_,_,rfl,by omega,fun hne => ?_⟩
 obtain ⟨b,o,e2,h6⟩:=hc (by simp [hne])
 exact ⟨b,o,e2,fun i x hi=>h6 i x (by rw [List.getElem?_append_left (List.getElem?_eq_some_iff.1 hi).1];exact hi)⟩
theorem xj5 {k:Nat} (h:xc0 (.slice p n c)) (hk:k≤n):xc0 (.slice p k c):=by
 intro n' c' e
 cases e
 obtain ⟨h1,h2⟩:=h _ _ rfl
 exact ⟨by omega,h2⟩
set_option maxRecDepth 100000 in
theorem xj6 (l:List Iv) (p:Option Addr) (n cap:Nat) (w:World) (ha:v7 w (.slice p n cap) l) (hsv:xc0 (.slice p n cap)) (hl:l.length≤10000):Calls Tryz.prog 154 #[.slice p n cap] w (v64 l w):=by
 obtain ⟨_,_,e,_⟩:=ha.shape
 cases e
 have q22:∀ (w:World) (a:Option Addr) (n c n' c':Nat),(binOp .eql 42 (.slice a n c) (.slice none n' c')).run Tryz.prog w = .ok (.bool a.isNone) w:=fun w a n c n' c'=>Lib.run_eql_slice_nil w _ _ a n c n' c' Tryz.underlying42
 cases p with
 | none =>
   obtain ⟨h1,rfl⟩:=hsv _ _ rfl
   obtain rfl:l = []:=List.eq_nil_of_length_eq_zero h1
   clear ha hsv hl h1
   go_enter Tryz.func154,Tryz.ntmps154
   go_wp2_with fail
   go_ret
   exact ⟨_,rfl,r9.nil _ _,Below.refl _ _⟩
 | some ad =>
   have HA:=qh ha;clear ha
   have HS:=qh hsv;clear hsv
   go_enter Tryz.func154,Tryz.ntmps154
   go_wp2_with (at_builtin;refine yx3 rfl _ _ w _ (z8 _ _) _ _ l rfl rfl rfl (World.ownsRow_made w #[] 0 (Nat.le_refl _) (Nat.zero_le _) (by simp)) (HA.out.call (z8 _ _)) HS.out hl ?_;intro v' w' ho hb;obtain ⟨q',c',rfl,_⟩:=y8 ho;have HO:=qh ho;have HB:=qh hb;clear ho hb)
   go_ret
   exact ⟨_,rfl,HO.out,HB.out⟩
set_option maxRecDepth 100000 in
set_option maxHeartbeats 8000000 in
theorem xj7 (r m:Int) (H:List Iv) (s:Value) (w:World) (he:y96 w s m H):Calls Tryz.prog 184 #[.agg #[.int .u64 r,.int .u64 m,s]] w (xj9 r (x7 m H) w):=by
 obtain ⟨p,cap,rfl,_⟩:=he.any.at'.shape
 obtain ⟨w1,hw1⟩:∃ w1,w.alloc (.cells #[.int .u64 r,.int .u64 m,.slice p H.length cap] 63)=w1:=⟨_,rfl⟩
 have hb1:Below w.heap.size w w1:=hw1 ▸ z8 w _
 have hs1:w1.heap.size=w.heap.size+1:=by rw [← hw1];simp
 have a0:w1.cell? ⟨w.heap.size,0,none⟩=some (.int .u64 r):=by rw [← hw1];simp
 have a1:w1.cell? ⟨w.heap.size,1,none⟩=some (.int .u64 m):=by rw [← hw1];simp
 have a2:w1.cell? ⟨w.heap.size,2,none⟩=some (.slice p H.length cap):=by rw [← hw1];simp
 obtain ⟨w2,hw2⟩:∃ w2,w1.alloc (.cells #[.int .u64 0,.int .u64 0,.slice none 0 0] 63)=w2:=⟨_,rfl⟩
 have hB2:Below w1.heap.size w1 w2:=hw2 ▸ z8 w1 _
 have q0:w2.cell? ⟨w1.heap.size,0,none⟩=some (.int .u64 0):=by rw [← hw2];simp
 have q1:w2.cell? ⟨w1.heap.size,1,none⟩=some (.int .u64 0):=by rw [← hw2];simp
 have q2:w2.cell? ⟨w1.heap.size,2,none⟩=some (.slice none 0 0):=by rw [← hw2];simp
 have p0:w2.frozen? ⟨w1.heap.size,0,none⟩=false:=by rw [← hw2];simp
 have p1:w2.frozen? ⟨w1.heap.size,1,none⟩=false:=by rw [← hw2];simp
 have p2:w2.frozen? ⟨w1.heap.size,2,none⟩=false:=by rw [← hw2];simp
 have HLT:Hid (w1.heap.size<w2.heap.size):=qh (World.block_lt_of_cell? w2 _ q0)
 replace a0:=z6 a0 hB2
 replace a1:=z6 a1 hB2
 replace a2:=z6 a2 hB2
 have HB2:=qh hB2
 have HB:=qh hb1
 have HL2:=qh (he.any.at'.call (z7 hb1 hB2))
 have HGD:=qh he.good
 have HSV:=qh he.any.sane.1
 have HLN:=qh he.any.len
 have HSN:=qh he.any.sane.2
 have HNE:Hid (w.heap.size≠w1.heap.size):=qh (by omega)
 have KC:=qh xj6
 clear he hb1 hB2 hs1
 go_enter Tryz.func184,Tryz.ntmps184
 go_wp2_with fail
 go_step3
 go_wp2_with fail
 go_quiet (fail)
 go_wp2_with fail
 go_step3
 go_wp2_with fail
 clear hw1 hw2
 go_loopw [4,5] (fun x4 x5 wr=>∃ (L:Int) (G R:List Iv),x4 = .int .u64 L∧x5 = .slice p G.length cap∧H=G++R∧z04 L G∧x7 L G=x7 m H∧Below w2.heap.size w2 wr) (fun _ x5 _=>v63 x5)
 case atStart=>exact ⟨m,H,[],rfl,rfl,by simp,HGD.out,rfl,below_drewN (Below.refl _ _) _⟩
 case round =>
  obtain ⟨L,G,R,rfl,rfl,hGR,hgd,hkn,hbr⟩:=hrel
  have d0:=z6 a0 hbr
  have d1:=z6 a1 hbr
  have d2:=z6 a2 hbr
  have t0:=z6 q0 hbr
  have t1:=z6 q1 hbr
  have t2:=z6 q2 hbr
  have u0:=x6 p0 HLT.out hbr
  have u1:=x6 p1 HLT.out hbr
  have u2:=x6 p2 HLT.out hbr
  have HI:=qh (w03 (HL2.out.call hbr) hGR)
  have HSG:=qh (xj5 HSV.out (k:=G.length) (by rw [hGR];simp))
  have HLG:Hid (G.length≤5000):=qh (by have:=HLN.out;rw [hGR,List.length_append] at this;omega)
  have HBQ:=qh hbr
  have HLQ:Hid (w1.heap.size<wr.heap.size):=qh (Nat.lt_of_lt_of_le HLT.out hbr.size)
  clear hbr a0 a1 a2 q0 q1 q2 p0 p1 p2
  by_cases hne:G = []
  ·have HG0:Hid (G.length=0):=qh (by rw [hne];rfl)
   have HCN:Hid (o5 L G=true):=qh (by rw [hne];rfl)
   have HGDx:=qh hgd
   have HKN:=qh hkn
   have HLE:Hid (G.length=G.length):=qh rfl
   clear hne hgd hkn hGR
   have hz:(G.length:Int)=0:=by rw [HG0.out];rfl
   go_wp2_with fail
   have HF:Hid (z56 r (x7 m H)=r∧i8 (x7 m H)=L∧r5 (x7 m H)=G∧z44 (x7 m H)=true):=qh (yx5 HGDx.out HCN.out HKN.out r)
   have HS0:=qh (yx7 (W:=w1) (w1:=wr) ⟨z7 HB2.out HBQ.out,d0,d1,d2⟩)
   go_region_held3 (fun w'=>Below w1.heap.size w1 w'∧w'.cell? ⟨w.heap.size,0,none⟩=some (.int .u64 r)∧w'.cell? ⟨w.heap.size,1,none⟩=some (.int .u64 m)∧w'.cell? ⟨w.heap.size,2,none⟩=some (.slice (p) H.length cap))
    (first
      | exact zh5 (by assumption) (by assumption)
      | exact HS0.out
      | exact xj8 (by assumption) (Nat.le_refl _) HNE.out HNE.out HNE.out _ _ _
      | assumption)
    (first
      | (go_at_call 154;refine (KC.out (G) (p) _ cap _ (HI.out.call (Below.refl _ _).drew) HSG.out (by have:=HLG.out;have:=HLE.out;omega)).mono ?_;rintro en w4 ⟨vo,rfl,hvo,h'⟩;have hh:Below (wr).heap.size wr w4:=(Below.refl _ _).drew.trans h';replace t0:=z6 t0 hh;replace t1:=z6 t1 hh;replace t2:=z6 t2 hh;replace u0:=x6 u0 HLQ.out hh;replace u1:=x6 u1 HLQ.out hh;replace u2:=x6 u2 HLQ.out hh;obtain ⟨po,co,rfl,_⟩:=y8 hvo;have HVO:=qh hvo;have HHH:=qh hh;clear hvo hh;have h':=qh h';have hSw:=zh5 (by assumption) h'))
   have HSW:=qh (z7 HB.out hSw.1)
   clear hSw
   go_wp2_with fail
   have hs3:=z29 t0 t1 t2 (.int .u64 r) (.int .u64 L) (.slice po (G).length co)
   rw [Exit.noGoto_ret]
   refine bodyPost_ret (v := .tuple #[.agg #[.int .u64 r,.int .u64 L,.slice po (G).length co],.bool true]) (by simp [results,Tryz.results184,go_sem,hs3.1,hs3.2.1,hs3.2.2]) rfl ?_
   have hlt:w1.heap.size<(wr).drew.heap.size:=HLQ.out
   have ho:=z78 (o:=2) (z78 (o:=1) (z78 (o:=0) HVO.out hlt (.int .u64 r)) hlt (.int .u64 L)) hlt (.slice po (G).length co)
   have hw:=p8 (B':=w.heap.size) ho (Nat.le_trans HB.out.size (Nat.le_of_lt hlt))
   obtain ⟨k1,k2,k3⟩:=yg8 hw (by have:=HLG.out;have:=HLE.out;omega)
   unfold xj9
   rw [HF.out.1,HF.out.2.1,HF.out.2.2.1,HF.out.2.2.2]
   exact ⟨_,rfl,k1,k2,k3,((HSW.out.setCell (p:=⟨w1.heap.size,0,none⟩) HB.out.size _).setCell (p:=⟨w1.heap.size,1,none⟩) HB.out.size _).setCell (p:=⟨w1.heap.size,2,none⟩) HB.out.size _⟩
  ·obtain ⟨G',y,rfl⟩:=z79 hne
   obtain ⟨k,hk⟩:∃ k,G'.length=k:=⟨_,rfl⟩
   have hlen:(G' ++ [y]).length=k+1:=by simp [hk]
   obtain ⟨b,o,cp,e,c0,c1⟩:=HI.out.elem (i:=k) (x:=y) (by simp [← hk])
   have HCAP:Hid (k+1≤cap):=qh (by cases e;have h1:=HSN.out _ _ _ rfl;rw [hGR,List.length_append,hlen] at h1;omega)
   cases e
   have hok:=hgd.good.ok y (by simp)
   unfold UM at hok
   rw [hlen] at HI HSG HLG ⊢
   obtain ⟨y1,y2⟩:=y
   dsimp only at c0 c1 hok
   have i1:(0:Int)≤(k:Int):=by omega
   have i2:(k:Int)<(k:Int)+1:=by omega
   have i3:(0:Int)<(k:Int)+1:=by omega
   have i4:k<k+1:=by omega
   have hw1:IntKind.i64.wrap ((k:Int)+1 - 1)=(k:Int):=(IntWalk.i64_in _ (by have:=HLG.out;omega)).trans (by omega)
   have hw3:IntKind.i64.wrap (((k+1:Nat):Int) - 1)=(k:Int):=(IntWalk.i64_in _ (by have:=HLG.out;omega)).trans (by omega)
   have hw2:IntKind.i64.wrap (k:Int)=(k:Int):=IntWalk.i64_in _ (by have:=HLG.out;omega)
   have HNW:=qh (fun (t:TypeId)=>z8 wr (.cells #[.int .u64 y1,.int .u64 y2] t))
   by_cases hlt:y2<L
   ·have e1:decide (y2<L)=true:=by simpa using hlt
    have HCN:=qh (yr6 hgd hlt)
    obtain ⟨xp,zp,hpv⟩:∃ (xp:Int) (zp:Bool),∀ w,Calls Tryz.prog 223 #[.int .u64 y1] w (fun e w'=>e = .returned (.tuple #[.int .u64 xp,.bool zp])∧w'=w):=by
     by_cases h0:y1=0
     ·subst h0;exact ⟨_,_,fun w=>yr5 w⟩
     ·exact ⟨_,_,fun w=>x76 y1 w (by omega) (by omega)⟩
    have KPz:=qh hpv
    obtain ⟨GG,hGG⟩:∃ GG,G' ++ [(y1,y2)]=GG:=⟨_,rfl⟩
    rw [hGG] at hgd hkn HI hlen HCN
    have HGDx:=qh hgd
    have HKN:=qh hkn
    have HLE:=qh hlen
    clear hgd hkn hlt hok hne hGR hpv hGG hlen
    go_wp2_with fail
    obtain ⟨w3,hw3'⟩:∃ w3,wr.alloc (.cells #[.int .u64 y1,.int .u64 y2] 65)=w3:=⟨_,rfl⟩
    have hn:Below wr.heap.size wr w3:=hw3' ▸ z8 wr _
    have g1:w3.cell? ⟨wr.heap.size,1,none⟩=some (.int .u64 y2):=by rw [← hw3'];simp
    replace d0:=z6 d0 hn
    replace d1:=z6 d1 hn
    replace d2:=z6 d2 hn
    replace t0:=z6 t0 hn
    replace t1:=z6 t1 hn
    replace t2:=z6 t2 hn
    replace u0:=x6 u0 HLQ.out hn
    replace u1:=x6 u1 HLQ.out hn
    replace u2:=x6 u2 HLQ.out hn
    replace HI:=qh (HI.out.call hn)
    replace HBQ:=qh (z7 HBQ.out hn)
    replace HLQ:Hid (w1.heap.size<w3.heap.size):=qh (Nat.lt_of_lt_of_le HLQ.out hn.size)
    rw [hw3']
    clear hn hw3'
    refine (KPz.out _).mono ?_
    rintro e w4 ⟨rfl,hw4⟩
    rw [hw4]
    clear hw4 w4
    go_wp2_with fail
    have HF:Hid (z56 r (x7 m H)=r∧i8 (x7 m H)=L∧r5 (x7 m H)=GG∧z44 (x7 m H)=true):=qh (yx5 HGDx.out HCN.out HKN.out r)
    have HS0:=qh (yx7 (W:=w1) (w1:=w3) ⟨z7 HB2.out HBQ.out,d0,d1,d2⟩)
    go_region_held3 (fun w'=>Below w1.heap.size w1 w'∧w'.cell? ⟨w.heap.size,0,none⟩=some (.int .u64 r)∧w'.cell? ⟨w.heap.size,1,none⟩=some (.int .u64 m)∧w'.cell? ⟨w.heap.size,2,none⟩=some (.slice (some ⟨b,o,none⟩) H.length cap))
     (first
       | exact zh5 (by assumption) (by assumption)
       | exact HS0.out
       | exact xj8 (by assumption) (Nat.le_refl _) HNE.out HNE.out HNE.out _ _ _
       | assumption)
     (first
       | (go_at_call 154;refine (KC.out (GG) (some ⟨b,o,none⟩) _ cap _ (HI.out.call (Below.refl _ _).drew) HSG.out (by have:=HLG.out;have:=HLE.out;omega)).mono ?_;rintro en w4 ⟨vo,rfl,hvo,h'⟩;have hh:Below (w3).heap.size w3 w4:=(Below.refl _ _).drew.trans h';replace t0:=z6 t0 hh;replace t1:=z6 t1 hh;replace t2:=z6 t2 hh;replace u0:=x6 u0 HLQ.out hh;replace u1:=x6 u1 HLQ.out hh;replace u2:=x6 u2 HLQ.out hh;obtain ⟨po,co,rfl,_⟩:=y8 hvo;have HVO:=qh hvo;have HHH:=qh hh;clear hvo hh;have h':=qh h';have hSw:=zh5 (by assumption) h'))
    have HSW:=qh (z7 HB.out hSw.1)
    clear hSw
    go_wp2_with fail
    have hs3:=z29 t0 t1 t2 (.int .u64 r) (.int .u64 L) (.slice po (GG).length co)
    rw [Exit.noGoto_ret]
    refine bodyPost_ret (v := .tuple #[.agg #[.int .u64 r,.int .u64 L,.slice po (GG).length co],.bool true]) (by simp [results,Tryz.results184,go_sem,hs3.1,hs3.2.1,hs3.2.2]) rfl ?_
    have hlt:w1.heap.size<(w3).drew.heap.size:=HLQ.out
    have ho:=z78 (o:=2) (z78 (o:=1) (z78 (o:=0) HVO.out hlt (.int .u64 r)) hlt (.int .u64 L)) hlt (.slice po (GG).length co)
    have hw:=p8 (B':=w.heap.size) ho (Nat.le_trans HB.out.size (Nat.le_of_lt hlt))
    obtain ⟨k1,k2,k3⟩:=yg8 hw (by have:=HLG.out;have:=HLE.out;omega)
    unfold xj9
    rw [HF.out.1,HF.out.2.1,HF.out.2.2.1,HF.out.2.2.2]
    exact ⟨_,rfl,k1,k2,k3,((HSW.out.setCell (p:=⟨w1.heap.size,0,none⟩) HB.out.size _).setCell (p:=⟨w1.heap.size,1,none⟩) HB.out.size _).setCell (p:=⟨w1.heap.size,2,none⟩) HB.out.size _⟩
   ·have e1:decide (y2<L)=false:=by simpa using hlt
    by_cases h0:y1=0
    ·have HNO:Hid (x7 m H = []):=qh (hkn ▸ yr7 hgd hlt h0)
     have KPz:=qh yr5
     subst h0
     clear hgd hkn hlt hok hne hGR
     go_wp2_with fail
     obtain ⟨w3,hw3'⟩:∃ w3,wr.alloc (.cells #[.int .u64 0,.int .u64 y2] 65)=w3:=⟨_,rfl⟩
     have hn:Below wr.heap.size wr w3:=hw3' ▸ z8 wr _
     have g1:w3.cell? ⟨wr.heap.size,1,none⟩=some (.int .u64 y2):=by rw [← hw3'];simp
     replace d0:=z6 d0 hn
     replace d1:=z6 d1 hn
     replace d2:=z6 d2 hn
     replace t0:=z6 t0 hn
     replace t1:=z6 t1 hn
     replace t2:=z6 t2 hn
     replace u0:=x6 u0 HLQ.out hn
     replace u1:=x6 u1 HLQ.out hn
     replace u2:=x6 u2 HLQ.out hn
     replace HI:=qh (HI.out.call hn)
     replace HBQ:=qh (z7 HBQ.out hn)
     replace HLQ:Hid (w1.heap.size<w3.heap.size):=qh (Nat.lt_of_lt_of_le HLQ.out hn.size)
     rw [hw3']
     clear hn hw3'
     refine (KPz.out _).mono ?_
     rintro e w4 ⟨rfl,hw4⟩
     rw [hw4]
     clear hw4 w4
     go_wp2_with fail
     have hs3:=z29 t0 t1 t2 (.int .u64 0) (.int .u64 0) (.slice none 0 0)
     rw [Exit.noGoto_ret]
     refine bodyPost_ret (v := .tuple #[.agg #[.int .u64 0,.int .u64 0,.slice none 0 0],.bool false]) (by simp [results,Tryz.results184,go_sem,hs3.1,hs3.2.1,hs3.2.2]) rfl ?_
     unfold xj9
     rw [HNO.out,show z56 r []=0 from rfl,show i8 []=0 from rfl,show z44 []=false from rfl,show r5 [] = [] from rfl]
     exact ⟨_,rfl,yd5 _,zf2,yh1 _ _,(((z7 HB.out (z7 HB2.out HBQ.out)).setCell (p:=⟨w1.heap.size,0,none⟩) HB.out.size _).setCell (p:=⟨w1.heap.size,1,none⟩) HB.out.size _).setCell (p:=⟨w1.heap.size,2,none⟩) HB.out.size _⟩
    ·have HST:=qh (yr8 hgd hlt h0)
     have KPz:=qh (fun w=>x76 y1 w (by omega) (by omega))
     have HKN:=qh hkn
     have HGR:=qh hGR
     clear hgd hkn hlt hok hne hGR h0
     go_wp2_with fail
     obtain ⟨w3,hw3'⟩:∃ w3,wr.alloc (.cells #[.int .u64 y1,.int .u64 y2] 65)=w3:=⟨_,rfl⟩
     have hn:Below wr.heap.size wr w3:=hw3' ▸ z8 wr _
     have g1:w3.cell? ⟨wr.heap.size,1,none⟩=some (.int .u64 y2):=by rw [← hw3'];simp
     replace d0:=z6 d0 hn
     replace d1:=z6 d1 hn
     replace d2:=z6 d2 hn
     replace t0:=z6 t0 hn
     replace t1:=z6 t1 hn
     replace t2:=z6 t2 hn
     replace u0:=x6 u0 HLQ.out hn
     replace u1:=x6 u1 HLQ.out hn
     replace u2:=x6 u2 HLQ.out hn
     replace HI:=qh (HI.out.call hn)
     replace HBQ:=qh (z7 HBQ.out hn)
     replace HLQ:Hid (w1.heap.size<w3.heap.size):=qh (Nat.lt_of_lt_of_le HLQ.out hn.size)
     rw [hw3']
     clear hn hw3'
     refine (KPz.out _).mono ?_
     rintro e w4 ⟨rfl,hw4⟩
     rw [hw4]
     clear hw4 w4
     go_wp2_with fail
     have j1:k≤cap:=by have:=HCAP.out;omega
     have j2:k+1≤cap:=HCAP.out
     have j3:(k:Int)≤(cap:Int):=by omega
     go_quiet (fail)
     go_wp2_with fail
     go_roundw
     case rel=>exact ⟨y1 - 1,G',(y1,y2) :: R,rfl,by rw [hk],by rw [HGR.out];simp,HST.out.1,HST.out.2.trans HKN.out,below_drewN HBQ.out _⟩
     case measure=>simp [v63]
end
end Go.Proofs.YtchndljcahjldaaGreatDoor
