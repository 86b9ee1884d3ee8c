/- edge of package setops: the number at which the membership in a list changes for the i-th time. Conditions: the list is correct. -/
import Derived.Test.YtchndljcahjldaaGreatDoorMRStarts
import Derived.Test.YtchndljcahjldaaGreatDoorMVApart
import Derived.Shelf.Abstract
import Derived.Shelf.RegionOpen
import Derived.OwnWalkIn
import Derived.TacticsInMore
import Derived.LoopNIn
import Derived.LoopIn
namespace Go.Proofs.YtchndljcahjldaaGreatDoor
section
open Go.RowKit
attribute [local go_sem] Oper.semAt_some
variable {l:List Iv} {s:Value} {i:Nat} {w:World}
def x13 (a:Int) (b:Bool) (w:World) (e:Ending) (w':World):Prop:=e = .returned (.tuple #[.int .u64 a,.bool b])∧w'=w
theorem wt9 (x:Int) (w:World) (h0:0≤x) (h:x<18446744073709551615) :
 Calls Tryz.prog 289 #[.int .u64 x] w (x13 (x+1) true w):=by
 go_enter Tryz.func289,Tryz.ntmps289
 go_wp2
 go_ret2
 exact ⟨rfl,rfl⟩
theorem wu0 (w:World) :
 Calls Tryz.prog 289 #[.int .u64 18446744073709551615] w (x13 0 false w):=by
 go_enter Tryz.func289,Tryz.ntmps289
 go_wp2
 go_ret2
 exact ⟨rfl,rfl⟩
set_option maxRecDepth 100000 in
theorem ya8 (s:Value) (l:List Iv) (i k:Nat) (w:World) (hl:v7 w s l) (hi:i=2*k∨i=2*k+1) (hk:l.length≤k) (hik:i≤4000000) :
 Calls Tryz.prog 287 #[s,.int .i64 i] w (x13 0 false w):=by
 obtain ⟨p,cap,rfl,hlen⟩:=hl.shape
 have hq:(i:Int) / 2=(k:Int):=by omega
 have hge:decide ((l.length:Int)≤(k:Int))=true:=by simp;omega
 clear hl hi
 go_enter Tryz.func287,Tryz.ntmps287
 go_wp2_with fail
 go_ret2
 exact ⟨rfl,rfl⟩
set_option maxRecDepth 100000 in
theorem w49 (s:Value) (l:List Iv) (i k:Nat) (y:Iv) (w:World) (hl:v7 w s l) (hi:i=2*k) (hy:l[k]? = some y) :
 Calls Tryz.prog 287 #[s,.int .i64 i] w (x13 y.1 true w):=by
 obtain ⟨_,_,_,hlen⟩:=hl.shape
 have hk:k<l.length:=(List.getElem?_eq_some_iff.1 hy).1
 obtain ⟨b,o,cap,rfl,c0,c1⟩:=hl.elem hy
 have hq:(i:Int) / 2=(k:Int):=by omega
 have hi4:i≤4000000:=by omega
 have hr:(i:Int) % 2=0:=by omega
 have hge:decide ((l.length:Int)≤(k:Int))=false:=by simp;omega
 have hj0:(0:Int)≤(k:Int):=by omega
 have hj1:(k:Int)<(l.length:Int):=by omega
 obtain ⟨y1,y2⟩:=y
 dsimp only at c0 c1 ⊢
 clear hl hi hy
 go_enter Tryz.func287,Tryz.ntmps287
 go_wp2_with fail
 go_ret2
 exact ⟨rfl,rfl⟩
set_option maxRecDepth 100000 in
theorem xd1 (s:Value) (l:List Iv) (i k:Nat) (y:Iv) (v:Int) (r:Bool) (w:World) (hl:v7 w s l) (hi:i=2*k+1) (hy:l[k]? = some y)
 (hN:∀ w,Calls Tryz.prog 289 #[.int .u64 y.2] w (x13 v r w)) :
 Calls Tryz.prog 287 #[s,.int .i64 i] w (x13 v r w):=by
 obtain ⟨_,_,_,hlen⟩:=hl.shape
 have hk:k<l.length:=(List.getElem?_eq_some_iff.1 hy).1
 obtain ⟨b,o,cap,rfl,c0,c1⟩:=hl.elem hy
 have hq:(i:Int) / 2=(k:Int):=by omega
 have hi4:i≤4000000:=by omega
 have hr:(i:Int) % 2=1:=by omega
 have hge:decide ((l.length:Int)≤(k:Int))=false:=by simp;omega
 have hj0:(0:Int)≤(k:Int):=by omega
 have hj1:(k:Int)<(l.length:Int):=by omega
 obtain ⟨y1,y2⟩:=y
 dsimp only at c0 c1 hN ⊢
 have HN:=qh hN;clear hN
 clear hl hi hy
 go_enter Tryz.func287,Tryz.ntmps287
 go_wp2_with (go_at_call 289;refine (HN.out _).mono ?_;rintro e w' ⟨rfl,hw⟩;obtain rfl:=hw.symm)
 all_goals try go_ret2
 all_goals exact ⟨rfl,rfl⟩
theorem xd2 (hc:m5 l) (hU:∀ y ∈ l,y.2≤UM):∀ (i k:Nat),(i=2*k→(c7 UM l)[i]? = l[k]?.map (·.1)) ∧
 (i=2*k+1→(c7 UM l)[i]? = l[k]?.bind fun y=>if y.2<UM then some (y.2+1) else none):=by
 induction l with
 | nil=>intro i k;simp [c7]
 | cons y l ih =>
   obtain ⟨h1,h2,h3⟩:=hc
   have hy:=hU y (by simp)
   have ih:=ih h3 fun z hz=>hU z (by simp [hz])
   have hend:¬ y.2<UM→l = []:=by
    intro hn
    cases l with
    | nil=>rfl
    | cons z r =>
      have e1:=h2 z rfl
      have e2:=h3.1
      grind
   grind [c7,UM]
theorem w50 {v:Int} (hl:z19 w s l) (hv:(c7 UM l)[i]? = some v) :
 Calls Tryz.prog 287 #[s,.int .i64 i] w (x13 v true w):=by
 have hg:=xd2 hl.good.can (fun y hy=>(hl.good.ok y hy).2.2) i (i / 2)
 rcases Nat.mod_two_eq_zero_or_one i with h | h
 ·have hi:i=2*(i / 2):=by omega
  have e:=hg.1 hi
  rw [hv] at e
  cases hy:l[i / 2]? with
  | none=>rw [hy] at e;cases e
  | some y =>
    rw [hy] at e
    obtain rfl:v=y.1:=by simpa using e
    exact w49 s l i _ y w hl.at' hi hy
 ·have hi:i=2*(i / 2)+1:=by omega
  have e:=hg.2 hi
  rw [hv] at e
  cases hy:l[i / 2]? with
  | none=>rw [hy] at e;cases e
  | some y =>
    rw [hy] at e
    have h0:=hl.good.ok y (List.mem_of_getElem? hy)
    by_cases c:y.2<UM
    ·obtain rfl:v=y.2+1:=by simpa [c] using e
     exact xd1 s l i _ y _ _ w hl.at' hi hy fun w=>wt9 y.2 w (by omega) c
    ·simp [c] at e
theorem w51 (hl:z19 w s l) (hv:(c7 UM l)[i]? = none) (hi:i≤40000) :
 Calls Tryz.prog 287 #[s,.int .i64 i] w (x13 0 false w):=by
 have hg:=xd2 hl.good.can (fun y hy=>(hl.good.ok y hy).2.2) i (i / 2)
 rcases Nat.mod_two_eq_zero_or_one i with h | h
 ·have hi:i=2*(i / 2):=by omega
  have e:=hg.1 hi
  rw [hv] at e
  cases hy:l[i / 2]? with
  | none=>exact ya8 s l i (i / 2) w hl.at' (.inl hi) (List.getElem?_eq_none_iff.1 hy) (by omega)
  | some y=>rw [hy] at e;cases e
 ·have hi:i=2*(i / 2)+1:=by omega
  have e:=hg.2 hi
  rw [hv] at e
  cases hy:l[i / 2]? with
  | none=>exact ya8 s l i (i / 2) w hl.at' (.inr hi) (List.getElem?_eq_none_iff.1 hy) (by omega)
  | some y =>
    rw [hy] at e
    have h0:=hl.good.ok y (List.mem_of_getElem? hy)
    by_cases c:y.2<UM
    ·simp [c] at e
    ·have hu:UM=18446744073709551615:=rfl
     obtain ⟨y1,y2⟩:=y
     obtain rfl:y2=18446744073709551615:=by dsimp only at c h0;omega
     exact xd1 s l i _ _ _ _ w hl.at' hi hy fun w=>wu0 w
end
section
open Go.RowKit Go.Shelf
attribute [local go_sem] Oper.semAt_some
variable {A B:World} {s t:Value} {l a b:List Iv} {ka kb m:Nat}
structure zc4 (ka kb:Nat) (s t:Value) (a b:List Iv) (W:World):Prop where
 ca:W.cell? ⟨ka,0,none⟩=some s
 cb:W.cell? ⟨kb,0,none⟩=some t
 la:z19 W s a
 lb:z19 W t b
def zg7 (keep:Nat→Prop) (s:Value) (l:List Iv):Prop:=l ≠ []→∀ b o n cap,s = .slice (some ⟨b,o,none⟩) n cap→keep b
theorem z19.apart {keep:Nat→Prop} (h:z19 A s l) (hk:zg7 keep s l) (hb:y5 (fun k=>¬ keep k) A B):z19 B s l:=by
 refine ⟨?_,h.good,h.len⟩
 obtain ⟨p,cap,h1,h2,h3⟩:=h.at'
 refine ⟨p,cap,h1,h2,fun hne => ?_⟩
 obtain ⟨b,o,rfl,h6⟩:=h3 hne
 have hkb:=hk hne b o _ _ h1
 exact ⟨b,o,rfl,fun i x hi=>⟨hb.cell (h6 i x hi).1 fun hn=>hn hkb,hb.cell (h6 i x hi).2 fun hn=>hn hkb⟩⟩
theorem zg7.of {w:World} {keep:Nat→Prop} (h:z19 w s l) (hk:∀ k,k<w.heap.size→keep k):zg7 keep s l:=by
 intro hne b o n cap e
 obtain ⟨p,cap',h1,h2,h3⟩:=h.at'
 obtain ⟨b',o',rfl,h6⟩:=h3 hne
 rw [h1] at e
 cases e
 obtain ⟨x,r,rfl⟩:=List.exists_cons_of_ne_nil hne
 exact hk b (World.block_lt_of_cell? w _ (h6 0 x rfl).1)
theorem zc4.apart {keep:Nat→Prop} (h:zc4 ka kb s t a b A) (h1:keep ka) (h2:keep kb) (h3:zg7 keep s a) (h4:zg7 keep t b) (hb:y5 (fun k=>¬ keep k) A B):zc4 ka kb s t a b B:=
 ⟨hb.cell h.ca fun hn=>hn h1,hb.cell h.cb fun hn=>hn h2,h.la.apart h3 hb,h.lb.apart h4 hb⟩
theorem zc4.below (h:zc4 ka kb s t a b A) (hb:Below A.heap.size A B):zc4 ka kb s t a b B:=
 ⟨z6 h.ca hb,z6 h.cb hb,h.la.call hb,h.lb.call hb⟩
def zy2 (s:Value) (i:Nat) (v:Int) (r:Bool) (W:World):Prop:=∃ l,z19 W s l∧i≤40000∧((r=true∧(c7 UM l)[i]? = some v)∨(r=false∧v=0∧(c7 UM l)[i]? = none))
theorem wu1 (s:Value) (i:Nat) (v:Int) (r:Bool) (W:World) (h:zy2 s i v r W):Calls Tryz.prog 287 #[s,.int .i64 i] W (x13 v r W):=by
 obtain ⟨l,hl,hi,⟨rfl,hv⟩ | ⟨rfl,rfl,hv⟩⟩:=h
 ·exact w50 hl hv
 ·exact w51 hl hv hi
def chV (x:Ch):Array Value:=#[.agg #[.int .u64 x.1,.bool x.2.1,.bool x.2.2]]
def odd (m:Nat):Bool:=decide (m % 2=1)
theorem y26 (m:Nat):(((m:Int) % 2) == 1)=odd m:=by
 unfold odd
 grind
theorem zl6 (m:Nat):(((m:Int)+1) % 2 == 1) = !odd m:=by
 unfold odd
 grind
theorem zl7 (m:Nat):odd (m+1) = !odd m:=by
 unfold odd
 grind
theorem z40 {l:List Int} {x:Int} (h:l[m]? = some x):l.drop m=x :: l.drop (m+1):=by
 obtain ⟨h1,h2⟩:=List.getElem?_eq_some_iff.1 h
 rw [List.drop_eq_getElem_cons h1,h2]
theorem ze5 {l:List Int} (h:l[m]? = none):l.drop m = []:=List.drop_eq_nil_iff.2 (List.getElem?_eq_none_iff.1 h)
section
variable {A B:List Int} {m k:Nat} {x y:Int} {front L:List Ch}
theorem wi9 (hf:front++mgL (A.drop m) (B.drop k) (odd m) (odd k)=L) (ha:A[m]? = none) (hb:B[k]? = none):front=L:=by
 rw [ze5 ha,ze5 hb,wq2,List.append_nil] at hf;exact hf
theorem wj0 (hf:front++mgL (A.drop m) (B.drop k) (odd m) (odd k)=L) (ha:A[m]? = some x) (hb:B[k]? = none):(front ++ [(x,!odd m,odd k)])++mgL (A.drop (m+1)) (B.drop k) (odd (m+1)) (odd k)=L:=by
 rw [z40 ha,ze5 hb,wd7] at hf;rw [ze5 hb,zl7,← hf];simp
theorem w52 (hf:front++mgL (A.drop m) (B.drop k) (odd m) (odd k)=L) (ha:A[m]? = none) (hb:B[k]? = some y):(front ++ [(y,odd m,!odd k)])++mgL (A.drop m) (B.drop (k+1)) (odd m) (odd (k+1))=L:=by
 rw [ze5 ha,z40 hb,w05] at hf;rw [ze5 ha,zl7,← hf];simp
theorem v16 (hf:front++mgL (A.drop m) (B.drop k) (odd m) (odd k)=L) (ha:A[m]? = some x) (hb:B[k]? = some y) (h:x<y):(front ++ [(x,!odd m,odd k)])++mgL (A.drop (m+1)) (B.drop k) (odd (m+1)) (odd k)=L:=by
 rw [z40 ha,z40 hb,wy6 h] at hf;rw [z40 hb,zl7,← hf];simp
theorem v17 (hf:front++mgL (A.drop m) (B.drop k) (odd m) (odd k)=L) (ha:A[m]? = some x) (hb:B[k]? = some y) (h:y<x):(front ++ [(y,odd m,!odd k)])++mgL (A.drop m) (B.drop (k+1)) (odd m) (odd (k+1))=L:=by
 rw [z40 ha,z40 hb,wy7 h] at hf;rw [z40 ha,zl7,← hf];simp
theorem v18 (hf:front++mgL (A.drop m) (B.drop k) (odd m) (odd k)=L) (ha:A[m]? = some x) (hb:B[k]? = some x):(front ++ [(x,!odd m,!odd k)])++mgL (A.drop (m+1)) (B.drop (k+1)) (odd (m+1)) (odd (k+1))=L:=by
 rw [z40 ha,z40 hb,wy8] at hf;rw [zl7,zl7,← hf];simp
end
theorem zo3 {l:List Int} {m:Nat} {x:Int} (h:l[m]? = some x):m<l.length:=(List.getElem?_eq_some_iff.1 h).1
set_option maxRecDepth 100000 in
set_option maxHeartbeats 4000000 in
theorem y27 (n:Nat) (hn:1≤n) (ka kb:Nat) (s t:Value) (a b:List Iv) (keep:Nat→Prop) (h1:keep ka) (h2:keep kb) (h3:zg7 keep s a) (h4:zg7 keep t b) (W0:World) (h0:zc4 ka kb s t a b W0) :
 xd0 n Tryz.prog 286 #[.pointer (some ⟨ka,0,none⟩),.pointer (some ⟨kb,0,none⟩)] chV (chL UM a b) (fun _=>False) keep 0 W0:=by
 intro l J Jx hJ hJx hY hJ0
 have HY:=qh hY;clear hY
 have HK:=qh (And.intro hJ hJx);clear hJ hJx
 have HP:=qh (And.intro (And.intro h1 h2) (And.intro h3 h4));clear h1 h2 h3 h4
 have HJ0:=qh hJ0;clear hJ0
 have H0:=qh h0;clear h0
 refine callsIn_of_wp Tryz.func286 rfl trivial ?_ rfl
 simp only [Tryz.ntmps286,List.size_toArray,List.length_cons,List.length_nil,Nat.reduceAdd,Nat.reduceSub,Array.replicate_succ,Array.replicate_zero,List.push_toArray,List.append_toArray,List.nil_append,List.cons_append]
 gi_wp2
 gi_loopw [4,5] (fun i j wr=>∃ (m k:Nat) (front:List Ch),i = .int .i64 m∧j = .int .i64 k∧front++mgL ((c7 UM a).drop m) ((c7 UM b).drop k) (odd m) (odd k)=chL UM a b∧zc4 ka kb s t a b wr∧J front wr∧m≤(c7 UM a).length∧k≤(c7 UM b).length)
  (fun i j _=>(c7 UM a).length - (intOf i).toNat+((c7 UM b).length - (intOf j).toNat))
 case atStart=>exact ⟨0,0,[],rfl,rfl,rfl,H0.out,HJ0.out,Nat.zero_le _,Nat.zero_le _⟩
 case round =>
  obtain ⟨m,k,front,rfl,rfl,hfr,hat,hj,hm,hk⟩:=hrel
  have hca:=hat.ca
  have hcb:=hat.cb
  have hma:m≤40000:=by have:=yh7 UM a;have:=hat.la.len;omega
  have hmb:k≤40000:=by have:=yh7 UM b;have:=hat.lb.len;omega
  have HA:=qh hat;clear hat
  have HF:=qh hfr;clear hfr
  have HJ:=qh hj;clear hj
  have HM:=qh (And.intro hm hk);clear hm hk
  have KE:=qh wu1
  cases ea:(c7 UM a)[m]? with
  | none =>
    have EA:zy2 s m 0 false wr:=⟨a,HA.out.la,hma,.inr ⟨rfl,rfl,ea⟩⟩
    have HEA:=qh ea;clear ea
    cases eb:(c7 UM b)[k]? with
    | none =>
      have EB:zy2 t k 0 false wr:=⟨b,HA.out.lb,hmb,.inr ⟨rfl,rfl,eb⟩⟩
      have HEB:=qh eb;clear eb
      gi_wp2_with (refine ⟨trivial,?_⟩;gi_at_call 287;refine (callsIn_wide.2 (KE.out _ _ _ _ _ (by assumption))).mono ?_;rintro e w' ⟨rfl,hw⟩;obtain rfl:=hw.symm)
      refine bodyPost_ret (results_none rfl _ _ _) rfl ?_
      exact ⟨⟨_,rfl⟩,.inl (wi9 HF.out HEA.out HEB.out ▸ HJ.out)⟩
    | some y =>
      have EB:zy2 t k y true wr:=⟨b,HA.out.lb,hmb,.inl ⟨rfl,eb⟩⟩
      have HLt:=qh (zo3 eb)
      have HEB:=qh eb;clear eb
      gi_wp2_with (refine ⟨trivial,?_⟩;gi_at_call 287;refine (callsIn_wide.2 (KE.out _ _ _ _ _ (by assumption))).mono ?_;rintro e w' ⟨rfl,hw⟩;obtain rfl:=hw.symm)
      rw [y26 m,zl6 k]
      have HL:=qh (w52 HF.out HEA.out HEB.out)
      obtain ⟨fn,tmps,assign,body,hy,hR⟩:=HY.out front (y,odd m,!odd k) wr (wr.alloc (.cells #[.int .u64 y,.bool (odd m),.bool (!odd k)] 311)) HJ.out (y5.alloc _ _ _) ⟨_,HL.out⟩ (Nat.zero_le _)
      unfold chV at hy
      dsimp only at hy
      rw [hy,Oper.uponIn_round]
      refine ⟨fun h=>(by cases h),(RoundIn.anyDepth hR).mono ?_⟩
      clear hy hR
      rintro e W3 ⟨hap,⟨rfl,hJ3⟩ | ⟨rfl,hJ3⟩⟩
      ·have HT:=qh (zc4.apart (HA.out.below (z8 _ _)) HP.out.1.1 HP.out.1.2 HP.out.2.1 HP.out.2.2 (hap.mono fun _ _ h hn=>h (.inl hn)))
       have HJ3:=qh hJ3;clear hJ3 hap hca hcb
       gi_wp2
       go_roundw
       case rel=>exact ⟨m,k+1,_,rfl,rfl,HL.out,HT.out,HJ3.out,by have:=HM.out;have:=HLt.out;omega,by have:=HM.out;have:=HLt.out;omega⟩
       case measure=>have:=HM.out;have:=HLt.out;simp [intOf] at this ⊢;omega
      ·have HJ3:=qh hJ3;clear hJ3 hap hca hcb
       gi_wp2
       refine bodyPost_ret (results_none rfl _ _ _) rfl ?_
       exact ⟨⟨_,rfl⟩,.inr HJ3.out⟩
  | some x =>
    have EA:zy2 s m x true wr:=⟨a,HA.out.la,hma,.inl ⟨rfl,ea⟩⟩
    cases eb:(c7 UM b)[k]? with
    | none =>
      have EB:zy2 t k 0 false wr:=⟨b,HA.out.lb,hmb,.inr ⟨rfl,rfl,eb⟩⟩
      have HLt:=qh (zo3 ea)
      have HEA:=qh ea;clear ea
      have HEB:=qh eb;clear eb
      gi_wp2_with (refine ⟨trivial,?_⟩;gi_at_call 287;refine (callsIn_wide.2 (KE.out _ _ _ _ _ (by assumption))).mono ?_;rintro e w' ⟨rfl,hw⟩;obtain rfl:=hw.symm)
      rw [zl6 m,y26 k]
      have HL:=qh (wj0 HF.out HEA.out HEB.out)
      obtain ⟨fn,tmps,assign,body,hy,hR⟩:=HY.out front (x,!odd m,odd k) wr (wr.alloc (.cells #[.int .u64 x,.bool (!odd m),.bool (odd k)] 311)) HJ.out (y5.alloc _ _ _) ⟨_,HL.out⟩ (Nat.zero_le _)
      unfold chV at hy
      dsimp only at hy
      rw [hy,Oper.uponIn_round]
      refine ⟨fun h=>(by cases h),(RoundIn.anyDepth hR).mono ?_⟩
      clear hy hR
      rintro e W3 ⟨hap,⟨rfl,hJ3⟩ | ⟨rfl,hJ3⟩⟩
      ·have HT:=qh (zc4.apart (HA.out.below (z8 _ _)) HP.out.1.1 HP.out.1.2 HP.out.2.1 HP.out.2.2 (hap.mono fun _ _ h hn=>h (.inl hn)))
       have HJ3:=qh hJ3;clear hJ3 hap hca hcb
       gi_wp2
       go_roundw
       case rel=>exact ⟨m+1,k,_,rfl,rfl,HL.out,HT.out,HJ3.out,by have:=HM.out;have:=HLt.out;omega,by have:=HM.out;have:=HLt.out;omega⟩
       case measure=>have:=HM.out;have:=HLt.out;simp [intOf] at this ⊢;omega
      ·have HJ3:=qh hJ3;clear hJ3 hap hca hcb
       gi_wp2
       refine bodyPost_ret (results_none rfl _ _ _) rfl ?_
       exact ⟨⟨_,rfl⟩,.inr HJ3.out⟩
    | some y =>
      have EB:zy2 t k y true wr:=⟨b,HA.out.lb,hmb,.inl ⟨rfl,eb⟩⟩
      have HLt:=qh (And.intro (zo3 ea) (zo3 eb))
      have HEA:=qh ea;clear ea
      have HEB:=qh eb;clear eb
      rcases Int.lt_trichotomy x y with hxy | rfl | hxy
      ·have b1:decide (x≤y)=true:=by simp;omega
       have b2:decide (y≤x)=false:=by simp;omega
       have HC:=qh hxy;clear hxy
       gi_wp2_with (refine ⟨trivial,?_⟩;gi_at_call 287;refine (callsIn_wide.2 (KE.out _ _ _ _ _ (by assumption))).mono ?_;rintro e w' ⟨rfl,hw⟩;obtain rfl:=hw.symm)
       rw [zl6 m,y26 k]
       have HL:=qh (v16 HF.out HEA.out HEB.out HC.out)
       obtain ⟨fn,tmps,assign,body,hy,hR⟩:=HY.out front (x,!odd m,odd k) wr (wr.alloc (.cells #[.int .u64 x,.bool (!odd m),.bool (odd k)] 311)) HJ.out (y5.alloc _ _ _) ⟨_,HL.out⟩ (Nat.zero_le _)
       unfold chV at hy
       dsimp only at hy
       rw [hy,Oper.uponIn_round]
       refine ⟨fun h=>(by cases h),(RoundIn.anyDepth hR).mono ?_⟩
       clear hy hR
       rintro e W3 ⟨hap,⟨rfl,hJ3⟩ | ⟨rfl,hJ3⟩⟩
       ·have HT:=qh (zc4.apart (HA.out.below (z8 _ _)) HP.out.1.1 HP.out.1.2 HP.out.2.1 HP.out.2.2 (hap.mono fun _ _ h hn=>h (.inl hn)))
        have HJ3:=qh hJ3;clear hJ3 hap hca hcb
        gi_wp2
        go_roundw
        case rel=>exact ⟨m+1,k,_,rfl,rfl,HL.out,HT.out,HJ3.out,by have:=HM.out;have:=HLt.out;omega,by have:=HM.out;have:=HLt.out;omega⟩
        case measure=>have:=HM.out;have:=HLt.out;simp [intOf] at this ⊢;omega
       ·have HJ3:=qh hJ3;clear hJ3 hap hca hcb
        gi_wp2
        refine bodyPost_ret (results_none rfl _ _ _) rfl ?_
        exact ⟨⟨_,rfl⟩,.inr HJ3.out⟩
      ·have b1:decide (x≤x)=true:=by simp
       gi_wp2_with (refine ⟨trivial,?_⟩;gi_at_call 287;refine (callsIn_wide.2 (KE.out _ _ _ _ _ (by assumption))).mono ?_;rintro e w' ⟨rfl,hw⟩;obtain rfl:=hw.symm)
       rw [zl6 m,zl6 k]
       have HL:=qh (v18 HF.out HEA.out HEB.out)
       obtain ⟨fn,tmps,assign,body,hy,hR⟩:=HY.out front (x,!odd m,!odd k) wr (wr.alloc (.cells #[.int .u64 x,.bool (!odd m),.bool (!odd k)] 311)) HJ.out (y5.alloc _ _ _) ⟨_,HL.out⟩ (Nat.zero_le _)
       unfold chV at hy
       dsimp only at hy
       rw [hy,Oper.uponIn_round]
       refine ⟨fun h=>(by cases h),(RoundIn.anyDepth hR).mono ?_⟩
       clear hy hR
       rintro e W3 ⟨hap,⟨rfl,hJ3⟩ | ⟨rfl,hJ3⟩⟩
       ·have HT:=qh (zc4.apart (HA.out.below (z8 _ _)) HP.out.1.1 HP.out.1.2 HP.out.2.1 HP.out.2.2 (hap.mono fun _ _ h hn=>h (.inl hn)))
        have HJ3:=qh hJ3;clear hJ3 hap hca hcb
        gi_wp2
        go_roundw
        case rel=>exact ⟨m+1,k+1,_,rfl,rfl,HL.out,HT.out,HJ3.out,by have:=HM.out;have:=HLt.out;omega,by have:=HM.out;have:=HLt.out;omega⟩
        case measure=>have:=HM.out;have:=HLt.out;simp [intOf] at this ⊢;omega
       ·have HJ3:=qh hJ3;clear hJ3 hap hca hcb
        gi_wp2
        refine bodyPost_ret (results_none rfl _ _ _) rfl ?_
        exact ⟨⟨_,rfl⟩,.inr HJ3.out⟩
      ·have b1:decide (x≤y)=false:=by simp;omega
       have b2:decide (y≤x)=true:=by simp;omega
       have HC:=qh hxy;clear hxy
       gi_wp2_with (refine ⟨trivial,?_⟩;gi_at_call 287;refine (callsIn_wide.2 (KE.out _ _ _ _ _ (by assumption))).mono ?_;rintro e w' ⟨rfl,hw⟩;obtain rfl:=hw.symm)
       rw [y26 m,zl6 k]
       have HL:=qh (v17 HF.out HEA.out HEB.out HC.out)
       obtain ⟨fn,tmps,assign,body,hy,hR⟩:=HY.out front (y,odd m,!odd k) wr (wr.alloc (.cells #[.int .u64 y,.bool (odd m),.bool (!odd k)] 311)) HJ.out (y5.alloc _ _ _) ⟨_,HL.out⟩ (Nat.zero_le _)
       unfold chV at hy
       dsimp only at hy
       rw [hy,Oper.uponIn_round]
       refine ⟨fun h=>(by cases h),(RoundIn.anyDepth hR).mono ?_⟩
       clear hy hR
       rintro e W3 ⟨hap,⟨rfl,hJ3⟩ | ⟨rfl,hJ3⟩⟩
       ·have HT:=qh (zc4.apart (HA.out.below (z8 _ _)) HP.out.1.1 HP.out.1.2 HP.out.2.1 HP.out.2.2 (hap.mono fun _ _ h hn=>h (.inl hn)))
        have HJ3:=qh hJ3;clear hJ3 hap hca hcb
        gi_wp2
        go_roundw
        case rel=>exact ⟨m,k+1,_,rfl,rfl,HL.out,HT.out,HJ3.out,by have:=HM.out;have:=HLt.out;omega,by have:=HM.out;have:=HLt.out;omega⟩
        case measure=>have:=HM.out;have:=HLt.out;simp [intOf] at this ⊢;omega
       ·have HJ3:=qh hJ3;clear hJ3 hap hca hcb
        gi_wp2
        refine bodyPost_ret (results_none rfl _ _ _) rfl ?_
        exact ⟨⟨_,rfl⟩,.inr HJ3.out⟩
end
end Go.Proofs.YtchndljcahjldaaGreatDoor
