/- The segments of canonical knowledge, in lists. -/
import Derived.Test.YtchndljcahjldaaGreatDoorMCSeg
import Derived.Lib.SliceRun
import Derived.RowKit3
namespace Go.Proofs.YtchndljcahjldaaGreatDoor
section
open Go.RowKit
variable {F:t8} {L:List Sg} {i j k n:Nat} {x:List Iv × v6} {w:World}
theorem x39:∀ {F:t8} {i:Nat} {s:Sg},s ∈ z42 i F→(i:Int)≤s.2.2∧s.2.2<((i+F.length:Nat):Int)
 | [],_,_,h=>by cases h
 | x :: F,i,s,h=>by
   rw [z42] at h
   rcases List.mem_append.1 h with h | h
   ·grind
   ·have:=x39 h
    grind
theorem yq2:∀ {F:t8} {i n:Nat},(z42 i F).filter (fun s=>decide (s.2.2<((i+n:Nat):Int)))=z42 i (F.take n)
 | [],_,_=>by rw [List.take_nil];rfl
 | x :: F,i,0=>by
   rw [List.take_zero]
   refine List.filter_eq_nil_iff.2 fun s hs => ?_
   have:=x39 hs
   simp
   omega
 | x :: F,i,n+1=>by
   have ih:=yq2 (F:=F) (i:=i+1) (n:=n)
   grind [z42,List.filter_eq_self]
def za1 (k:Nat) (L:List Sg):List Sg:=L.filter fun s => !decide ((k:Int)<s.2.2)
theorem yf2 (hp:L.Perm (z42 0 F)) (hs:zb3 L) (k:Nat):(za1 k L).Perm (z42 0 (F.take (k+1)))∧zb3 (za1 k L):=by
 refine ⟨?_,List.Pairwise.filter _ hs⟩
 refine (hp.filter _).trans ?_
 rw [← yq2 (i:=0) (n:=k+1)]
 grind
theorem xh0 (hF:x9 F) (hp:L.Perm (z42 0 F)) (hs:zb3 L) (k:Nat):zy8 (za1 k L) = !apB (F.take (k+1)):=
 ye8 (zx8 hF _) (yf2 hp hs k).1 (yf2 hp hs k).2
def meK (F:t8) (i:Nat):Bool:=match F[i]? with
 | some x=>(F.take i).any fun y => !decide (xk1 x.1 y.1 = [])
 | none=>false
theorem wx6 (hx:F[i]? = some x):meK F i=(F.take i).any fun y => !decide (xk1 x.1 y.1 = []):=by unfold meK;rw [hx]
theorem yv9 (hi:i<F.length):apB (F.take (i+1))=(apB (F.take i) && !meK F i):=by
 obtain ⟨x,hx⟩:∃ x,F[i]? = some x:=⟨F[i],by simp [hi]⟩
 rw [wx6 hx,List.take_add_one,hx,Bool.eq_iff_iff]
 unfold apB
 grind
theorem xp9 (hij:i≤j) (h:apB (F.take j)=true):apB (F.take i)=true:=by
 unfold apB at h ⊢
 rw [decide_eq_true_eq] at h ⊢
 have e:F.take i=(F.take j).take i:=by rw [List.take_take,Nat.min_eq_left hij]
 grind
def z43 (F:t8):Nat:=(List.range F.length).findIdx fun i => !apB (F.take (i+1))
theorem xx9 (F:t8):z43 F≤F.length:=by
 have:=List.findIdx_le_length (xs:=List.range F.length) (p:=fun i => !apB (F.take (i+1)))
 rw [List.length_range] at this
 exact this
theorem zw6 (hk:k<F.length):decide (z43 F≤k) = !apB (F.take (k+1)):=by
 by_cases h:z43 F≤k
 ·rw [decide_eq_true h]
  have hlt:z43 F<(List.range F.length).length:=by rw [List.length_range];omega
  have h1:=List.findIdx_getElem (xs:=List.range F.length) (p:=fun i => !apB (F.take (i+1))) (w:=hlt)
  have h1:(!apB (F.take ((List.range F.length)[z43 F]'hlt+1)))=true:=h1
  rw [show (List.range F.length)[z43 F]'hlt=z43 F from List.getElem_range _] at h1
  cases ha:apB (F.take (k+1)) with
  | false=>rfl
  | true =>
    have h2:apB (F.take (z43 F+1))=true:=xp9 (by omega) ha
    grind
 ·rw [decide_eq_false h]
  have h1:=List.not_of_lt_findIdx (p:=fun i => !apB (F.take (i+1))) (xs:=List.range F.length) (i:=k) (by unfold z43 at h;omega)
  grind
theorem xy0 (hi:i<F.length) (ha:apB (F.take i)=true):decide ((i:Int)=(z43 F:Int))=meK F i:=by
 have h1:=zw6 hi
 rw [yv9 hi,ha,Bool.true_and,Bool.not_not] at h1
 rw [← h1]
 by_cases h:z43 F≤i
 ·rw [decide_eq_true h]
  refine decide_eq_true ?_
  cases i with
  | zero=>omega
  | succ j =>
    have h2:=zw6 (F:=F) (k:=j) (by omega)
    grind
 grind
def zg8 (F:t8) (i:Nat):Int:=match F[i]? with
 | some x=>x38 (ye9 x) (!(zx6 x.2 && z31 x.2) || meK F i) (ngK F i)
 | none=>0
theorem zy9 (hx:F[i]? = some x):zg8 F i=x38 (ye9 x) (!(zx6 x.2 && z31 x.2) || meK F i) (ngK F i):=by unfold zg8;rw [hx]
theorem wn6 (hi:i<F.length) (h:zg8 F i=0):meK F i=false:=by
 rw [zy9 (x:=F[i]) (by simp [hi])] at h
 cases hm:meK F i with
 | false=>rfl
 | true =>
   exfalso
   revert h
   rw [hm,Bool.or_true]
   grind [x38,ye9]
theorem xq0 {F:t8}:∀ {k:Nat},k≤F.length→(∀ j,j<k→zg8 F j=0)→apB (F.take k)=true
 | 0,_,_=>by rw [List.take_zero];rfl
 | k+1,hk,h=>by rw [yv9 (by omega),xq0 (by omega) fun j hj=>h j (by omega),wn6 (by omega) (h k (by omega))];rfl
theorem w86 (hx:F[i]? = some x) (h:∀ j,j<i→zg8 F j=0):x38 (ye9 x) (decide ((i:Int)=(z43 F:Int)) || !(zx6 x.2 && z31 x.2)) (ngK F i)=zg8 F i:=by
 have hi:=(List.getElem?_eq_some_iff.1 hx).1
 rw [xy0 hi (xq0 (by omega) h),zy9 hx,Bool.or_comm]
def xh1 (F:t8):Option (Int × Option Int):=(List.range F.length).findSome? fun i=>if zg8 F i=0 then none else some (zg8 F i,some (i:Int))
theorem yq3 (h:∀ j,j<F.length→zg8 F j=0):xh1 F=none:=by grind [xh1,List.findSome?_eq_none_iff]
theorem yq4 (hk:k<F.length) (h:∀ j,j<k→zg8 F j=0) (h0:zg8 F k≠0):xh1 F=some (zg8 F k,some (k:Int)):=by
 have e:List.range F.length=List.range k++k :: (List.range (F.length - k - 1)).map (· + (k+1)):=by
  have h1:F.length=k+(1+(F.length - k - 1)):=by omega
  conv=>lhs;rw [h1,List.range_add,List.range_add]
  simp [List.range_succ,Nat.add_comm,Nat.add_left_comm]
 unfold xh1
 rw [e,List.findSome?_append]
 grind
def za5 (F:t8):Option (Int × Option Int):=match zf0 F with
 | some e=>some e
 | none=>xh1 F
theorem zp7 (h:x9 F):zf0 F=none:=by
 unfold zf0
 rw [y57 fun j x hx=>w09 (h x (List.mem_of_getElem? hx)).1 (h x (List.mem_of_getElem? hx)).2]
 rfl
theorem xq1 {G:t8} (gG:zp5 G) (aG:apB G=true):xh1 G=none:=yq3 fun j hj=>by
 have hx:G[j]? = some G[j]:=by simp [hj]
 obtain ⟨⟨g1,g2⟩,g3,g4,g5⟩:=gG.el G[j] (List.getElem_mem hj)
 have h1:ye9 G[j]=false:=by grind [ye9]
 have h2:zx6 G[j].2=true:=xs2 g3 g4
 have h3:z31 G[j].2=true:=zj2 g3
 have h4:meK G j=false:=by
  have:=yv9 hj
  grind [xp9,Nat.succ_le_of_lt,List.take_length,meK]
 have h5:ngK G j=false:=by
  cases j with
  | zero=>rfl
  | succ i =>
    rw [x37 (y:=G[i]) (x:=G[i+1]) (by simp [show i<G.length by omega]) hx]
    have:=List.pairwise_iff_getElem.1 gG.asc i (i+1) (by omega) hj (by omega)
    exact decide_eq_false (by omega)
 rw [zy9 hx,h1,h2,h3,h4,h5]
 rfl
theorem w87 {ad:Addr} {cap:Nat} (h:zm4 w (.slice (some ad) n cap) L):∀ j u,(sgC L)[j]? = some u→w.cell? (ad.add j)=some u:=by
 intro j u hj
 have hlt:j<L.length*3:=by have:=(List.getElem?_eq_some_iff.1 hj).1;rwa [yv6] at this
 obtain ⟨x,hx⟩:∃ x,L[j / 3]? = some x:=⟨L[j / 3]'(by omega),by simp [show j / 3<L.length by omega]⟩
 obtain ⟨b,o,e,c0,c1,c2⟩:=h.elem hx
 cases e
 obtain ⟨k0,k1,k2⟩:=zw3 L _ _ hx
 rw [Addr.add_lit]
 rcases (show j % 3=0∨j % 3=1∨j % 3=2 by omega) with h0 | h0 | h0
 ·rw [show j / 3*3=j by omega] at c0 k0
  rw [k0] at hj
  rw [c0];exact hj
 ·rw [show o+j / 3*3+1=o+j by omega] at c1
  rw [show j / 3*3+1=j by omega] at k1
  rw [k1] at hj
  rw [c1];exact hj
 ·rw [show o+j / 3*3+2=o+j by omega] at c2
  rw [show j / 3*3+2=j by omega] at k2
  rw [k2] at hj
  rw [c2];exact hj
theorem wn7 (L:List Sg):∀ u ∈ sgC L,u.oneCell'=true:=by
 intro u hu
 unfold sgC at hu
 obtain ⟨s,_,hu⟩:=List.mem_flatMap.1 hu
 simp at hu
 rcases hu with rfl | rfl | rfl <;> rfl
theorem xq2:∀ (L:List Sg) (i:Nat) (x:Sg),sgC (L.set i x)=(((sgC L).set (i*3) (.int .u64 x.1)).set (i*3+1) (.int .u64 x.2.1)).set (i*3+2) (.int .i64 x.2.2)
 | [],_,_=>by simp [sgC]
 | y :: L,0,_=>by simp [sgC]
 | y :: L,i+1,x=>by
   have:=xq2 L i x
   unfold sgC at this ⊢
   rw [List.set_cons_succ,List.flatMap_cons,List.flatMap_cons,this,show (i+1)*3=i*3+1+1+1 by omega]
   rfl
def v48 (L:List Sg) (w:World) (e:Ending) (w':World):Prop:=∃ v,e = .returned v∧z93 w' w.heap.size v L∧Below w.heap.size w w'
set_option maxRecDepth 100000 in
set_option maxHeartbeats 2000000 in
theorem xh2 (L:List Sg) (v:Value) (w:World) (hv:zm4 w v L) (hl:L.length≤100000) :
 Calls Tryz.prog 109 #[v] w (v48 L w):=by
 obtain ⟨i0,hi',hz0,hz1,hz2⟩:=info_parts w78
 obtain ⟨p,cap,rfl⟩:=hv.shape
 have q22:∀ (w:World) (a:Option Addr) (n c n' c':Nat),(binOp .eql 80 (.slice a n c) (.slice none n' c')).run Tryz.prog w = .ok (.bool a.isNone) w:=fun w a n c n' c'=>Lib.run_eql_slice_nil w _ _ a n c n' c' Tryz.underlying80
 cases p with
 | none =>
   have h0:L = []:=by
    refine Classical.byContradiction fun hne => ?_
    obtain ⟨p,c,e,_,h3⟩:=hv
    cases e
    obtain ⟨b,o,e2,_⟩:=h3 hne
    cases e2
   subst h0
   clear hv hl
   go_enter Tryz.func109,Tryz.ntmps109
   go_wp2_with fail
   go_ret
   exact ⟨_,rfl,World.ownsRow_nil _ _ _ _,Below.refl _ _⟩
 | some ad =>
   have HA:=qh (w87 (hv.call (z8 w (.cells #[] 90))));clear hv
   have HS:=qh (wn7 L)
   have HR:=qh (World.ownsRow_made (base:=w.heap.size) (e:=90) (size:=3) w #[] 0 (Nat.le_refl _) (Nat.zero_le _) (by simp))
   go_enter Tryz.func109,Tryz.ntmps109
   go_wp2_with (at_builtin;refine wpList_append_own _ rfl _ _ 80 rfl w.heap.size 90 i0 (.agg #[.int .u64 0,.int .u64 0,.int .i64 0]) 3 24 Tryz.underlying80 hi' hz0 hz1 hz2 rfl (by decide) _ 0 [] rfl HR.out ad L.length cap (sgC L) rfl (yv6 L) HA.out HS.out (by unfold maxLen;omega) (by omega) (z8 _ _).size ?_;intro v' w' ho hgr _;have HB:=qh (x8 (z8 w (.cells #[] 90)) HR.out hgr (z8 _ _).size);obtain ⟨q',c',rfl,_⟩:=y8 ho;have HO:=qh ho;clear ho hgr)
   go_ret
   refine ⟨_,rfl,?_,HB.out⟩
   have h:=HO.out
   rw [Nat.zero_add,List.nil_append] at h
   exact h
theorem y86 {X:Nat} {k a b c:Int} (hX:w.cell? ⟨X,0,none⟩=some (.int .i64 k)) :
 Calls Tryz.prog 107 #[.agg #[.int .u64 a,.int .u64 b,.int .i64 c],.pointer (some ⟨X,0,none⟩)] w (q8 (decide (k<c)) w):=by
 have hb:=z8 w (.cells #[.int .u64 a,.int .u64 b,.int .i64 c] 90)
 have x1:=z6 hX hb
 have HB:=qh hb
 clear hb
 by_cases h:k<c
 ·rw [decide_eq_true h]
  go_enter Tryz.func107,Tryz.ntmps107
  go_wp2_with fail
  go_ret
  exact ⟨by first | rfl | simp [h],HB.out⟩
 ·rw [decide_eq_false h]
  go_enter Tryz.func107,Tryz.ntmps107
  go_wp2_with fail
  go_ret
  exact ⟨by first | rfl | simp [h],HB.out⟩
def zp8 (k:Int) (s:Sg):Bool:=decide (k<s.2.2)
set_option maxRecDepth 100000 in
set_option maxHeartbeats 2000000 in
theorem x40 (L:List Sg) (v:Value) (X:Nat) (k:Int) (w:World) (hv:zm4 w v L) (hX:w.cell? ⟨X,0,none⟩=some (.int .i64 k)) :
 Calls Tryz.prog 155 #[v,.func (.func 107) #[] #[.pointer (some ⟨X,0,none⟩)]] w (zi6 (yb6 (zp8 k) L) w):=by
 obtain ⟨p,cap,rfl⟩:=hv.shape
 have hlen:L.length≤1048576:=by obtain ⟨_,_,_,h,_⟩:=hv;exact h
 have HV:=qh hv
 have HX:=qh hX
 clear hv hX
 go_enter Tryz.func155,Tryz.ntmps155
 go_wp2_with fail
 go_loopw [8] (fun i wr=>∃ j:Nat,i = .int .i64 j∧j≤L.length∧(∀ (q:Nat) y,q<j→L[q]? = some y→zp8 k y=false)∧Below w.heap.size w wr) (fun i _=>L.length - (intOf i).toNat)
 case atStart=>exact ⟨0,rfl,Nat.zero_le _,fun j z hj=>absurd hj (Nat.not_lt_zero j),Below.refl _ _⟩
 case round =>
  obtain ⟨j,rfl,hj,hbef,hb⟩:=hrel
  have HBF:=qh hbef
  have HB:=qh hb
  clear hbef
  by_cases hlt:j<L.length
  ·obtain ⟨⟨x1,x2,x3⟩,hx⟩:∃ x,L[j]? = some x:=⟨L[j],by simp [hlt]⟩
   obtain ⟨b,o,e,c0,c1,c2⟩:=(HV.out.call hb).elem hx
   cases e
   have K:=y86 (a:=x1) (b:=x2) (c:=x3) (z6 HX.out hb)
   obtain ⟨y,hy⟩:∃ y,decide (k<x3)=y:=⟨_,rfl⟩
   rw [hy] at K
   replace K:=qh K
   have HH:=qh (And.intro hx (show zp8 k (x1,x2,x3)=y from hy))
   have i1:(0:Int)≤(j:Int):=by omega
   have i2:(j:Int)<(L.length:Int):=by omega
   dsimp only at c0 c1 c2
   clear hx hy hb
   cases y with
   | true =>
     go_wp2_with (first | (go_at_call 107;refine K.out.mono ?_;rintro e w1 ⟨rfl,h1⟩))
     go_ret
     exact ⟨by rw [show yb6 (zp8 k) L=(j:Int) from zt2 HH.out.1 HH.out.2 HBF.out];rfl,z7 HB.out h1⟩
   | false =>
     go_wp2_with (first | (go_at_call 107;refine K.out.mono ?_;rintro e w1 ⟨rfl,h1⟩))
     go_roundw
     case rel=>exact ⟨j+1,by go_num,by omega,fun q z hq hqz=>by
      rcases Nat.lt_or_eq_of_le (Nat.le_of_lt_succ hq) with h | h
      ·exact HBF.out q z h hqz
      ·rw [h,HH.out.1] at hqz
       obtain rfl:=Option.some.inj hqz
       exact HH.out.2,z7 HB.out h1⟩
     case measure=>simp [intOf];omega
  ·obtain rfl:j=L.length:=by omega
   have HZ:=qh (show yb6 (zp8 k) L = -1 from zt1 fun q y hy=>HBF.out q y (List.getElem?_eq_some_iff.1 hy).1 hy)
   go_wp2_with fail
   go_ret
   exact ⟨by rw [HZ.out];rfl,HB.out⟩
theorem z93.put {W:World} {B g c:Nat} {M:List Sg} (h:z93 W B (.slice (some ⟨g,0,none⟩) n c) M) (hn:n=M.length) (i:Nat) (x:Sg) :
 z93 (((W.setCell ⟨g,i*3,none⟩ (.int .u64 x.1)).setCell ⟨g,i*3+1,none⟩ (.int .u64 x.2.1)).setCell ⟨g,i*3+2,none⟩ (.int .i64 x.2.2)) B (.slice (some ⟨g,0,none⟩) n c) (M.set i x):=by
 subst hn
 unfold z93 at h ⊢
 have h1:=(h.stored (i*3) (.int .u64 x.1)).1
 have h2:=(World.ownsRow.stored h1 (i*3+1) (.int .u64 x.2.1)).1
 have h3:=(World.ownsRow.stored h2 (i*3+2) (.int .i64 x.2.2)).1
 rw [List.length_set,xq2]
 exact h3
theorem y87 {B:Nat} {w:World} (b:Nat) (hb:B≤b):∀ (vs:List Value) (o:Nat) (W:World),Below B w W→Below B w (W.setCells b o vs)
 | [],_,_,h=>h
 | v :: r,o,_,h=>y87 b hb r (o+1) _ (j7 h hb o v)
theorem xh3 (W:World) {t:TypeId} (ht:Tryz.prog.underlying t=some (.slice 90)) (b o n c:Nat) (hn:0<n) (hc:∀ j,j<n*3→(W.cell? ⟨b,o+j,none⟩).isSome=true) (hf:∀ j,j<n*3→W.frozen? ⟨b,o+j,none⟩=false) :
 ∃ zs:List Value,∀ ty,(Builtin.clear_ #[t] ty #[.slice (some ⟨b,o,none⟩) n c]).run Tryz.prog W = .ok (.tuple #[]) (W.setCells b o zs):=by
 have hv:=Tryz.zeroValue90
 refine ⟨(Builtin.zeroCells #[.int .u64 0,.int .u64 0,.int .i64 0] n).toList,fun ty => ?_⟩
 have hlen:(Builtin.zeroCells #[.int .u64 0,.int .u64 0,.int .i64 0] n).toList.length=n*3:=by simp [Builtin.zeroCells]
 have hone:∀ v ∈ (Builtin.zeroCells #[.int .u64 0,.int .u64 0,.int .i64 0] n).toList,v.oneCell'=true:=by
  intro v hv
  simp [Builtin.zeroCells] at hv
  obtain ⟨i,_,rfl⟩:=hv
  rcases (show i % 3=0∨i % 3=1∨i % 3=2 by omega) with h0 | h0 | h0 <;> rw [h0] <;> rfl
 have hst:=run_storeCells_cells (P:=Tryz.prog) b o (Builtin.zeroCells #[.int .u64 0,.int .u64 0,.int .i64 0] n).toList 0 W (by rw [hlen];simpa using hc) (by rw [hlen];simpa using hf) hone
 simp only [Nat.add_zero] at hst
 obtain ⟨m,rfl⟩:∃ m,n=m+1:=⟨n - 1,by omega⟩
 simp [Builtin.clear_,run_underlying ht,hv,Value.cells,hst]
theorem w88 {α:Type} {M:List α} {x:α} (hi:i<M.length):(M.set i x).take (i+1)=M.take i ++ [x]:=by
 rw [List.take_add_one,List.getElem?_set_self hi,List.take_set_of_le (Nat.le_refl _)]
 rfl
theorem w89 {α:Type} {M:List α} {x:α} (h:i<j):(M.set i x).drop j=M.drop j:=by rw [List.drop_set_of_lt h]
def w90 (L:List Sg) (B:Nat) (w:World) (e:Ending) (w':World):Prop:=∃ u,e = .returned u∧zm4 w' u L∧Below B w w'
theorem yf3 (h:∀ (q:Nat) y,L[q]? = some y→zp8 k y=false):za1 k L=L:=List.filter_eq_self.2 fun s hs=>by grind [List.mem_iff_getElem?,zp8]
theorem zw7 {x:Sg} (h:L[j]? = some x):za1 k (L.take (j+1))=if zp8 k x=true then za1 k (L.take j) else za1 k (L.take j) ++ [x]:=by grind [za1,List.take_add_one,zp8]
set_option maxRecDepth 100000 in
set_option maxHeartbeats 8000000 in
theorem wn8 (L:List Sg) (g c X k:Nat) (w:World) (hO:z93 w (X+1) (.slice (some ⟨g,0,none⟩) L.length c) L) (hX:w.cell? ⟨X,0,none⟩=some (.int .i64 k)) (hl:L.length≤100000) :
 Calls Tryz.prog 108 #[.slice (some ⟨g,0,none⟩) L.length c,.func (.func 107) #[] #[.pointer (some ⟨X,0,none⟩)]] w (w90 (za1 k L) (X+1) w):=by
 have K:=qh (x40 L _ X k w (hO.at (by omega)) hX)
 have hXl:=World.block_lt_of_cell? w _ hX
 have hgX:X+1≤g:=(g7 hO g rfl).1
 have hroom:L.length≤c:=by
  rcases hO.2 with ⟨e0,_⟩ | ⟨g',c',cur,e0,_,_,hnc,_⟩
  ·cases e0
  ·injection e0 with _ _ e3;omega
 have HX:=qh hX
 have HO:=qh hO
 have HXL:=qh hXl
 clear hX hO hXl
 by_cases hall:∀ (q:Nat) y,L[q]? = some y→zp8 k y=false
 ·have hk:=yf3 hall
  rw [zt1 hall] at K
  rw [hk]
  clear hk hall
  go_enter Tryz.func108,Tryz.ntmps108
  go_wp2_with fail
  refine K.out.mono ?_
  rintro e w1 ⟨rfl,h1⟩
  have H1:=qh h1
  clear h1
  go_wp2_with fail
  go_ret
  exact ⟨_,rfl,(HO.out.at (by omega)).call H1.out,H1.out.mono (by have:=HXL.out;omega)⟩
 ·obtain ⟨i0,hi0,y,hy,hyb,hbef⟩:∃ i0,i0<L.length∧∃ y,L[i0]? = some y∧zp8 k y=true∧∀ (q:Nat) z,q<i0→L[q]? = some z→zp8 k z=false:=by
   have hf:L.findIdx (zp8 k)<L.length:=by
    rw [List.findIdx_lt_length]
    refine Classical.byContradiction fun hn=>hall fun q y hq => ?_
    cases hb:zp8 k y with
    | false=>rfl
    | true=>exact absurd ⟨y,List.mem_of_getElem? hq,hb⟩ hn
   refine ⟨_,hf,L[L.findIdx (zp8 k)],by simp,List.findIdx_getElem (w:=hf),fun q z hq hz => ?_⟩
   have h1:=List.not_of_lt_findIdx hq
   obtain ⟨h2,rfl⟩:=List.getElem?_eq_some_iff.1 hz
   simpa using h1
  rw [zt2 hy hyb hbef] at K
  have hstart:za1 k (L.take (i0+1))=L.take i0:=by
   rw [zw7 hy,if_pos hyb]
   refine yf3 fun q z hz => ?_
   rw [List.getElem?_take] at hz
   split at hz
   ·exact hbef q z (by assumption) hz
   ·cases hz
  have HST:=qh hstart
  clear hall hy hyb hbef hstart
  go_enter Tryz.func108,Tryz.ntmps108
  go_wp2_with fail
  refine K.out.mono ?_
  rintro e w1 ⟨rfl,h1⟩
  have HO1:=qh (y6 HO.out h1)
  have H1:=qh (h1.mono (show X+1≤w.heap.size by have:=HXL.out;omega))
  clear h1
  have i1:¬ (i0:Int) = -1:=by omega
  have i2:((i0:Int) == -1)=false:=beq_false_of_ne i1
  go_wp2_with fail
  go_loopw [5,6] (fun vi vj wr=>∃ (i j:Nat) (M:List Sg),vi = .int .i64 i∧vj = .int .i64 j∧i<j∧j≤L.length∧M.length=L.length∧M.take i=za1 k (L.take j)∧M.drop j=L.drop j∧z93 wr (X+1) (.slice (some ⟨g,0,none⟩) L.length c) M∧Below (X+1) w wr) (fun _ vj _=>L.length - (intOf vj).toNat)
  case atStart=>exact ⟨i0,i0+1,L,rfl,by go_num,by omega,by omega,rfl,HST.out.symm,rfl,HO1.out,H1.out⟩
  case round =>
   clear K HST HO1 H1
   obtain ⟨i,j,M,rfl,rfl,hij,hj,hM,hti,hdj,hR,hb⟩:=hrel
   have HB:=qh hb
   have HR:=qh hR
   have HTI:=qh hti
   have HDJ:=qh hdj
   have HM:=qh hM
   have xX:=(hb.cell (p:=⟨X,0,none⟩) (Nat.lt_succ_self X)).trans HX.out
   have j1:(0:Int)≤(j:Int):=by omega
   have k1:(0:Int)≤(i:Int):=by omega
   by_cases hlt:j<L.length
   ·obtain ⟨x,hx⟩:∃ x,L[j]? = some x:=⟨L[j],by simp [hlt]⟩
    have hxM:M[j]? = some x:=by
     have:=List.getElem?_drop (xs:=M) (i:=j) (j:=0)
     rw [hdj,List.getElem?_drop] at this
     simpa using this.symm.trans (by simp [hx])
    obtain ⟨c0,c1,c2⟩:=zw3 M j x hxM
    have hRl:z93 wr (X+1) (.slice (some ⟨g,0,none⟩) L.length c) M:=hR
    unfold z93 at hRl
    rw [← hM] at hRl
    have d0:=(hRl.cellAt (j*3) (by omega)).trans c0
    have d1:=(hRl.cellAt (j*3+1) (by omega)).trans c1
    have d2:=(hRl.cellAt (j*3+2) (by omega)).trans c2
    obtain ⟨x1,x2,x3⟩:=x
    dsimp only at d0 d1 d2
    obtain ⟨wI,hwI⟩:∃ wI,wr.alloc (.cells #[.int .u64 x1,.int .u64 x2,.int .i64 x3] 90)=wI:=⟨_,rfl⟩
    obtain ⟨ib,hib⟩:∃ ib,wr.heap.size=ib:=⟨_,rfl⟩
    have hbI:Below wr.heap.size wr wI:=hwI ▸ z8 wr _
    have q0:wI.cell? ⟨ib,0,none⟩=some (.int .u64 x1):=by rw [← hwI,← hib];simp
    have q1:wI.cell? ⟨ib,1,none⟩=some (.int .u64 x2):=by rw [← hwI,← hib];simp
    have q2:wI.cell? ⟨ib,2,none⟩=some (.int .i64 x3):=by rw [← hwI,← hib];simp
    have KD:=y86 (a:=x1) (b:=x2) (c:=x3) (z6 xX hbI)
    obtain ⟨d,hd⟩:∃ d,decide ((k:Int)<x3)=d:=⟨_,rfl⟩
    rw [hd] at KD
    replace KD:=qh KD
    have HX2:=qh (And.intro hx (show zp8 k (x1,x2,x3)=d from hd))
    have HBI:=qh (And.intro hbI (And.intro q0 (And.intro q1 q2)))
    have HSZ:=qh (show X+1≤wr.heap.size from by have:=HXL.out;have:=hb.size;omega)
    have j2:(j:Int)<(L.length:Int):=by omega
    clear hx hxM c0 c1 c2 hRl hR hb hti hdj hM hd hbI xX
    cases d with
    | true =>
      go_wp2_with (first | (go_at_call 107;refine KD.out.mono ?_;rintro e w2 ⟨rfl,h1⟩))
      go_roundw
      case rel =>
       have hb2:=(HBI.out.1.trans (h1.mono HBI.out.1.size))
       exact ⟨i,j+1,M,rfl,by go_num,by omega,by omega,HM.out,by rw [HTI.out,zw7 HX2.out.1,if_pos HX2.out.2],by rw [← List.drop_drop,HDJ.out,List.drop_drop],y6 HR.out hb2,HB.out.trans (hb2.mono HSZ.out)⟩
      case measure=>simp [intOf];omega
    | false =>
      have i3:(i:Int)<(L.length:Int):=by omega
      obtain ⟨y,hy⟩:∃ y,M[i]? = some y:=⟨M[i]'(by have:=HM.out;omega),by simp [show i<M.length by have:=HM.out;omega]⟩
      have HK:=qh (zw3 M i y hy)
      clear hy
      go_wp2_with (first | (go_at_call 107;refine KD.out.mono ?_;rintro e w2 ⟨rfl,h1⟩;have H2:=qh (HBI.out.1.trans (h1.mono HBI.out.1.size));have p0:=z6 HBI.out.2.1 h1;have p1:=z6 HBI.out.2.2.1 h1;have p2:=z6 HBI.out.2.2.2 h1;have HR2:Hid (z93 w2 (X+1) (.slice (some ⟨g,0,none⟩) L.length c) M):=qh (y6 HR.out H2.out);have hRl:=HR2.out;unfold z93 at hRl;rw [← HM.out] at hRl;have e0:=(hRl.cellAt (i*3) (by have:=HM.out;omega)).trans HK.out.1;have e1:=(hRl.cellAt (i*3+1) (by have:=HM.out;omega)).trans HK.out.2.1;have e2:=(hRl.cellAt (i*3+2) (by have:=HM.out;omega)).trans HK.out.2.2;have f0:=hRl.frozenAt (i*3);have f1:=hRl.frozenAt (i*3+1);have f2:=hRl.frozenAt (i*3+2);clear h1 hRl))
      go_roundw
      case rel =>
       exact ⟨i+1,j+1,M.set i (x1,x2,x3),by go_num,by go_num,by omega,by omega,by rw [List.length_set];exact HM.out,by rw [w88 (by have:=HM.out;omega),HTI.out,zw7 HX2.out.1,if_neg (by rw [HX2.out.2];simp)],by rw [w89 (by omega),← List.drop_drop,HDJ.out,List.drop_drop],z93.put HR2.out HM.out.symm i (x1,x2,x3),j7 (j7 (j7 (HB.out.trans (H2.out.mono HSZ.out)) hgX _ _) hgX _ _) hgX _ _⟩
      case measure=>simp [intOf];omega
   ·obtain rfl:j=L.length:=by omega
    have hRl:z93 wr (X+1) (.slice (some ⟨g,0,none⟩) L.length c) M:=hR
    unfold z93 at hRl
    rw [← hM] at hRl
    obtain ⟨zs,hz⟩:=xh3 wr (t:=80) Tryz.underlying80 g (i*3) (L.length - i) (c - i) (by omega) (fun q hq=>by rw [hRl.cellAt _ (by omega)];simp [yv6];omega) (fun q hq=>hRl.frozenAt _)
    have hfin:zm4 (wr.setCells g (i*3) zs) (.slice (some ⟨g,0,none⟩) i c) (za1 k L):=by
     rw [List.take_length] at hti
     have hlen:(za1 k L).length=i:=by rw [← hti,List.length_take];omega
     refine ⟨_,c,by rw [hlen],by omega,fun _=>⟨g,0,rfl,fun q x hx => ?_⟩⟩
     have hqi:q<i:=by have:=(List.getElem?_eq_some_iff.1 hx).1;omega
     rw [← hti,List.getElem?_take,if_pos hqi] at hx
     obtain ⟨c0,c1,c2⟩:=zw3 M q x hx
     rw [Nat.zero_add,World.cell?_setCells_out g zs (i*3) wr _ (fun _ _=>Or.inl (by simp;omega)),World.cell?_setCells_out g zs (i*3) wr _ (fun _ _=>Or.inl (by simp;omega)),World.cell?_setCells_out g zs (i*3) wr _ (fun _ _=>Or.inl (by simp;omega)),hRl.cellAt _ (by omega),hRl.cellAt _ (by omega),hRl.cellAt _ (by omega)]
     exact ⟨c0,c1,c2⟩
    have HF:=qh (And.intro hfin (y87 g hgX zs (i*3) wr hb))
    have i3:(i:Int)≤(L.length:Int):=by omega
    have i4:(L.length:Int)≤(c:Int):=by omega
    have i5:(i:Int)≤(c:Int):=by omega
    have i6:¬ c - i=0:=by omega
    clear hRl hfin hb hR hti hdj
    go_wp2_with fail
    go_ret
    exact ⟨_,rfl,HF.out.1,HF.out.2⟩
theorem wn9 (X k:Nat) (w:World) (hX:w.cell? ⟨X,0,none⟩=some (.int .i64 k)) :
 Calls Tryz.prog 108 #[.slice none 0 0,.func (.func 107) #[] #[.pointer (some ⟨X,0,none⟩)]] w (w90 (za1 k []) (X+1) w):=by
 have K:=qh (x40 [] (.slice none 0 0) X k w ⟨none,0,rfl,Nat.zero_le _,fun h=>absurd rfl h⟩ hX)
 have HXL:=qh (World.block_lt_of_cell? w _ hX)
 rw [show yb6 (zp8 k) [] = -1 from rfl] at K
 clear hX
 go_enter Tryz.func108,Tryz.ntmps108
 go_wp2_with fail
 refine K.out.mono ?_
 rintro e w1 ⟨rfl,h1⟩
 have H1:=qh h1
 clear h1
 go_wp2_with fail
 go_ret
 exact ⟨_,rfl,⟨none,0,rfl,Nat.zero_le _,fun h=>absurd rfl h⟩,H1.out.mono (by have:=HXL.out;omega)⟩
theorem w91 (L:List Sg) (u:Value) (Y k:Nat) (w:World) (hv:zm4 w u L) (hY:w.cell? ⟨Y,0,none⟩=some u) (hl:L.length≤100000) (h64:w82 L) :
 Calls Tryz.prog 106 #[.int .i64 k,.pointer (some ⟨Y,0,none⟩)] w (q8 (zy8 (za1 k L)) w):=by
 obtain ⟨w1,hw1⟩:∃ w1,w.alloc (.cells #[.int .i64 k] 3)=w1:=⟨_,rfl⟩
 obtain ⟨X,hX⟩:∃ X,w.heap.size=X:=⟨_,rfl⟩
 have hb1:Below w.heap.size w w1:=hw1 ▸ z8 w _
 have x0:w1.cell? ⟨X,0,none⟩=some (.int .i64 k):=by rw [← hw1,← hX];simp
 have y0:=z6 hY hb1
 have hX1:X+1≤w1.heap.size:=by rw [← hw1,← hX];simp
 have K1:=qh (xh2 L u w1 (hv.call hb1) hl)
 have HX:=qh (And.intro x0 (And.intro hX1 (And.intro hb1 hX)))
 have K3:=qh (fun v W (h:zm4 W v (za1 k L))=>x36 (za1 k L) v W h fun s hs=>h64 s (List.mem_filter.1 hs).1)
 obtain ⟨p,cap,rfl⟩:=hv.shape
 clear hv hY hb1 hX1 h64
 go_enter Tryz.func106,Tryz.ntmps106
 go_wp2_with fail
 refine K1.out.mono ?_
 rintro e w2 ⟨v2,rfl,hO,h2⟩
 have x2:=z6 HX.out.1 h2
 have HB2:=qh (z7 HX.out.2.2.1 h2)
 have K2:Calls Tryz.prog 108 #[v2,.func (.func 107) #[] #[.pointer (some ⟨X,0,none⟩)]] w2 (w90 (za1 k L) (X+1) w2):=by
  have hO':=hO
  rcases hO.2 with ⟨rfl,h0⟩ | ⟨g,c,cur,rfl,_⟩
  ·obtain rfl:=List.eq_nil_of_length_eq_zero h0
   exact wn9 X k w2 x2
  ·exact wn8 L g c X k w2 (p8 hO' HX.out.2.1) x2 hl
 replace K2:=qh K2
 have H2:=qh (z7 HX.out.2.2.1 h2)
 clear hO h2 K1
 go_wp2_with fail
 refine K2.out.mono ?_
 rintro e w3 ⟨v3,rfl,h3,hb3⟩
 have H3:=qh (show Below w.heap.size w w3 from H2.out.trans (hb3.mono (by have:=HX.out.2.2.2;omega)))
 have K3':=qh (K3.out v3 w3 h3)
 obtain ⟨p3,c3,rfl⟩:=h3.shape
 clear h3 hb3
 go_wp2_with fail
 refine K3'.out.mono ?_
 rintro e w4 ⟨rfl,h4⟩
 have H4:=qh (z7 H3.out h4)
 clear h4
 go_wp2_with fail
 go_ret
 exact ⟨rfl,H4.out⟩
set_option maxRecDepth 100000 in
set_option maxHeartbeats 4000000 in
theorem x41 (n r X:Nat) (w:World) (hr:r≤n) (hn:n≤1000000) (hc:∀ (k:Nat) (W:World),k<n→Below w.heap.size w W→Calls Tryz.prog 106 #[.int .i64 k,.pointer (some ⟨X,0,none⟩)] W (q8 (decide (r≤k)) W)) :
 Calls Tryz.prog 84 #[.int .i64 n,.func (.func 106) #[] #[.pointer (some ⟨X,0,none⟩)]] w (wv5 r w):=by
 have HC:=qh hc;clear hc
 go_enter Tryz.func84,Tryz.ntmps84
 go_wp2_with fail
 go_loopw [5,6] (fun vi vj wr=>∃ i j:Nat,vi = .int .i64 i∧vj = .int .i64 j∧i≤r∧r≤j∧j≤n∧Below w.heap.size w wr) (fun vi vj _=>(intOf vj - intOf vi).toNat)
 case atStart=>exact ⟨0,n,rfl,rfl,Nat.zero_le _,hr,Nat.le_refl _,Below.refl _ _⟩
 case round =>
  obtain ⟨i,j,rfl,rfl,h1,h2,h3,hb⟩:=hrel
  by_cases hlt:i<j
  ·obtain ⟨s,hs⟩:∃ s,i+j=s:=⟨_,rfl⟩
   have e1:(i:Int)+(j:Int)=(s:Int):=by omega
   obtain ⟨h,hh⟩:∃ h,s / 2=h:=⟨_,rfl⟩
   have K:=qh (HC.out h wr (by omega) hb)
   have HB:=qh hb
   have i1:(i:Int)<(j:Int):=by omega
   have s1:s≤2000000:=by omega
   have e2:(s:Int) / 2=(h:Int):=by omega
   have hb1:h≤1000000:=by omega
   clear hb
   go_wp2_with fail
   refine K.out.mono ?_
   rintro e w1 ⟨rfl,hw⟩
   have HW:=qh (z7 HB.out hw);clear hw
   by_cases hrh:r≤h
   ·rw [decide_eq_true hrh]
    go_wp2_with fail
    go_roundw
    case rel=>exact ⟨i,h,rfl,rfl,h1,hrh,by omega,HW.out⟩
    case measure=>simp [intOf] <;> omega
   ·rw [decide_eq_false hrh]
    go_wp2_with fail
    go_roundw
    case rel=>exact ⟨h+1,j,by go_num,rfl,by omega,h2,h3,HW.out⟩
    case measure=>simp [intOf] <;> omega
  ·obtain rfl:i=r:=by omega
   have HB:=qh hb;clear hb
   have i1:¬ (i:Int)<(j:Int):=by omega
   go_wp2_with fail
   go_ret
   exact ⟨rfl,HB.out⟩
set_option maxRecDepth 100000 in
set_option maxHeartbeats 4000000 in
theorem yw0 (F:t8) (v:Value) (w:World) (hv:z08 w v F) (hF:x9 F) (hfl:(flatK F).length≤100000) :
 Calls Tryz.prog 59 #[v] w (wv5 (z43 F) w):=by
 have K1:=qh (zw5 F v w hv.m.i hfl)
 obtain ⟨p,cap,rfl⟩:=hv.m.shape
 have hlen:=hv.m.len
 have hsl:(z42 0 F).length≤100000:=by rw [zt0];exact hfl
 have HF:=qh hF
 clear hv hF hfl
 go_enter Tryz.func59,Tryz.ntmps59
 go_wp2_with fail
 refine K1.out.mono ?_
 rintro e w1 ⟨u,L,rfl,hp,hs,hL,hb⟩
 obtain ⟨w2,hw2⟩:∃ w2,w1.alloc (.cells #[u] 80)=w2:=⟨_,rfl⟩
 obtain ⟨Y,hY⟩:∃ Y,w1.heap.size=Y:=⟨_,rfl⟩
 have hb2:Below w1.heap.size w1 w2:=hw2 ▸ z8 w1 _
 have y0:w2.cell? ⟨Y,0,none⟩=some u:=by rw [← hw2,← hY];simp
 have hLl:L.length≤100000:=by have:=hp.length_eq;omega
 have h64:w82 L:=fun s h=>w83 HF.out s (hp.mem_iff.1 h)
 have K2:=qh (x41 F.length (z43 F) Y w2 (xx9 F) (by omega) fun k W hk hW=>by
  have:=w91 L u Y k W ((hL.call hb2).call hW) (z6 y0 hW) hLl h64
  rw [xh0 HF.out hp hs,← zw6 hk] at this
  exact this)
 have HB:=qh (z7 hb hb2)
 obtain ⟨pu,cu,rfl⟩:=hL.shape
 clear hp hs hL hb hb2 h64
 go_wp2_with fail
 refine K2.out.mono ?_
 rintro e w3 ⟨rfl,h3⟩
 have H3:=qh (z7 HB.out h3)
 clear h3
 go_wp2_with fail
 go_ret
 exact ⟨rfl,H3.out⟩
end
section
open Go.RowKit
section
attribute [local go_sem] Oper.semAt_some zj7
def w92 (F:t8) (v:Value) (w:World) (e:Ending) (w':World):Prop:=
 ∃ X Y:Nat,e = .returned (yf1 X Y)∧w'.cell? ⟨X,0,none⟩=some v∧w'.cell? ⟨Y,0,none⟩=some (.int .i64 (z43 F))∧Below w.heap.size w w'
set_option maxRecDepth 100000 in
set_option maxHeartbeats 4000000 in
theorem xy1 (F:t8) (v:Value) (w:World) (hv:z08 w v F) (hF:x9 F) (hfl:(flatK F).length≤100000) :
 Calls Tryz.prog 33 #[v] w (w92 F v w):=by
 obtain ⟨p,cap,rfl⟩:=hv.m.shape
 obtain ⟨wA,hwA⟩:∃ wA,w.alloc (.cells #[.slice p F.length cap] 23)=wA:=⟨_,rfl⟩
 obtain ⟨X,hX⟩:∃ X,w.heap.size=X:=⟨_,rfl⟩
 have hbA:Below w.heap.size w wA:=hwA ▸ z8 w _
 have x0:wA.cell? ⟨X,0,none⟩=some (.slice p F.length cap):=by rw [← hwA,← hX];simp
 obtain ⟨wB,hwB⟩:∃ wB,wA.alloc (.cells #[.nilFunc,.nilFunc,.nilFunc] 68)=wB:=⟨_,rfl⟩
 obtain ⟨z,hz⟩:∃ z,wA.heap.size=z:=⟨_,rfl⟩
 have hbB:Below wA.heap.size wA wB:=hwB ▸ z8 wA _
 have z0:wB.cell? ⟨z,0,none⟩=some .nilFunc:=by rw [← hwB,← hz];simp
 have z1:wB.cell? ⟨z,1,none⟩=some .nilFunc:=by rw [← hwB,← hz];simp
 have z2:wB.cell? ⟨z,2,none⟩=some .nilFunc:=by rw [← hwB,← hz];simp
 have zl:z<wB.heap.size:=World.block_lt_of_cell? wB _ z0
 have fz:∀ i,wB.frozen? ⟨z,i,none⟩=false:=fun i=>by rw [← hwB,frozen?_alloc_cells,← hz];simp [World.frozen?]
 have x1:=z6 x0 hbB
 have KR:=qh (yw0 F (.slice p F.length cap) wB (hv.call (z7 hbA hbB)) hF hfl)
 have HA:=qh (And.intro (z7 hbA hbB) (And.intro x1 (And.intro z0 (And.intro z1 (And.intro z2 (And.intro zl fz))))))
 have HXZ:=qh (show w.heap.size≤z from by rw [← hz];exact hbA.size)
 clear hv hF hfl hbA hbB z0 z1 z2 zl fz
 unfold w92 yf1
 go_enter Tryz.func33,Tryz.ntmps33
 go_wp2_with fail
 refine KR.out.mono ?_
 rintro e w1 ⟨rfl,h⟩
 obtain ⟨wC,hwC⟩:∃ wC,w1.alloc (.cells #[.int .i64 (z43 F)] 3)=wC:=⟨_,rfl⟩
 obtain ⟨Y,hY⟩:∃ Y,w1.heap.size=Y:=⟨_,rfl⟩
 have hbC:Below w1.heap.size w1 wC:=hwC ▸ z8 w1 _
 have y0:wC.cell? ⟨Y,0,none⟩=some (.int .i64 (z43 F)):=by rw [← hwC,← hY];simp
 have hb2:=z7 h hbC
 have z0:=z6 HA.out.2.2.1 hb2
 have z1:=z6 HA.out.2.2.2.1 hb2
 have z2:=z6 HA.out.2.2.2.2.1 hb2
 have f0:=x6 (HA.out.2.2.2.2.2.2 0) HA.out.2.2.2.2.2.1 hb2
 have f1:=x6 (HA.out.2.2.2.2.2.2 1) HA.out.2.2.2.2.2.1 hb2
 have f2:=x6 (HA.out.2.2.2.2.2.2 2) HA.out.2.2.2.2.2.1 hb2
 have HX2:=qh (z6 HA.out.2.1 hb2)
 have HY:=qh y0
 have HB:=qh (z7 HA.out.1 hb2)
 have HXne:=qh (show X≠z by
  have h1:=World.block_lt_of_cell? wA _ x0
  have:X<wA.heap.size:=h1
  omega)
 have HYne:=qh (show Y≠z by have:=h.size;have:=HA.out.2.2.2.2.2.1;omega)
 clear h hbC hb2 y0
 obtain ⟨W4,hW4⟩:∃ W4,(((wC.setCell ⟨z,0,none⟩ (.func (.func 60) #[] #[.pointer (some ⟨X,0,none⟩)])).setCell ⟨z,1,none⟩ (.func (.func 61) #[] #[.pointer (some ⟨Y,0,none⟩),.pointer (some ⟨X,0,none⟩)])).setCell ⟨z,2,none⟩ (.func (.func 63) #[] #[.pointer (some ⟨X,0,none⟩)]))=W4:=⟨_,rfl⟩
 have r0:W4.cell? ⟨z,0,none⟩=some (.func (.func 60) #[] #[.pointer (some ⟨X,0,none⟩)]):=by
  rw [← hW4,World.cell?_setCell_other _ _ _ _ (by simp),World.cell?_setCell_other _ _ _ _ (by simp)]
  exact World.cell?_setCell_same' _ _ _ (by rw [z0];rfl)
 have r1:W4.cell? ⟨z,1,none⟩=some (.func (.func 61) #[] #[.pointer (some ⟨Y,0,none⟩),.pointer (some ⟨X,0,none⟩)]):=by
  rw [← hW4,World.cell?_setCell_other _ _ _ _ (by simp)]
  exact World.cell?_setCell_same' _ _ _ (by rw [World.cell?_setCell_other _ _ _ _ (by simp),z1];rfl)
 have r2:W4.cell? ⟨z,2,none⟩=some (.func (.func 63) #[] #[.pointer (some ⟨X,0,none⟩)]):=by
  rw [← hW4]
  exact World.cell?_setCell_same' _ _ _ (by rw [World.cell?_setCell_other _ _ _ _ (by simp),World.cell?_setCell_other _ _ _ _ (by simp),z2];rfl)
 go_wp2_with fail
 (try rw [hW4])
 refine bodyPost_ret (v := .agg #[(.func (.func 60) #[] #[.pointer (some ⟨X,0,none⟩)]),(.func (.func 61) #[] #[.pointer (some ⟨Y,0,none⟩),.pointer (some ⟨X,0,none⟩)]),(.func (.func 63) #[] #[.pointer (some ⟨X,0,none⟩)])]) (by simp [results,Tryz.results33,go_sem,r0,r1,r2]) rfl ?_
 rw [← hW4]
 refine ⟨X,Y,by first | rfl | simp,?_,?_,j7 (j7 (j7 HB.out HXZ.out _ _) HXZ.out _ _) HXZ.out _ _⟩
 ·rw [World.cell?_setCell_other _ _ _ _ (fun e=>HXne.out (congrArg Addr.block e).symm),World.cell?_setCell_other _ _ _ _ (fun e=>HXne.out (congrArg Addr.block e).symm),World.cell?_setCell_other _ _ _ _ (fun e=>HXne.out (congrArg Addr.block e).symm)]
  exact HX2.out
 ·rw [World.cell?_setCell_other _ _ _ _ (fun e=>HYne.out (congrArg Addr.block e).symm),World.cell?_setCell_other _ _ _ _ (fun e=>HYne.out (congrArg Addr.block e).symm),World.cell?_setCell_other _ _ _ _ (fun e=>HYne.out (congrArg Addr.block e).symm)]
  exact HY.out
set_option maxRecDepth 100000 in
set_option maxHeartbeats 4000000 in
theorem yf4 (F:t8) (v:Value) (w:World) (hg:z82 w) (hv:z08 w v F) (hF:zf0 F=none→x9 F) (hfl:(flatK F).length≤100000) :
 Calls Tryz.prog 11 #[v] w (z72 (za5 F) w):=by
 obtain ⟨p,cap,rfl⟩:=hv.m.shape
 have hlen:=hv.m.len
 have K1:=qh (xl3 F _ w hg hv)
 cases hc:zf0 F with
 | some e =>
   have HZ:Hid (za5 F=some e):=qh (by unfold za5;rw [hc])
   obtain ⟨t,u,hu⟩:=z37 (x:=some e) (by simp)
   rw [hc] at K1
   unfold z72 at K1
   rw [hu] at K1
   have HU:=qh hu
   clear hv hg hF hc hu hfl
   go_enter Tryz.func11,Tryz.ntmps11
   go_wp2_with fail
   refine K1.out.mono ?_
   rintro e1 w1 ⟨rfl,h⟩
   have H1:=qh h;clear h
   go_wp2_with fail
   go_ret
   exact ⟨by rw [HZ.out,HU.out];rfl,H1.out⟩
 | none =>
   have hG:=hF hc
   have HZ:Hid (za5 F=xh1 F):=qh (by unfold za5;rw [hc])
   have K2:=qh (fun W (hb:Below w.heap.size w W)=>xy1 F (.slice p F.length cap) W (hv.call hb) hG hfl)
   have HV:=qh hv.m
   have HG:=qh hg
   have KN:=qh y64
   rw [hc] at K1
   unfold z72 at K1
   clear hv hg hF hc hG hfl
   go_enter Tryz.func11,Tryz.ntmps11
   go_wp2_with fail
   refine K1.out.mono ?_
   rintro e1 w1 ⟨rfl,h⟩
   rw [show zj1 none = .nilIface from rfl]
   have H1:=qh h;clear h
   go_wp2_with fail
   refine (K2.out _ H1.out).mono ?_
   rintro e1 w2 ⟨X,Y,rfl,x0,y0,h⟩
   have H2:=qh (z7 H1.out h);clear h
   unfold yf1
   obtain ⟨wC,hwC⟩:∃ wC,w2.alloc (.cells #[.func (.func 60) #[] #[.pointer (some ⟨X,0,none⟩)],.func (.func 61) #[] #[.pointer (some ⟨Y,0,none⟩),.pointer (some ⟨X,0,none⟩)],.func (.func 63) #[] #[.pointer (some ⟨X,0,none⟩)]] 68)=wC:=⟨_,rfl⟩
   obtain ⟨z,hz⟩:∃ z,w2.heap.size=z:=⟨_,rfl⟩
   have hbC:Below w2.heap.size w2 wC:=hwC ▸ z8 w2 _
   have z0:wC.cell? ⟨z,0,none⟩=some (.func (.func 60) #[] #[.pointer (some ⟨X,0,none⟩)]):=by rw [← hwC,← hz];simp
   have z1:wC.cell? ⟨z,1,none⟩=some (.func (.func 61) #[] #[.pointer (some ⟨Y,0,none⟩),.pointer (some ⟨X,0,none⟩)]):=by rw [← hwC,← hz];simp
   have z2:wC.cell? ⟨z,2,none⟩=some (.func (.func 63) #[] #[.pointer (some ⟨X,0,none⟩)]):=by rw [← hwC,← hz];simp
   have HXY:=qh (And.intro (z6 x0 hbC) (z6 y0 hbC))
   have HC:=qh (z7 H2.out hbC)
   have HZC:=qh (And.intro z0 (And.intro z1 z2))
   clear hbC x0 y0
   go_wp2_with fail
   clear hwC z0 z1 z2
   go_loopw [16] (fun i wr=>∃ k:Nat,i = .int .i64 k∧k≤F.length∧(∀ j,j<k→zg8 F j=0)∧Below wC.heap.size wC wr) (fun i _=>F.length - (intOf i).toNat)
   case atStart=>exact ⟨0,rfl,Nat.zero_le _,fun j hj=>absurd hj (Nat.not_lt_zero j),Below.refl _ _⟩
   case round =>
    obtain ⟨k,rfl,hk,hbef,hb⟩:=hrel
    have HBF:=qh hbef;clear hbef
    by_cases hlt:k<F.length
    ·obtain ⟨x,hx⟩:∃ x,F[k]? = some x:=⟨F[k],by simp [hlt]⟩
     have hbw:=z7 HC.out hb
     have K:Calls Tryz.prog 34 #[yf1 X Y,.int .i64 k] wr (zi6 (zg8 F k) wr):=by
      rw [← w86 hx HBF.out]
      exact w85 (fun W hW=>xx6 ((HV.out.call hbw).call hW) (z6 (z6 HXY.out.1 hb) hW) hx)
       (fun W hW=>xx7 (HG.out.here (z7 hbw hW)) ((HV.out.call hbw).call hW) (z6 (z6 HXY.out.2 hb) hW) (z6 (z6 HXY.out.1 hb) hW) hx)
       (fun W hW=>xx8 ((HV.out.call hbw).call hW) (z6 (z6 HXY.out.1 hb) hW) hlt)
     unfold yf1 at K
     replace K:=qh K
     have z0:=z6 HZC.out.1 hb
     have z1:=z6 HZC.out.2.1 hb
     have z2:=z6 HZC.out.2.2 hb
     have HLT:=qh hlt
     have HB:=qh hb
     clear hx hbw hb
     by_cases h0:zg8 F k=0
     ·have HN:Hid (∀ j,j<k+1→zg8 F j=0):=qh fun j hj=>by
       rcases Nat.lt_or_eq_of_le (Nat.le_of_lt_succ hj) with h1 | rfl
       ·exact HBF.out j h1
       ·exact h0
      rw [h0] at K
      clear h0
      go_wp2_with fail
      refine K.out.mono ?_
      rintro e1 w3 ⟨rfl,h⟩
      have H3:=qh (z7 HB.out h);clear h
      go_wp2_with fail
      go_roundw
      case rel=>exact ⟨k+1,by go_num,HLT.out,HN.out,H3.out⟩
      case measure=>have:=HLT.out;simp [intOf];omega
     ·have HZ2:=qh (yq4 hlt HBF.out h0)
      have h00:(zg8 F k == 0)=false:=by simpa using h0
      have H00:=qh h00
      have HZ3:=qh (HZ.out.trans HZ2.out)
      clear HZ HZ2 HBF
      generalize zg8 F k=cd at *
      go_wp2_with fail
      refine K.out.mono ?_
      rintro e1 w3 ⟨rfl,h⟩
      have H3:=qh (z7 HB.out h);clear h
      go_wp2_with fail
      refine (KN.out cd (k:Int) _ H00.out).mono ?_
      rintro e1 w4 ⟨rfl,rfl⟩
      go_wp2_with fail
      go_ret
      exact ⟨by rw [HZ3.out];rfl,HC.out.trans (H3.out.mono HC.out.size)⟩
    ·obtain rfl:k=F.length:=by omega
     have HZ2:=qh (yq3 HBF.out)
     have HB:=qh hb
     clear hb
     go_wp2_with fail
     go_ret
     exact ⟨by rw [HZ.out,HZ2.out];rfl,z7 HC.out HB.out⟩
end
theorem ze7 (F:t8) (v:Value) (w:World) (hg:z82 w) (hv:z08 w v F) (hF:zf0 F=none→x9 F) (hfl:(flatK F).length≤100000) :
 Calls Tryz.prog 15 #[v] w (q8 (decide (za5 F=none)) w):=by
 obtain ⟨p,cap,rfl⟩:=hv.m.shape
 have K1:=qh (yf4 F _ w hg hv hF hfl)
 clear hv hg hF hfl
 cases hc:za5 F with
 | none =>
   rw [hc] at K1
   unfold z72 at K1
   rw [decide_eq_true rfl]
   clear hc
   go_enter Tryz.func15,Tryz.ntmps15
   go_wp2_with fail
   refine K1.out.mono ?_
   rintro e1 w1 ⟨rfl,h⟩
   rw [show zj1 none = .nilIface from rfl]
   have H1:=qh h;clear h
   go_wp2_with fail
   go_ret
   exact ⟨rfl,H1.out⟩
 | some e =>
   obtain ⟨t,u,hu⟩:=z37 (x:=some e) (by simp)
   rw [hc] at K1
   unfold z72 at K1
   rw [hu] at K1
   rw [decide_eq_false (by simp)]
   clear hc hu
   go_enter Tryz.func15,Tryz.ntmps15
   go_wp2_with fail
   refine K1.out.mono ?_
   rintro e1 w1 ⟨rfl,h⟩
   have H1:=qh h;clear h
   go_wp2_with fail
   go_ret
   exact ⟨rfl,H1.out⟩
end
section
open Go.RowKit
structure zz0 (w W:World) (e1:TypeId) (s1:Nat) (v1:Value) (n1:Nat) (c1:List Value) (e2:TypeId) (s2:Nat) (v2:Value) (n2:Nat) (c2:List Value):Prop where
 r1:W.ownsRow w.heap.size e1 s1 v1 n1 c1
 r2:W.ownsRow w.heap.size e2 s2 v2 n2 c2
 ne:∀ j,v1.ownBlock=some j→v2.ownBlock=some j→False
 low:Below w.heap.size w W
section
variable {w W W':World} {e1 e2:TypeId} {s1 s2 n1 n2:Nat} {v1 v2:Value} {c1 c2:List Value}
theorem zz0.below (h:zz0 w W e1 s1 v1 n1 c1 e2 s2 v2 n2 c2) (hb:Below W.heap.size W W'):zz0 w W' e1 s1 v1 n1 c1 e2 s2 v2 n2 c2:=⟨y6 h.r1 hb,y6 h.r2 hb,h.ne,z7 h.low hb⟩
theorem zz0.swap (h:zz0 w W e1 s1 v1 n1 c1 e2 s2 v2 n2 c2):zz0 w W e2 s2 v2 n2 c2 e1 s1 v1 n1 c1:=⟨h.r2,h.r1,fun j h1 h2=>h.ne j h2 h1,h.low⟩
theorem zz0.app {P:Program} (hP:P=Tryz.prog) {ops:Array Oper} {o:Oper} {a:Act} {K:Act→World→Prop} {Q':Exit→Act→World→Prop} {E:Prop} (hgd:o.guard=none) (s x:Operand) (t:TypeId)
 (ho:o.op = .call { callee := .builtin .append,args:=#[s,x],argTypes:=#[t,t] }) {z:Value} {by':Nat} (hi:(Tryz.prog.info? e1).map (fun i=>(i.zero,i.size,i.bytes))=some (some z,s1,by')) (hzs:z.cells.size=s1) (hs0:0<s1) (hby:by'≤1000) (ht:P.underlying t=some (.slice e1)) (hs:a.eval s=v1)
 (h:zz0 w W e1 s1 v1 n1 c1 e2 s2 v2 n2 c2) {Y:Nat} (hx:a.eval x = .slice (some ⟨Y,0,none⟩) 1 1) {xs:List Value} (hxl:xs.length=s1) (hc:∀ (j:Nat) u,xs[j]? = some u→W.cell? ⟨Y,j,none⟩=some u) (hone:∀ u ∈ xs,u.oneCell'=true) (hl:n1+1≤1000000)
 (hk:∀ v' W1,zz0 w W1 e1 s1 v' (n1+1) (c1++xs) e2 s2 v2 n2 c2→y5 (fun j=>v1.ownBlock=some j) W W1→K (a.put o.dst v') W1) :
 if Region.wanted o (yielded ops a.tmps)=true then Oper.wp P o a W K Q' else E:=by
 subst hP
 obtain ⟨i0,hi',hz0,hz1,hz2⟩:=info_parts hi
 rw [if_pos (by simp [Region.wanted,hgd])]
 obtain ⟨v',W1,hr,h1,h2',_,h3⟩:=run_append_own_at (P:=Tryz.prog) W w.heap.size t o.type e1 i0 z s1 by' ht hi' hz0 hz1 hz2 hzs hs0 v1 n1 c1 h.r1 ⟨Y,0,none⟩ 1 1 xs (by omega) (fun j u hu=>by rw [Addr.add_lit,Nat.zero_add];exact hc j u hu) hone (by unfold maxLen;omega) (by
  have:(n1+1)*by'≤1000000*1000:=Nat.mul_le_mul hl hby
  omega) h.low.size
 have k1:y5 (fun j=>v1.ownBlock=some j) W W1:=y5.of_grown h2' fun r hr=>hr
 unfold Oper.wp execOp
 simp only [ho,resolve,invoke,builtin,Sem.run_bind,Sem.run_pure,Result.andThen_ok,List.map_toArray,List.map_cons,List.map_nil,hs,hx,hr]
 refine hk v' W1 ⟨h1,z75 k1 h.r2 fun j hj hj2=>h.ne j hj2 hj,fun j hj hj2 => ?_,h.low.trans (k1.below h.low.size fun j hj hj2=>by have:=(g7 h.r1 j hj2).1;omega)⟩ k1
 rcases h3 with e | e
 ·exact h.ne j (e ▸ hj) hj2
 ·rw [e] at hj
  have h4:=(g7 h.r2 j hj2).2
  have:=Option.some.inj hj
  omega
end
abbrev va7 (w:World) (v:Value) (l:List Iv):Prop:=v7 w v l
def v49 (F:t8) (w:World) (e:Ending) (w':World):Prop:=
 ∃ (u v:Value) (L:List Sg),e = .returned (.tuple #[u,v])∧L.Perm (z42 0 F)∧zb3 L∧v7 w' u (L.map fun s=>(s.1,s.2.1))∧yj8 w' v (L.map fun s=>s.2.2)∧Below w.heap.size w w'
theorem yq5 {W:World} {Y:Nat} {u:Value} (h:W.cell? ⟨Y,0,none⟩=some u):∀ (j:Nat) z,([u]:List Value)[j]? = some z→W.cell? ⟨Y,j,none⟩=some z:=fun j z hj=>by
 match j,hj with
 | 0,hj=>simp at hj;subst hj;exact h
 | j+1,hj=>simp at hj
theorem yf5 {W:World} {Y:Nat} {u v:Value} (h:W.cell? ⟨Y,0,none⟩=some u∧W.cell? ⟨Y,1,none⟩=some v):∀ (j:Nat) z,([u,v]:List Value)[j]? = some z→W.cell? ⟨Y,j,none⟩=some z:=fun j z hj=>by
 match j,hj with
 | 0,hj=>simp at hj;subst hj;exact h.1
 | 1,hj=>simp at hj;subst hj;exact h.2
 | j+2,hj=>simp at hj
theorem xq3 {W W':World} {p0 p1 p2:Addr} {a0 a1 a2:Value} (h:W.cell? p0=some a0∧W.cell? p1=some a1∧W.cell? p2=some a2) (hb:Below W.heap.size W W'):W'.cell? p0=some a0∧W'.cell? p1=some a1∧W'.cell? p2=some a2:=⟨z6 h.1 hb,z6 h.2.1 hb,z6 h.2.2 hb⟩
theorem zz1 {W W':World} {q:Nat→Prop} {b o0 o1 o2:Nat} {a0 a1 a2:Value} (h:W.cell? ⟨b,o0,none⟩=some a0∧W.cell? ⟨b,o1,none⟩=some a1∧W.cell? ⟨b,o2,none⟩=some a2) (hap:y5 q W W') (hn:¬ q b):W'.cell? ⟨b,o0,none⟩=some a0∧W'.cell? ⟨b,o1,none⟩=some a1∧W'.cell? ⟨b,o2,none⟩=some a2:=⟨hap.cell h.1 hn,hap.cell h.2.1 hn,hap.cell h.2.2 hn⟩
theorem w93 (l:List Int) (x:Int):ixC (l ++ [x])=ixC l ++ [.int .i64 x]:=by unfold ixC;simp
theorem yc8 {W W1:World} {q:Nat→Prop} {o:Obj} {cs:Array Value} {t:TypeId} (h:y5 q ((W.alloc o).alloc (.cells cs t)).drew W1) (hn:¬ q (W.heap.size+1)):∀ (j:Nat) u,cs.toList[j]? = some u→W1.cell? ⟨W.heap.size+1,j,none⟩=some u:=fun j u hu=>by
 have h0:=World.news_of_block (heap_alloc_new (W.alloc o) (.cells cs t)) j u hu
 have h1:(W.alloc o).heap.size=W.heap.size+1:=by simp
 rw [Addr.add_lit,Nat.zero_add,h1] at h0
 exact h.cell (a:=⟨W.heap.size+1,j,none⟩) (z6 h0 (Below.refl _ _).drew) hn
theorem yc9 {W W1:World} {q:Nat→Prop} {o:Obj} {cs:Array Value} {t:TypeId} (h:y5 q ((W.alloc (.cells cs t)).alloc o).drew W1) (hn:¬ q W.heap.size):∀ (j:Nat) u,cs.toList[j]? = some u→W1.cell? ⟨W.heap.size,j,none⟩=some u:=fun j u hu=>by
 have h0:=World.news_of_block (heap_alloc_new W (.cells cs t)) j u hu
 rw [Addr.add_lit,Nat.zero_add] at h0
 exact h.cell (a:=⟨W.heap.size,j,none⟩) (z6 h0 (z8 _ _).drew) hn
attribute [-go_sem] Builtin.append_
set_option maxRecDepth 100000 in
set_option maxHeartbeats 8000000 in
theorem yw1 (F:t8) (v:Value) (w:World) (hv:zn8 w v F) (hfl:(flatK F).length≤100000):Calls Tryz.prog 24 #[v] w (v49 F w):=by
 have K1:=qh (zw5 F v w hv hfl)
 obtain ⟨p,cap,rfl⟩:=hv.shape
 have hsl:(z42 0 F).length≤100000:=by rw [zt0];exact hfl
 clear hv hfl
 go_enter Tryz.func24,Tryz.ntmps24
 go_wp2_with fail
 refine K1.out.mono ?_
 rintro e w1 ⟨u,L,rfl,hp,hs,hL,hb⟩
 have hLl:L.length≤100000:=by have:=hp.length_eq;omega
 obtain ⟨pL,cL,rfl⟩:=hL.shape
 have HPS:=qh (And.intro hp hs)
 have HL:=qh hL
 have HB1:=qh hb
 clear hp hs hL hb hsl
 go_wp2_with fail
 go_loopw [4,5,11] (fun a b i wr=>∃ k:Nat,i = .int .i64 k∧k≤L.length∧zz0 w1 wr 65 2 a k (ivC ((L.take k).map fun s=>(s.1,s.2.1))) 3 1 b k (ixC ((L.take k).map fun s=>s.2.2))) (fun _ _ i _=>L.length - (intOf i).toNat)
 case atStart=>exact ⟨0,rfl,Nat.zero_le _,⟨World.ownsRow_nil _ _ _ _,World.ownsRow_nil _ _ _ _,fun _ h=>(by cases h),Below.refl _ _⟩⟩
 case round =>
  obtain ⟨k,rfl,hk,hT⟩:=hrel
  by_cases hlt:k<L.length
  ·obtain ⟨⟨x1,x2,x3⟩,hx⟩:∃ x,L[k]? = some x:=⟨L[k],by simp [hlt]⟩
   obtain ⟨b,o,e,c0,c1,c2⟩:=(HL.out.call hT.low).elem hx
   cases e
   obtain ⟨wE,hwE⟩:∃ wE,wr.alloc (.cells #[.int .u64 x1,.int .u64 x2,.int .i64 x3] 90)=wE:=⟨_,rfl⟩
   obtain ⟨Z,hZ⟩:∃ Z,wr.heap.size=Z:=⟨_,rfl⟩
   have hbE:Below wr.heap.size wr wE:=hwE ▸ z8 wr _
   have zE:Z≤wE.heap.size:=by rw [← hwE,← hZ];simp
   have HZE:=qh (And.intro zE (Nat.le_succ_of_le zE))
   clear zE
   have q0:wE.cell? ⟨Z,0,none⟩=some (.int .u64 x1):=by rw [← hwE,← hZ];simp
   have q1:wE.cell? ⟨Z,1,none⟩=some (.int .u64 x2):=by rw [← hwE,← hZ];simp
   have q2:wE.cell? ⟨Z,2,none⟩=some (.int .i64 x3):=by rw [← hwE,← hZ];simp
   have HNE:Hid ((∀ j,Z≤j→¬ u4.ownBlock=some j)∧(∀ j,Z≤j→¬ u5.ownBlock=some j)):=qh ⟨fun j hj e=>by have:=(g7 hT.r1 j e).2;omega,fun j hj e=>by have:=(g7 hT.r2 j e).2;omega⟩
   have HT:=qh (hT.below hbE)
   have HX:=qh (show (L.take (k+1)).map (fun s=>(s.1,s.2.1))=(L.take k).map (fun s=>(s.1,s.2.1)) ++ [(x1,x2)]∧(L.take (k+1)).map (fun s=>s.2.2)=(L.take k).map (fun s=>s.2.2) ++ [x3] by rw [List.take_add_one,hx];simp)
   have HLN:=qh (show k+1≤1000000 by omega)
   have hS:wE.cell? ⟨Z,0,none⟩=some (.int .u64 x1)∧wE.cell? ⟨Z,1,none⟩=some (.int .u64 x2)∧wE.cell? ⟨Z,2,none⟩=some (.int .i64 x3):=⟨q0,q1,q2⟩
   have i1:(0:Int)≤(k:Int):=by omega
   have i2:(k:Int)<(L.length:Int):=by omega
   have HLT:=qh hlt
   dsimp only at c0 c1 c2
   clear hx hT hbE hlt
   go_wp2_with fail
   clear hwE
   go_region_held3 (fun w'=>w'.cell? ⟨Z,0,none⟩=some (.int .u64 x1)∧w'.cell? ⟨Z,1,none⟩=some (.int .u64 x2)∧w'.cell? ⟨Z,2,none⟩=some (.int .i64 x3))
    (first
      | assumption
      | exact xq3 (by assumption) (Below.refl _ _).drew
      | exact xq3 (by assumption) (z8 _ _))
    (first
      | (refine zz0.app (w:=w1) rfl (by rfl) (.tmp 15) (.tmp 18) _ (by rfl) zb2 rfl (by decide) (by decide) Tryz.underlying42 (by rfl) (HTi.out.below (by first | exact Below.refl _ _ | exact (Below.refl _ _).drew | exact z8 _ _ | exact (z8 _ _).drew | exact z7 (z8 _ _) (z8 _ _) | exact (z7 (z8 _ _) (z8 _ _)).drew)) (by rfl) (xs := [.int .u64 x1,.int .u64 x2]) rfl (by first | exact HBv.out | exact yf5 ⟨by simp,by simp⟩) (fun u hu=>by simp at hu;first | (rcases hu with rfl | rfl <;> rfl) | (subst hu;rfl)) HLN.out ?_;intro vf wf hT1 hap;have HTf:=qh hT1;have hSf:wf.cell? ⟨Z,0,none⟩=some (.int .u64 x1)∧wf.cell? ⟨Z,1,none⟩=some (.int .u64 x2)∧wf.cell? ⟨Z,2,none⟩=some (.int .i64 x3):=zz1 (by assumption) hap (HNE.out.1 _ (Nat.le_refl _));(first | (have HBi:Hid (∀ (j:Nat) u,([Value.int .i64 x3]:List Value)[j]? = some u→wf.cell? ⟨wE.heap.size+1,j,none⟩=some u):=qh (yc8 hap (HNE.out.1 _ HZE.out.2))) | (have HBi:Hid (∀ (j:Nat) u,([Value.int .i64 x3]:List Value)[j]? = some u→wf.cell? ⟨wE.heap.size,j,none⟩=some u):=qh (yc9 hap (HNE.out.1 _ HZE.out.1))) | skip);clear hT1 hap)
      | (refine zz0.app (w:=w1) rfl (by rfl) (.tmp 20) (.tmp 23) _ (by rfl) xm0 rfl (by decide) (by decide) Tryz.underlying48 (by rfl) (HTa.out.below (by first | exact Below.refl _ _ | exact (Below.refl _ _).drew | exact z8 _ _ | exact (z8 _ _).drew | exact z7 (z8 _ _) (z8 _ _) | exact (z7 (z8 _ _) (z8 _ _)).drew)).swap (by rfl) (xs := [.int .i64 x3]) rfl (by first | exact HBi.out | exact yq5 (by simp)) (fun u hu=>by simp at hu;first | (rcases hu with rfl | rfl <;> rfl) | (subst hu;rfl)) HLN.out ?_;intro vf wf hT1 hap;have HTf:=qh hT1.swap;have hSf:wf.cell? ⟨Z,0,none⟩=some (.int .u64 x1)∧wf.cell? ⟨Z,1,none⟩=some (.int .u64 x2)∧wf.cell? ⟨Z,2,none⟩=some (.int .i64 x3):=zz1 (by assumption) hap (HNE.out.2 _ (Nat.le_refl _));(first | (have HBv:Hid (∀ (j:Nat) u,([Value.int .u64 x1,Value.int .u64 x2]:List Value)[j]? = some u→wf.cell? ⟨wE.heap.size+1,j,none⟩=some u):=qh (yc8 hap (HNE.out.2 _ HZE.out.2))) | (have HBv:Hid (∀ (j:Nat) u,([Value.int .u64 x1,Value.int .u64 x2]:List Value)[j]? = some u→wf.cell? ⟨wE.heap.size,j,none⟩=some u):=qh (yc9 hap (HNE.out.2 _ HZE.out.1))) | skip);clear hT1 hap)
      | (refine zz0.app (w:=w1) rfl (by rfl) (.tmp 15) (.tmp 18) _ (by rfl) zb2 rfl (by decide) (by decide) Tryz.underlying42 (by rfl) (HT.out.below (by first | exact Below.refl _ _ | exact (Below.refl _ _).drew | exact z8 _ _ | exact (z8 _ _).drew | exact z7 (z8 _ _) (z8 _ _) | exact (z7 (z8 _ _) (z8 _ _)).drew)) (by rfl) (xs := [.int .u64 x1,.int .u64 x2]) rfl (by first | exact HBv.out | exact yf5 ⟨by simp,by simp⟩) (fun u hu=>by simp at hu;first | (rcases hu with rfl | rfl <;> rfl) | (subst hu;rfl)) HLN.out ?_;intro vx wa hT1 hap;have HTa:=qh hT1;have hSa:wa.cell? ⟨Z,0,none⟩=some (.int .u64 x1)∧wa.cell? ⟨Z,1,none⟩=some (.int .u64 x2)∧wa.cell? ⟨Z,2,none⟩=some (.int .i64 x3):=zz1 (by assumption) hap (HNE.out.1 _ (Nat.le_refl _));(first | (have HBi:Hid (∀ (j:Nat) u,([Value.int .i64 x3]:List Value)[j]? = some u→wa.cell? ⟨wE.heap.size+1,j,none⟩=some u):=qh (yc8 hap (HNE.out.1 _ HZE.out.2))) | (have HBi:Hid (∀ (j:Nat) u,([Value.int .i64 x3]:List Value)[j]? = some u→wa.cell? ⟨wE.heap.size,j,none⟩=some u):=qh (yc9 hap (HNE.out.1 _ HZE.out.1))) | skip);clear hT1 hap)
      | (refine zz0.app (w:=w1) rfl (by rfl) (.tmp 20) (.tmp 23) _ (by rfl) xm0 rfl (by decide) (by decide) Tryz.underlying48 (by rfl) (HT.out.below (by first | exact Below.refl _ _ | exact (Below.refl _ _).drew | exact z8 _ _ | exact (z8 _ _).drew | exact z7 (z8 _ _) (z8 _ _) | exact (z7 (z8 _ _) (z8 _ _)).drew)).swap (by rfl) (xs := [.int .i64 x3]) rfl (by first | exact HBi.out | exact yq5 (by simp)) (fun u hu=>by simp at hu;first | (rcases hu with rfl | rfl <;> rfl) | (subst hu;rfl)) HLN.out ?_;intro vi wi hT1 hap;have HTi:=qh hT1.swap;have hSi:wi.cell? ⟨Z,0,none⟩=some (.int .u64 x1)∧wi.cell? ⟨Z,1,none⟩=some (.int .u64 x2)∧wi.cell? ⟨Z,2,none⟩=some (.int .i64 x3):=zz1 (by assumption) hap (HNE.out.2 _ (Nat.le_refl _));(first | (have HBv:Hid (∀ (j:Nat) u,([Value.int .u64 x1,Value.int .u64 x2]:List Value)[j]? = some u→wi.cell? ⟨wE.heap.size+1,j,none⟩=some u):=qh (yc8 hap (HNE.out.2 _ HZE.out.2))) | (have HBv:Hid (∀ (j:Nat) u,([Value.int .u64 x1,Value.int .u64 x2]:List Value)[j]? = some u→wi.cell? ⟨wE.heap.size,j,none⟩=some u):=qh (yc9 hap (HNE.out.2 _ HZE.out.1))) | skip);clear hT1 hap))
   all_goals
    go_wp2_with fail
    go_roundw
    case rel=>exact ⟨k+1,by go_num,HLT.out,by rw [HX.out.1,HX.out.2,zc3,w93];exact HTf.out⟩
    case measure=>have:=HLT.out;simp [intOf];omega
  ·obtain rfl:k=L.length:=by omega
   rw [List.take_length] at hT
   have hA:va7 wr u4 (L.map fun s=>(s.1,s.2.1)):=yk4 (by have:=hT.r1;rwa [show L.length=(L.map fun s=>(s.1,s.2.1)).length by simp] at this) (by simp;omega)
   have hB:yj8 wr u5 (L.map fun s=>s.2.2):=wg3 (B:=w1.heap.size) (by have:=hT.r2;rwa [show L.length=(L.map fun s=>s.2.2).length by simp] at this)
   have HR:=qh (And.intro hA (And.intro hB (z7 HB1.out hT.low)))
   clear hA hB hT
   go_wp2_with fail
   go_ret2
   exact ⟨_,_,L,rfl,HPS.out.1,HPS.out.2,HR.out.1,HR.out.2.1,HR.out.2.2⟩
end
section
open Go.RowKit
def yf6:v6 := [(1,3,[])]
def za2:t8 := [([(4,6)],yf6),([(1,3)],yf6)]
def z95:t8 := [([(1,6)],yf6)]
theorem zj5:s8 yf6:=xk8 1 3 (by decide) (by decide)
theorem z81:x9 za2:=fun x hx=>by
 simp [za2] at hx
 rcases hx with rfl | rfl
 ·exact ⟨z20 (by decide) (by decide) (by decide),zj5⟩
 ·exact ⟨z20 (by decide) (by decide) (by decide),zj5⟩
theorem zw8:x9 z95:=fun x hx=>by grind [z95,z20,zj5]
theorem x42:z58 za2:=⟨by decide,fun x hx=>by
 simp [za2] at hx
 rcases hx with rfl | rfl <;> exact ⟨by decide,by decide,fun y hy=>by rw [List.mem_singleton.1 hy];decide⟩⟩
theorem x43:apB za2=true:=by decide
theorem yf7:q6 (s5 za2)=z95:=by
 have c1:j8 yf6=yf6:=y92 zj5 fun y hy=>by rw [List.mem_singleton.1 hy];rfl
 rw [zm5 z81 ((ze2 z81).2 (of_decide_eq_true x43))]
 unfold q6
 simp only [za2,List.foldl,z01,c1]
 decide
theorem xy2:za5 z95=none:=by
 have h:=ze1 (z11 z81)
 rw [yf7] at h
 unfold za5
 rw [zp7 zw8]
 exact xq1 h (by decide)
theorem yq6:za5 za2=some (3,some 1):=by
 have r1:(zx6 yf6 && z31 yf6)=true:=by rw [zj2 zj5,xs2 zj5 (fun y hy=>by rw [List.mem_singleton.1 hy];rfl)];rfl
 have h0:zg8 za2 0=0:=by
  rw [zy9 (x:=([(4,6)],yf6)) rfl]
  dsimp only
  rw [r1]
  decide
 have h1:zg8 za2 1=3:=by
  rw [zy9 (x:=([(1,3)],yf6)) rfl]
  dsimp only
  rw [r1]
  decide
 grind [za5,zp7,z81,yq4,za2]
theorem xy3 {L:List Sg} (h:L.Perm (z42 0 z95)):L = [(1,6,0)]:=List.perm_singleton.1 h
set_option maxRecDepth 100000 in
set_option maxHeartbeats 4000000 in
theorem x44 (w:World) (hg:zh3 w):Calls Tryz.prog 10 #[] w (q8 true w):=by
 have HG_0:=qh hg;clear hg
 have K1:=qh (fun B W (hg:zh3 W) (h:z08 W (.slice (some ⟨B,0,none⟩) 2 2) za2)=>(by have k:=y44 za2 (.slice (some ⟨B,0,none⟩) 2 2) W hg.d h z81 x42.midI (fun e=>by rw [x43] at e;cases e);rw [yf7] at k;exact k:Calls Tryz.prog 17 #[.slice (some ⟨B,0,none⟩) 2 2] W (xm1 z95 W)))
 have K2:=qh (fun v W (h:z08 W v z95)=>yw1 z95 v W h.m.i (by decide))
 have K3:=qh (fun s u W h h2=>(by have k:=ya2 z95 z95 s u W h h2;rw [show decide (z95=z95)=true from by simp] at k;exact k:Calls Tryz.prog 18 #[s,u] W (q8 true W)))
 have K4:=qh (fun v W (hg:zh3 W) (h:z08 W v z95)=>(by have k:=ze7 z95 v W hg.e h (fun _=>zw8) (by decide);rw [xy2] at k;exact k:Calls Tryz.prog 15 #[v] W (q8 true W)))
 have K5:=qh (fun B W (hg:zh3 W) (h:z08 W (.slice (some ⟨B,0,none⟩) 2 2) za2)=>(by have k:=ze7 za2 (.slice (some ⟨B,0,none⟩) 2 2) W hg.e h (fun _=>z81) (by decide);rw [yq6] at k;exact k:Calls Tryz.prog 15 #[.slice (some ⟨B,0,none⟩) 2 2] W (q8 false W)))
 have K6:=qh (fun v t W (h:z08 W v z95)=>xx5 z95 v t W h.m.i fun x hx=>(zw8 x hx).1.can)
 have K7:=qh (fun s u W h h2=>(by have k:=xi3 [0] [0] s u W h h2;rw [show decide (([0]:List Int) = [0])=true from by simp] at k;exact k:Calls Tryz.prog 27 #[s,u] W (q8 true W)))
 have K8:=qh (fun B W (hg:zh3 W) (h:z08 W (.slice (some ⟨B,0,none⟩) 2 2) za2)=>(by have k:=yf4 za2 (.slice (some ⟨B,0,none⟩) 2 2) W hg.e h (fun _=>z81) (by decide);rw [yq6] at k;exact k:Calls Tryz.prog 11 #[.slice (some ⟨B,0,none⟩) 2 2] W (z72 (some (3,some 1)) W)))
 have K9:=qh (fun W (hg:zh3 W)=>zz2 (some (3,some 1)) W hg.e)
 obtain ⟨te,ue,hue⟩:=z37 (x:=some ((3:Int),some (1:Int))) (by simp)
 unfold z72 at K8
 rw [hue] at K8 K9
 clear hue
 obtain ⟨w1,hw1⟩:∃ w',w.alloc (.cells #[.int .u64 1,.int .u64 3,.slice none 0 0] 63)=w':=⟨_,rfl⟩
 have h:Below w.heap.size w w1:=hw1 ▸ z8 w _
 have HG_1:=qh (HG_0.out.here h)
 clear HG_0
 have HB_1:=qh h
 clear h
 have HU_1:=qh (show z30 w1 (.slice (some ⟨w.heap.size,0,none⟩) 1 1) yf6 from w18 (by rw [← hw1];simp) (by rw [← hw1];simp) (by rw [← hw1];simp) (by omega) (by omega))
 obtain ⟨w2,hw2⟩:∃ w',w1.alloc (.cells #[.int .u64 4,.int .u64 6] 65)=w':=⟨_,rfl⟩
 have h:Below w1.heap.size w1 w2:=hw2 ▸ z8 w1 _
 have HG_2:=qh (HG_1.out.here h)
 clear HG_1
 have HU_2:=qh (HU_1.out.call h)
 clear HU_1
 have HB_2:=qh (z7 HB_1.out h)
 clear h
 have HI_2:=qh (hw2 ▸ xk0 w1 4 6 65 _ rfl)
 obtain ⟨w3,hw3⟩:∃ w',w2.alloc (.cells #[.int .u64 1,.int .u64 3] 65)=w':=⟨_,rfl⟩
 have h:Below w2.heap.size w2 w3:=hw3 ▸ z8 w2 _
 have HG_3:=qh (HG_2.out.here h)
 clear HG_2
 have HU_3:=qh (HU_2.out.call h)
 clear HU_2
 have HI_3:=qh (HI_2.out.call h)
 clear HI_2
 have HB_3:=qh (z7 HB_2.out h)
 clear h
 have HJ_3:=qh (hw3 ▸ xk0 w2 1 3 65 _ rfl)
 obtain ⟨w4,hw4⟩:∃ w',w3.alloc (.cells #[.slice (some ⟨w1.heap.size,0,none⟩) 1 1,.slice (some ⟨w.heap.size,0,none⟩) 1 1,.slice (some ⟨w2.heap.size,0,none⟩) 1 1,.slice (some ⟨w.heap.size,0,none⟩) 1 1] 46)=w':=⟨_,rfl⟩
 have h:Below w3.heap.size w3 w4:=hw4 ▸ z8 w3 _
 have HG_4:=qh (HG_3.out.here h)
 clear HG_3
 have HU_4:=qh (HU_3.out.call h)
 clear HU_3
 have HI_4:=qh (HI_3.out.call h)
 clear HI_3
 have HJ_4:=qh (HJ_3.out.call h)
 clear HJ_3
 have HB_4:=qh (z7 HB_3.out h)
 clear h
 have HV_4:=qh (show z08 w4 (.slice (some ⟨w3.heap.size,0,none⟩) 2 2) za2 from wr0 (by rw [← hw4];simp) (by rw [← hw4];simp) (by rw [← hw4];simp) (by rw [← hw4];simp) ⟨HI_4.out,yx9 (by omega) (by omega),a7 _ _ _ (Nat.le_refl _),HU_4.out⟩ ⟨HJ_4.out,yx9 (by omega) (by omega),a7 _ _ _ (Nat.le_refl _),HU_4.out⟩)
 clear HI_4
 clear HJ_4
 go_enter Tryz.func10,Tryz.ntmps10
 go_wp2_with fail
 clear hw1 hw2 hw3 hw4
 refine (K1.out _ _ HG_4.out HV_4.out).mono ?_
 rintro e w5 ⟨u,rfl,hu,_,h⟩
 obtain ⟨pu,cu,rfl⟩:=hu.m.shape
 have HG_5:=qh (HG_4.out.here h)
 clear HG_4
 have HU_5:=qh (HU_4.out.call h)
 clear HU_4
 have HV_5:=qh (HV_4.out.call h)
 clear HV_4
 have HB_5:=qh (z7 HB_4.out h)
 clear h
 have HC_5:=qh (hu)
 clear hu
 go_wp2_with fail
 refine (K2.out _ _ HC_5.out).mono ?_
 rintro e w6 ⟨s1,s2,L,rfl,hp,_,hs1,hs2,h⟩
 obtain rfl:=xy3 hp
 obtain ⟨p1,c1,rfl,_⟩:=hs1.shape
 obtain ⟨p2,c2,rfl⟩:∃ p c,s2 = .slice p 1 c:=(by obtain ⟨p,c,e,_⟩:=hs2;exact ⟨p,c,e⟩)
 clear hp hs1
 have HG_6:=qh (HG_5.out.here h)
 clear HG_5
 have HU_6:=qh (HU_5.out.call h)
 clear HU_5
 have HV_6:=qh (HV_5.out.call h)
 clear HV_5
 have HC_6:=qh (HC_5.out.call h)
 clear HC_5
 have HB_6:=qh (z7 HB_5.out h)
 clear h
 have HX_6:=qh (show yj8 w6 _ [0] from hs2)
 clear hs2
 obtain ⟨w7,hw7⟩:∃ w',w6.alloc (.cells #[.int .u64 1,.int .u64 6] 65)=w':=⟨_,rfl⟩
 have h:Below w6.heap.size w6 w7:=hw7 ▸ z8 w6 _
 have HG_7:=qh (HG_6.out.here h)
 clear HG_6
 have HU_7:=qh (HU_6.out.call h)
 clear HU_6
 have HV_7:=qh (HV_6.out.call h)
 clear HV_6
 have HC_7:=qh (HC_6.out.call h)
 clear HC_6
 have HX_7:=qh (HX_6.out.call h)
 clear HX_6
 have HB_7:=qh (z7 HB_6.out h)
 clear h
 have HI_7:=qh (hw7 ▸ xk0 w6 1 6 65 _ rfl)
 obtain ⟨w8,hw8⟩:∃ w',w7.alloc (.cells #[.slice (some ⟨w6.heap.size,0,none⟩) 1 1,.slice (some ⟨w.heap.size,0,none⟩) 1 1] 46)=w':=⟨_,rfl⟩
 have h:Below w7.heap.size w7 w8:=hw8 ▸ z8 w7 _
 have HG_8:=qh (HG_7.out.here h)
 clear HG_7
 have HU_8:=qh (HU_7.out.call h)
 clear HU_7
 have HV_8:=qh (HV_7.out.call h)
 clear HV_7
 have HC_8:=qh (HC_7.out.call h)
 clear HC_7
 have HX_8:=qh (HX_7.out.call h)
 clear HX_7
 have HI_8:=qh (HI_7.out.call h)
 clear HI_7
 have HB_8:=qh (z7 HB_7.out h)
 clear h
 have HD_8:=qh (show z08 w8 (.slice (some ⟨w7.heap.size,0,none⟩) 1 1) z95 from wr1 (by rw [← hw8];simp) (by rw [← hw8];simp) ⟨HI_8.out,yx9 (by omega) (by omega),a7 _ _ _ (Nat.le_refl _),HU_8.out⟩)
 clear HI_8
 clear HU_8
 go_wp2_with fail
 clear hw7 hw8
 refine (K3.out _ _ _ HC_8.out.m.i HD_8.out.m.i).mono ?_
 rintro e w9 ⟨rfl,h⟩
 have HG_9:=qh (HG_8.out.here h)
 clear HG_8
 have HV_9:=qh (HV_8.out.call h)
 clear HV_8
 have HC_9:=qh (HC_8.out.call h)
 clear HC_8
 have HX_9:=qh (HX_8.out.call h)
 clear HX_8
 have HD_9:=qh (HD_8.out.call h)
 clear HD_8
 have HB_9:=qh (z7 HB_8.out h)
 clear h
 clear HD_9
 go_wp2_with fail
 refine (K4.out _ _ HG_9.out HC_9.out).mono ?_
 rintro e w10 ⟨rfl,h⟩
 have HG_10:=qh (HG_9.out.here h)
 clear HG_9
 have HV_10:=qh (HV_9.out.call h)
 clear HV_9
 have HC_10:=qh (HC_9.out.call h)
 clear HC_9
 have HX_10:=qh (HX_9.out.call h)
 clear HX_9
 have HB_10:=qh (z7 HB_9.out h)
 clear h
 go_wp2_with fail
 refine (K5.out _ _ HG_10.out HV_10.out).mono ?_
 rintro e w11 ⟨rfl,h⟩
 have HG_11:=qh (HG_10.out.here h)
 clear HG_10
 have HV_11:=qh (HV_10.out.call h)
 clear HV_10
 have HC_11:=qh (HC_10.out.call h)
 clear HC_10
 have HX_11:=qh (HX_10.out.call h)
 clear HX_10
 have HB_11:=qh (z7 HB_10.out h)
 clear h
 go_wp2_with fail
 refine (K6.out _ 5 _ HC_11.out).mono ?_
 rintro e w12 ⟨rfl,h⟩
 rw [show yq1 z95 5=0 by decide]
 have HG_12:=qh (HG_11.out.here h)
 clear HG_11
 have HV_12:=qh (HV_11.out.call h)
 clear HV_11
 have HC_12:=qh (HC_11.out.call h)
 clear HC_11
 have HX_12:=qh (HX_11.out.call h)
 clear HX_11
 have HB_12:=qh (z7 HB_11.out h)
 clear h
 go_wp2_with fail
 refine (K6.out _ 7 _ HC_12.out).mono ?_
 rintro e w13 ⟨rfl,h⟩
 rw [show yq1 z95 7 = -1 by decide]
 have HG_13:=qh (HG_12.out.here h)
 clear HG_12
 have HV_13:=qh (HV_12.out.call h)
 clear HV_12
 have HC_13:=qh (HC_12.out.call h)
 clear HC_12
 have HX_13:=qh (HX_12.out.call h)
 clear HX_12
 have HB_13:=qh (z7 HB_12.out h)
 clear h
 obtain ⟨w14,hw14⟩:∃ w',w13.alloc (.cells #[.int .i64 0] 3)=w':=⟨_,rfl⟩
 have h:Below w13.heap.size w13 w14:=hw14 ▸ z8 w13 _
 have HG_14:=qh (HG_13.out.here h)
 clear HG_13
 have HV_14:=qh (HV_13.out.call h)
 clear HV_13
 have HC_14:=qh (HC_13.out.call h)
 clear HC_13
 have HX_14:=qh (HX_13.out.call h)
 clear HX_13
 have HB_14:=qh (z7 HB_13.out h)
 clear h
 have HY_14:=qh (show yj8 w14 (.slice (some ⟨w13.heap.size,0,none⟩) 1 1) [0] from ⟨_,_,rfl,by unfold maxLen;simp,fun _=>⟨w13.heap.size,0,rfl,fun i x hx=>by
  match i,hx with
  | 0,hx=>simp at hx;subst hx;rw [← hw14];simp
  | i+1,hx=>simp at hx⟩⟩)
 go_wp2_with fail
 clear hw14
 refine (K7.out _ _ _ HX_14.out HY_14.out).mono ?_
 rintro e w15 ⟨rfl,h⟩
 have HG_15:=qh (HG_14.out.here h)
 clear HG_14
 have HV_15:=qh (HV_14.out.call h)
 clear HV_14
 have HC_15:=qh (HC_14.out.call h)
 clear HC_14
 have HX_15:=qh (HX_14.out.call h)
 clear HX_14
 have HY_15:=qh (HY_14.out.call h)
 clear HY_14
 have HB_15:=qh (z7 HB_14.out h)
 clear h
 go_wp2_with fail
 refine (K8.out _ _ HG_15.out HV_15.out).mono ?_
 rintro e w16 ⟨rfl,h⟩
 have HG_16:=qh (HG_15.out.here h)
 clear HG_15
 have HV_16:=qh (HV_15.out.call h)
 clear HV_15
 have HC_16:=qh (HC_15.out.call h)
 clear HC_15
 have HX_16:=qh (HX_15.out.call h)
 clear HX_15
 have HY_16:=qh (HY_15.out.call h)
 clear HY_15
 have HB_16:=qh (z7 HB_15.out h)
 clear h
 go_wp2_with fail
 refine (K9.out _ HG_16.out).mono ?_
 rintro e w17 ⟨rfl,h⟩
 rw [show c5 (some ((3:Int),some (1:Int)))=3 from rfl]
 have HG_17:=qh (HG_16.out.here h)
 clear HG_16
 have HV_17:=qh (HV_16.out.call h)
 clear HV_16
 have HC_17:=qh (HC_16.out.call h)
 clear HC_16
 have HX_17:=qh (HX_16.out.call h)
 clear HX_16
 have HY_17:=qh (HY_16.out.call h)
 clear HY_16
 have HB_17:=qh (z7 HB_16.out h)
 clear h
 go_wp2_with fail
 go_ret
 exact ⟨rfl,HB_17.out⟩
theorem y55.right13 {w:World} {v:Value} (h:y55 w v):(∃ p n c,v = .slice p n c)∧∃ b,(∀ W,Below w.heap.size w W→Calls Tryz.prog 16 #[v] W (q8 b W))∧(b=true→∃ F,z08 w v F∧z58 F∧x9 F):=by
 obtain ⟨⟨p,n,c,rfl⟩,b0,h1,h2⟩:=h.few
 refine ⟨⟨p,n,c,rfl⟩,?_⟩
 cases b0 with
 | false =>
   refine ⟨false,fun W hb => ?_,fun e=>by cases e⟩
   have K:=qh (h1 W hb)
   clear h1 h2 h
   go_enter Tryz.func16,Tryz.ntmps16
   go_wp2_with (first | (go_at_call 9;refine K.out.mono ?_;rintro e w1 ⟨rfl,h1⟩))
   go_ret
   exact ⟨rfl,h1⟩
 | true =>
   obtain ⟨F,hF,hs⟩:=h2 rfl
   have h64:=hF.m.all1
   refine ⟨zn6 F,fun W hb => ?_,fun e=>⟨F,hF,hs,yj4 h64.1 h64.2 e⟩⟩
   have K:=qh (h1 W hb)
   have K2:=qh (fun W' (hb':Below W.heap.size W W')=>yj6 F (.slice p n c) W' ((hF.m.call hb).call hb'))
   generalize zn6 F=rb at *
   clear h1 h2 h hF hs h64
   go_enter Tryz.func16,Tryz.ntmps16
   go_wp2_with (first | (go_at_call 9;refine K.out.mono ?_;rintro e w1 ⟨rfl,h1⟩;have H1:=qh h1;clear h1) | (go_at_call 40;refine (K2.out _ H1.out).mono ?_;rintro e w2 ⟨rfl,h2⟩))
   go_ret
   exact ⟨rfl,z7 H1.out h2⟩
end
end Go.Proofs.YtchndljcahjldaaGreatDoor
