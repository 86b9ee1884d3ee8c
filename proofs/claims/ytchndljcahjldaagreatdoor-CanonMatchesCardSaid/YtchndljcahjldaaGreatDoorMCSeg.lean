/- The intervals of knowledge with the indices of their fragments, in memory: what package canon sorts. -/
import Derived.Deep.AppendLies
import Derived.Test.YtchndljcahjldaaGreatDoorMZAlive
import Derived.Test.YtchndljcahjldaaGreatDoorMSSortP
namespace Go.Proofs.YtchndljcahjldaaGreatDoor
section
open Go.RowKit
variable {W:World} {v:Value} {B:Nat}
abbrev Sg:=Int × Int × Int
def sgC (l:List Sg):List Value:=l.flatMap fun s => [.int .u64 s.1,.int .u64 s.2.1,.int .i64 s.2.2]
theorem w77 (l:List Sg) (s:Sg):sgC (l ++ [s])=sgC l ++ [.int .u64 s.1,.int .u64 s.2.1,.int .i64 s.2.2]:=by unfold sgC;rw [List.flatMap_append];rfl
def z42:Nat→t8→List Sg
 | _,[] => []
 | i,x :: F=>(x.1.map fun s=>(s.1,s.2,(i:Int)))++z42 (i+1) F
theorem yp9:∀ {F:t8} {i k:Nat} {x:List Iv × v6},F[k]? = some x→z42 i (F.take (k+1))=z42 i (F.take k)++x.1.map fun s=>(s.1,s.2,((i+k:Nat):Int))
 | [],_,_,_,h=>by simp at h
 | y :: F,i,0,x,h=>by grind [z42]
 | y :: F,i,k+1,x,h=>by
   have ih:=yp9 (F:=F) (i:=i+1) (k:=k) (x:=x) (by simpa using h)
   grind [z42,List.append_assoc]
def z93 (W:World) (B:Nat) (v:Value) (L:List Sg):Prop:=W.ownsRow B 90 3 v L.length (sgC L)
theorem w78:(Tryz.prog.info? 90).map (fun i=>(i.zero,i.size,i.bytes))=some (some (.agg #[.int .u64 0,.int .u64 0,.int .i64 0]),3,24):=by kernel_rfl
theorem yv6 (l:List Sg):(sgC l).length=l.length*3:=by
 induction l with
 | nil=>rfl
 | cons s l ih =>
   unfold sgC at ih ⊢
   rw [List.flatMap_cons,List.length_append,ih,List.length_cons]
   simp
   omega
theorem zw3:∀ (l:List Sg) (i:Nat) (x:Sg),l[i]? = some x→(sgC l)[i*3]? = some (.int .u64 x.1)∧(sgC l)[i*3+1]? = some (.int .u64 x.2.1)∧(sgC l)[i*3+2]? = some (.int .i64 x.2.2)
 | [],_,_,h=>by simp at h
 | y :: l,0,x,h=>by
   simp at h
   subst h
   exact ⟨rfl,rfl,rfl⟩
 | y :: l,i+1,x,h=>by
   have ih:=zw3 l i x (by simpa using h)
   have e:∀ j,(sgC (y :: l))[j+3]? = (sgC l)[j]? := fun j=>by unfold sgC;simp [List.flatMap_cons]
   rw [show (i+1)*3=i*3+3 by omega,show i*3+3+1=i*3+1+3 by omega,show i*3+3+2=i*3+2+3 by omega,e,e,e]
   exact ih
def zm4 (W:World) (v:Value) (L:List Sg):Prop:=
 ∃ p cap,v = .slice p L.length cap∧L.length≤1048576∧(L ≠ []→∃ b o,p=some ⟨b,o,none⟩∧∀ (i:Nat) x,L[i]? = some x→W.cell? ⟨b,o+i*3,none⟩=some (.int .u64 x.1)∧W.cell? ⟨b,o+i*3+1,none⟩=some (.int .u64 x.2.1)∧W.cell? ⟨b,o+i*3+2,none⟩=some (.int .i64 x.2.2))
theorem zm4.call {W1:World} {L:List Sg} (h:zm4 W v L) (hb:Below W.heap.size W W1):zm4 W1 v L:=by
 obtain ⟨p,cap,e,h2,h3⟩:=h
 refine ⟨p,cap,e,h2,fun hne => ?_⟩
 obtain ⟨b,o,e2,h4⟩:=h3 hne
 refine ⟨b,o,e2,fun i x hx => ?_⟩
 obtain ⟨c0,c1,c2⟩:=h4 i x hx
 exact ⟨z6 c0 hb,z6 c1 hb,z6 c2 hb⟩
theorem zm4.shape {L:List Sg} (h:zm4 W v L):∃ p cap,v = .slice p L.length cap:=by
 obtain ⟨p,cap,e,_⟩:=h
 exact ⟨p,cap,e⟩
theorem zm4.elem {p:Option Addr} {n cap:Nat} {L:List Sg} {i:Nat} {x:Sg} (h:zm4 W (.slice p n cap) L) (hx:L[i]? = some x):∃ b o,p=some ⟨b,o,none⟩∧W.cell? ⟨b,o+i*3,none⟩=some (.int .u64 x.1)∧W.cell? ⟨b,o+i*3+1,none⟩=some (.int .u64 x.2.1)∧W.cell? ⟨b,o+i*3+2,none⟩=some (.int .i64 x.2.2):=by
 obtain ⟨p',cap',e,_,h3⟩:=h
 cases e
 obtain ⟨b,o,e2,h4⟩:=h3 (by rintro rfl;simp at hx)
 exact ⟨b,o,e2,h4 i x hx⟩
theorem z93.at {L:List Sg} (h:z93 W B v L) (hl:L.length≤1048576):zm4 W v L:=by
 have h':=h
 rcases h.2 with ⟨rfl,h0⟩ | ⟨g,cap,cur,rfl,_⟩
 ·exact ⟨none,0,by rw [h0],hl,fun hne=>absurd (List.eq_nil_of_length_eq_zero h0) hne⟩
 ·refine ⟨_,cap,rfl,hl,fun _=>⟨g,0,rfl,fun i x hx => ?_⟩⟩
  have hi:=(List.getElem?_eq_some_iff.1 hx).1
  obtain ⟨c0,c1,c2⟩:=zw3 L i x hx
  unfold z93 at h'
  rw [Nat.zero_add,h'.cellAt _ (by omega),h'.cellAt _ (by omega),h'.cellAt _ (by omega)]
  exact ⟨c0,c1,c2⟩
theorem z93.push {L:List Sg} (h:z93 W B v L) (hB:B≤W.heap.size) (s:Sg) (hl:L.length≤100000) {T0 ty:TypeId} (hT:Tryz.prog.underlying T0=some (.slice 90)) :
 ∃ v' W1,(Builtin.append_ #[T0,T0] ty #[v,.slice (some ⟨W.heap.size,0,none⟩) 1 1]).run Tryz.prog (W.alloc (.cells #[.int .u64 s.1,.int .u64 s.2.1,.int .i64 s.2.2] 90)) = .ok v' W1∧(∃ p c,v' = .slice p (L.length+1) c)∧z93 W1 B v' (L ++ [s])∧Below B W W1:=by
 obtain ⟨i0,hi',hz0,hz1,hz2⟩:=info_parts w78
 have hbn:=z8 W (.cells #[.int .u64 s.1,.int .u64 s.2.1,.int .i64 s.2.2] 90)
 obtain ⟨v',W1,hr,h1,h2,_,h3⟩:=run_append_own_at (P:=Tryz.prog) (W.alloc (.cells #[.int .u64 s.1,.int .u64 s.2.1,.int .i64 s.2.2] 90)) B T0 ty 90 i0 (.agg #[.int .u64 0,.int .u64 0,.int .i64 0]) 3 24 hT hi' hz0 hz1 hz2 rfl (by decide) v L.length (sgC L) (y6 h hbn) ⟨W.heap.size,0,none⟩ 1 1 [.int .u64 s.1,.int .u64 s.2.1,.int .i64 s.2.2] rfl (World.news_of_block (heap_alloc_new _ _)) (fun x hx=>by
  simp at hx
  rcases hx with rfl | rfl | rfl <;> rfl) (by unfold maxLen;omega) (by omega) (Nat.le_trans hB hbn.size)
 have k1:y5 (fun j=>v.ownBlock=some j) W W1:=(y5.alloc _ W _).trans (y5.of_grown h2 fun r hr=>hr)
 have hG:z93 W1 B v' (L ++ [s]):=by
  unfold z93
  rw [List.length_append,w77]
  exact h1
 obtain ⟨p,c,e,_⟩:=y8 h1
 exact ⟨v',W1,hr,⟨p,c,e⟩,hG,k1.below hB fun j hj hj2=>by have:=(g7 h j hj2).1;omega⟩
end
section
open Go.RowKit Go.Shelf Go.Lib
open Go.Sort hiding Below
variable {w:World} {n cap:Nat}
def zw4 (x:Sg):List Value := [.int .u64 x.1,.int .u64 x.2.1,.int .i64 x.2.2]
def y85 (x y:Sg):Int:=y70 x.1 y.1
theorem yv7 (x y:Sg) (W:World):Calls Tryz.prog 75 #[.agg (zw4 x).toArray,.agg (zw4 y).toArray] W fun e w'=>e = .returned (.int .i64 (y85 x y))∧∃ q os',w'=grow (W.drewN q) os':=by
 have hcon:=qh (fun W'=>xu0 x.1 y.1 W')
 unfold y85
 unfold zw4
 generalize y70 x.1 y.1=r at hcon ⊢
 obtain ⟨x1,x2,x3⟩:=x
 obtain ⟨y1,y2,y3⟩:=y
 dsimp only at hcon ⊢
 go_enter Tryz.func75,Tryz.ntmps75
 go_wp2_with fail
 refine (hcon.out _).mono ?_
 rintro e w' ⟨rfl,rfl⟩
 go_wp2_with fail
 go_ret
 exact ⟨rfl,0,_,by rw [alloc_eq_grow,alloc_eq_grow,grow_grow];rfl⟩
theorem xp6 (x y:Sg):ltOf y85 x y=decide (x.1<y.1):=by
 unfold ltOf y85 y70
 by_cases h1:x.1<y.1
 ·simp [h1]
 ·by_cases h2:y.1<x.1 <;> simp [h1,h2]
theorem w79:Sort.SWO (ltOf y85) where
 irrefl x:=by rw [xp6];simp
 trans x y z h1 h2:=by rw [xp6] at *;simp at *;omega
 ntrans x y z h1 h2:=by rw [xp6] at *;simp at *;omega
theorem yn8 (B:Nat) (w:World) (blk m:Nat) (dk:Array Sg) (os:Array Obj) (hB:B≤blk) (hblk:blk<w.heap.size):Below B w (sortWorldK zw4 3 w blk 0 m dk os):=by
 have h1:Below B w (Sort.putRow id (Sort.ahead w m) blk 0 (Go.Sort.flatK zw4 3 dk)):=
  ⟨rfl,rfl,rfl,by simp [Sort.putRow,Sort.mapBlock,Sort.ahead],fun k hk=>by
   simp [Sort.putRow,Sort.mapBlock,Sort.ahead,Array.getElem?_modify,show blk≠k by omega]⟩
 refine ⟨rfl,rfl,rfl,Nat.le_trans h1.size ?_,fun k hk => ?_⟩
 ·show _≤((Sort.putRow id (Sort.ahead w m) blk 0 (Go.Sort.flatK zw4 3 dk)).heap++os).size
  rw [Array.size_append];omega
 ·show ((Sort.putRow id (Sort.ahead w m) blk 0 (Go.Sort.flatK zw4 3 dk)).heap++os)[k]? = _
  rw [Array.getElem?_append_left (by have:=h1.size;omega)]
  exact h1.block k hk
theorem x35 (d:Array Sg) (i:Nat) (hi:i<d.size):(Go.Sort.flatK zw4 3 d)[i*3]! = .int .u64 (d[i]!).1∧(Go.Sort.flatK zw4 3 d)[i*3+1]! = .int .u64 (d[i]!).2.1∧(Go.Sort.flatK zw4 3 d)[i*3+2]! = .int .i64 (d[i]!).2.2:=by
 rw [get_flatK _ _ _ _ (by omega),get_flatK _ _ _ _ (by omega),get_flatK _ _ _ _ (by omega),show i*3 / 3=i by omega,show i*3 % 3=0 by omega,show (i*3+1) / 3=i by omega,show (i*3+1) % 3=1 by omega,show (i*3+2) / 3=i by omega,show (i*3+2) % 3=2 by omega]
 exact ⟨rfl,rfl,rfl⟩
theorem yn9 {B g:Nat} {L:List Sg} (h:z93 w B (.slice (some ⟨g,0,none⟩) n cap) L) (hn:n=L.length):HoldsK zw4 3 w g 0 L.toArray:=by
 subst hn
 intro j hj
 rw [size_flatK] at hj
 have hj2:j<L.length*3:=by simpa using hj
 rw [Nat.zero_add]
 unfold z93 at h
 refine ⟨?_,h.frozenAt j⟩
 rw [h.cellAt j hj2]
 have hx:j / 3<L.length:=by omega
 have hf:=zw3 L (j / 3) L[j / 3] (by simp [hx])
 have hg:=x35 L.toArray (j / 3) (by simpa using hx)
 have e:L.toArray[j / 3]! = L[j / 3]:=by simp [hx]
 rw [e] at hg
 rcases (show j % 3=0∨j % 3=1∨j % 3=2 by omega) with h0 | h0 | h0
 ·have ej:j / 3*3=j:=by omega
  rw [ej] at hf hg
  rw [hg.1];exact hf.1
 ·have ej:j / 3*3+1=j:=by omega
  rw [ej] at hf hg
  rw [hg.2.1];exact hf.2.1
 ·have ej:j / 3*3+2=j:=by omega
  rw [ej] at hf hg
  rw [hg.2.2];exact hf.2.2
theorem yv8 {blk:Nat} {d:Array Sg} (h:HoldsK zw4 3 w blk 0 d) (hn:n=d.size) (hl:d.size≤1048576):zm4 w (.slice (some ⟨blk,0,none⟩) n cap) d.toList:=by
 subst hn
 refine ⟨_,cap,by simp,by simpa using hl,fun _=>⟨blk,0,rfl,fun i x hi => ?_⟩⟩
 have hlt:i<d.size:=by simpa using (List.getElem?_eq_some_iff.1 hi).1
 have ex:d[i]! = x:=by
  have:=(List.getElem?_eq_some_iff.1 hi).2
  rw [getElem!_pos d i hlt];simpa using this
 have hf:=x35 d i hlt
 rw [ex] at hf
 have h0:=(h (i*3) (by rw [size_flatK];omega)).1
 have h1:=(h (i*3+1) (by rw [size_flatK];omega)).1
 have h2:=(h (i*3+2) (by rw [size_flatK];omega)).1
 rw [hf.1] at h0
 rw [hf.2.1] at h1
 rw [hf.2.2] at h2
 exact ⟨by simpa using h0,by simpa [Nat.add_assoc] using h1,by simpa [Nat.add_assoc] using h2⟩
def zb3 (L:List Sg):Prop:=L.Pairwise fun a b=>a.1≤b.1
def xw8 (L:List Sg) (g cap:Nat) (w:World) (e:Ending) (w':World):Prop:=
 e = .returned (.tuple #[])∧∃ d:List Sg,d.Perm L∧zb3 d∧zm4 w' (.slice (some ⟨g,0,none⟩) L.length cap) d∧Below g w w'
set_option maxRecDepth 100000 in
set_option maxHeartbeats 2000000 in
theorem xw9 (L:List Sg) (B g cap:Nat) (w:World) (hown:z93 w B (.slice (some ⟨g,0,none⟩) L.length cap) L) (hlen:L.length≤1048576) :
 Calls Tryz.prog 74 #[.slice (some ⟨g,0,none⟩) L.length cap,.func (.func 75) #[] #[]] w (xw8 L g cap w):=by
 have hblk:g<w.heap.size:=by
  unfold z93 at hown
  exact (hown.lt g rfl).2
 have hH:=yn9 hown rfl
 have eg:∀ args w,(callFunc 75 args).run Tryz.prog w = .ok (.enter 75 args) w:=enters_of Tryz.func75 (by kernel_rfl) rfl
 have hsz:L.toArray.size=L.length:=by simp
 have hlim:Lib.bitLen L.length<4611686018427387904:=Nat.lt_of_le_of_lt (Lib.bitLen_le L.length 62 (by omega) (by omega)) (by omega)
 have hp:=AnyQ.pdqsortCmpFunc_all Tryz.pdqSg 3 Tryz.isAgg90 Tryz.sizeOf90 zw4 y85 75 #[] w79 g 0 cap L.toArray w eg
  (fun m os dk _ x y=>yv7 x y _) ⟨fun _=>rfl,fun x v hv=>by simp [zw4] at hv;rcases hv with rfl | rfl | rfl <;> rfl,hH,hblk⟩ (L.length+1) 0 L.length (Lib.bitLen L.length) L.toArray w (by omega) rfl (SWK.start hH) (Nat.zero_le _) (by rw [hsz];exact Nat.le_refl _) (by rw [hsz];omega) hlim (Or.inl rfl)
 change Calls Tryz.prog 127 _ _ _ at hp
 rw [hsz] at hp
 have hsorts:=Sort.pdq_sorts (ltOf y85) w79 L.toArray 0 L.length (Lib.bitLen L.length) true true (Nat.zero_le _) (by rw [hsz];exact Nat.le_refl _) (Or.inl rfl)
 have hl:Calls Tryz.prog 128 #[.int .u64 (L.length:Int)] w fun e w'=>e = .returned (.int .i64 (Lib.bitLen L.length:Nat))∧w'=w:=by
  have h:=Tryz.bits_Len (L.length:Int) w (by omega) (by omega)
  rwa [Int.toNat_natCast] at h
 have HS:=qh hsorts;clear hsorts
 generalize Sort.pdq (ltOf y85) L.toArray 0 L.length (Lib.bitLen L.length) true true=d' at *
 generalize Lib.bitLen L.length=bl at *
 have HP:=qh hp;clear hp
 have HL:=qh hl;clear hl
 have wr:IntKind.u64.wrap (L.length:Int)=L.length:=by simp [IntKind.wrap,IntKind.bits,IntKind.signed];omega
 have HH:=qh hH;clear hH
 clear hown eg
 go_enter Tryz.func74,Tryz.ntmps74
 go_wp2_with fail
 refine HL.out.mono ?_
 rintro e w' ⟨rfl,rfl⟩
 go_wp2_with fail
 refine HP.out.mono ?_
 rintro e w2 ⟨rfl,n,os,rfl⟩
 go_wp2_with fail
 go_end0
 obtain ⟨⟨p1,p2,p3⟩,s1⟩:=HS.out
 refine ⟨rfl,d'.toList,?_,?_,?_,yn8 g w' g n d' os (Nat.le_refl _) hblk⟩
 ·have e1:d'.extract 0 L.length=d':=by rw [show L.length=d'.size by rw [p1,hsz]];simp
  have e2:L.toArray.extract 0 L.length=L.toArray:=by rw [show L.length=L.toArray.size by rw [hsz]];simp
  rw [e1,e2] at p3
  simpa using p3
 ·refine List.pairwise_iff_getElem.2 fun i j hi hj hij => ?_
  have hj':j<d'.size:=by simpa using hj
  have:=s1 i j (Nat.zero_le _) hij (by rw [p1,hsz] at hj';exact hj')
  rw [xp6,getElem!_pos d' i (by omega),getElem!_pos d' j hj'] at this
  simp only [Array.getElem_toList]
  simp at this
  omega
 ·exact yv8 (holdsK_sortWorldK_c zw4 3 w' g 0 L.toArray d' n os HH.out hblk p1) (by rw [p1,hsz]) (by rw [p1,hsz];exact hlen)
end
section
open Go.RowKit
theorem w80 (cl:Value) (w:World):Calls Tryz.prog 168 #[.slice none 0 0,.int .i64 0,.int .i64 0,cl] w fun e w'=>e = .returned (.tuple #[])∧w'=w:=by
 go_enter Tryz.func168,Tryz.ntmps168
 go_wp2_with fail
 go_loopw [8] (fun i wr=>i = .int .i64 1∧wr=w) (fun _ _=>0)
 case atStart=>exact ⟨rfl,rfl⟩
 case round =>
  obtain ⟨rfl,rfl⟩:=hrel
  go_wp2_with fail
  go_end0
  exact ⟨rfl,rfl⟩
theorem w81 (cl:Value) (w:World):Calls Tryz.prog 127 #[.slice none 0 0,.int .i64 0,.int .i64 0,.int .i64 0,cl] w fun e w'=>e = .returned (.tuple #[])∧w'=w:=by
 have K:=qh (w80 cl w)
 go_enter Tryz.func127,Tryz.ntmps127
 go_wp2_with fail
 go_loopw [1,2] (fun a b wr=>a = .int .i64 0∧b = .int .i64 0∧wr=w) (fun _ _ _=>0)
 case atStart=>exact ⟨rfl,rfl,rfl⟩
 case round =>
  obtain ⟨rfl,rfl,rfl⟩:=hrel
  go_wp2_with fail
  refine K.out.mono ?_
  rintro e w1 ⟨rfl,rfl⟩
  go_wp2_with fail
  (try simp only [Exit.inBlock,Exit.then]);refine bodyPost_ret (results_none rfl _ _ _) rfl ?_
  exact ⟨rfl,rfl⟩
theorem xx0 (cl:Value) (w:World):Calls Tryz.prog 74 #[.slice none 0 0,cl] w fun e w'=>e = .returned (.tuple #[])∧w'=w:=by
 have HL:=qh (show Calls Tryz.prog 128 #[.int .u64 0] w fun e w'=>e = .returned (.int .i64 0)∧w'=w by
  have h:=Tryz.bits_Len 0 w (by omega) (by omega)
  exact h)
 have K:=qh (w81 cl w)
 go_enter Tryz.func74,Tryz.ntmps74
 go_wp2_with fail
 refine HL.out.mono ?_
 rintro e w1 ⟨rfl,rfl⟩
 go_wp2_with fail
 refine K.out.mono ?_
 rintro e w2 ⟨rfl,rfl⟩
 go_wp2_with fail
 go_end0
 exact ⟨rfl,rfl⟩
theorem zt0:∀ (i:Nat) (F:t8),(z42 i F).length=(flatK F).length
 | _,[]=>rfl
 | i,x :: F=>by
   have ih:=zt0 (i+1) F
   grind [flatK,z42,List.length_append,List.length_map]
def wx4 (F:t8) (w:World) (e:Ending) (w':World):Prop:=∃ u L,e = .returned u∧L.Perm (z42 0 F)∧zb3 L∧zm4 w' u L∧Below w.heap.size w w'
attribute [-go_sem] Builtin.append_
set_option maxRecDepth 100000 in
set_option maxHeartbeats 4000000 in
theorem zw5 (F:t8) (v:Value) (w:World) (hv:zn8 w v F) (hfl:(flatK F).length≤100000):Calls Tryz.prog 42 #[v] w (wx4 F w):=by
 obtain ⟨p,cap,rfl⟩:=hv.shape
 have hlen:=hv.len
 have HV:=qh hv
 have HFL:=qh (show ∀ k,(z42 0 (F.take k)).length≤100000∧∀ x,F[k]? = some x→(z42 0 (F.take k)).length+x.1.length≤100000 from fun k=>by
  have e:flatK F=flatK (F.take k)++flatK (F.drop k):=by unfold flatK;rw [← List.flatMap_append,List.take_append_drop]
  have h1:=zt0 0 (F.take k)
  have h2:=congrArg List.length e
  rw [List.length_append] at h2
  refine ⟨by omega,fun x hx => ?_⟩
  have hd:F.drop k=x :: F.drop (k+1):=by
   have hk:=(List.getElem?_eq_some_iff.1 hx).1
   rw [List.drop_eq_getElem_cons hk,(List.getElem?_eq_some_iff.1 hx).2]
  have h3:(flatK (F.drop k)).length=x.1.length+(flatK (F.drop (k+1))).length:=by rw [hd];unfold flatK;rw [List.flatMap_cons,List.length_append]
  omega)
 clear hv hfl
 go_enter Tryz.func42,Tryz.ntmps42
 go_wp2_with fail
 go_loopw [3,10] (fun u i wr=>∃ k:Nat,i = .int .i64 k∧k≤F.length∧z93 wr w.heap.size u (z42 0 (F.take k))∧Below w.heap.size w wr) (fun _ i _=>F.length - (intOf i).toNat)
 case atStart=>exact ⟨0,rfl,Nat.zero_le _,World.ownsRow_nil _ _ _ _,Below.refl _ _⟩
 case round =>
  obtain ⟨k,rfl,hk,hO,hb⟩:=hrel
  by_cases hlt:k<F.length
  ·obtain ⟨⟨L,V⟩,hx⟩:∃ x,F[k]? = some x:=⟨F[k],by simp [hlt]⟩
   obtain ⟨b,o,cap',p1,c1,q1,d1,e,c0,c1',hf⟩:=HV.out.elem hx
   cases e
   have t0:=z6 c0 hb
   have t1:=z6 c1' hb
   obtain ⟨wE,hwE⟩:∃ wE,wr.alloc (.cells #[.slice p1 L.length c1,.slice q1 V.length d1] 46)=wE:=⟨_,rfl⟩
   obtain ⟨fb,hfb⟩:∃ fb,wr.heap.size=fb:=⟨_,rfl⟩
   have hbE:Below wr.heap.size wr wE:=hwE ▸ z8 wr _
   have z0:wE.cell? ⟨fb,0,none⟩=some (.slice p1 L.length c1):=by rw [← hwE,← hfb];simp
   have HO:=qh (y6 hO hbE)
   have HB:=qh (z7 hb hbE)
   have HI:=qh hf.at1
   have HX:=qh (yp9 (i:=0) hx)
   have HLL:Hid ((z42 0 (F.take k)).length+L.length≤100000):=qh ((HFL.out k).2 _ hx)
   have hLl:L.length≤100000:=by have:=HLL.out;omega
   have i1:(0:Int)≤(k:Int):=by omega
   have i2:(k:Int)<(F.length:Int):=by omega
   clear hf hx c0 c1' hO hb hbE
   go_wp2_with fail
   clear hwE z0 t0 t1
   go_loopw [3,18] (fun u i wz=>∃ j:Nat,i = .int .i64 j∧j≤L.length∧z93 wz w.heap.size u (z42 0 (F.take k)++(L.take j).map fun s=>(s.1,s.2,((0+k:Nat):Int)))∧Below w.heap.size w wz) (fun _ i _=>L.length - (intOf i).toNat)
   case atStart=>exact ⟨0,rfl,Nat.zero_le _,by rw [List.take_zero,List.map_nil,List.append_nil];exact HO.out,HB.out⟩
   case round =>
    clear HO HB
    obtain ⟨j,rfl,hj,hO,hb⟩:=hrel
    by_cases hlt2:j<L.length
    ·obtain ⟨⟨y1,y2⟩,hy⟩:∃ y,L[j]? = some y:=⟨L[j],by simp [hlt2]⟩
     obtain ⟨b0,o0,cap0,e0,z0,z1⟩:=HI.out.elem hy
     cases e0
     have t0:=z6 z0 hb
     have t1:=z6 z1 hb
     obtain ⟨wI,hwI⟩:∃ wI,wr.alloc (.cells #[.int .u64 y1,.int .u64 y2] 65)=wI:=⟨_,rfl⟩
     obtain ⟨ib,hib⟩:∃ ib,wr.heap.size=ib:=⟨_,rfl⟩
     have hbI:Below wr.heap.size wr wI:=hwI ▸ z8 wr _
     have q0:wI.cell? ⟨ib,0,none⟩=some (.int .u64 y1):=by rw [← hwI,← hib];simp
     have q1:wI.cell? ⟨ib,1,none⟩=some (.int .u64 y2):=by rw [← hwI,← hib];simp
     obtain ⟨v',W1,hr,⟨pv,cv,hv'⟩,hO1,hb1⟩:=z93.push (y6 hO hbI) (Nat.le_trans hb.size hbI.size) (y1,y2,(k:Int)) (by have:=HLL.out;rw [List.length_append,List.length_map,List.length_take];omega) (T0:=80) (ty:=80) Tryz.underlying80
     have HO1:Hid (z93 W1 w.heap.size v' (z42 0 (F.take k)++(L.take (j+1)).map fun s=>(s.1,s.2,((0+k:Nat):Int)))):=qh (by
      rw [List.take_add_one,hy,List.map_append,← List.append_assoc]
      rw [Nat.zero_add] at hO1 ⊢
      exact hO1)
     have HB1:=qh ((z7 hb hbI).trans hb1)
     have i3:(0:Int)≤(j:Int):=by omega
     have i4:(j:Int)<(L.length:Int):=by omega
     dsimp only at hr
     clear hO hb hbI hO1 hb1 hy z0 z1 hv'
     go_wp2_with fail
     go_roundw
     case rel=>exact ⟨j+1,by go_num,by omega,HO1.out,HB1.out⟩
     case measure=>simp [intOf];omega
    ·obtain rfl:j=L.length:=by omega
     rw [List.take_length] at hO
     have HO:=qh hO
     have HB:=qh hb
     clear hO hb
     go_wp2_with fail
     go_roundw
     case rel=>exact ⟨k+1,by go_num,by omega,by rw [HX.out];exact HO.out,HB.out⟩
     case measure=>simp [intOf];omega
  ·obtain rfl:k=F.length:=by omega
   rw [List.take_length] at hO
   have hsl:(z42 0 F).length≤100000:=by have:=(HFL.out F.length).1;rwa [List.take_length] at this
   have HB:=qh hb
   clear hb
   have hO':=hO
   rcases hO.2 with ⟨rfl,h0⟩ | ⟨g,c,cur,rfl,hbg,_⟩
   ·have K:=qh (xx0 (.func (.func 75) #[] #[]) wr)
    have HN:=qh (List.eq_nil_of_length_eq_zero h0)
    clear hO hO' h0
    go_wp2_with fail
    refine K.out.mono ?_
    rintro e w1 ⟨rfl,rfl⟩
    go_wp2_with fail
    go_ret
    exact ⟨_,[],rfl,by rw [HN.out],List.Pairwise.nil,⟨none,0,rfl,by simp,fun h=>absurd rfl h⟩,HB.out⟩
   ·have K:=qh (xw9 (z42 0 F) w.heap.size g c wr hO' (by omega))
    have HG:=qh hbg
    clear hO hO'
    go_wp2_with fail
    refine K.out.mono ?_
    rintro e w1 ⟨rfl,L,h1,h2,h3,h4⟩
    have HR:=qh (And.intro h1 (And.intro h2 (And.intro h3 (HB.out.trans (h4.mono HG.out)))))
    have hln:=h1.length_eq
    clear h1 h2 h3 h4
    go_wp2_with fail
    go_ret
    exact ⟨_,L,rfl,HR.out.1,HR.out.2.1,HR.out.2.2.1,HR.out.2.2.2⟩
end
section
open Go.RowKit
variable {L:List Sg} {j X i Y:Nat} {y:Sg} {x:List Iv × v6} {F G H:t8} {t:Int} {v u a b c:Value} {w w2 W w1:World} {p q r:Addr}
def mtB (y x:Sg):Bool:=decide (z73 y.1 y.2.1 x.1 x.2.1=2)
def prB (L:List Sg):Nat→Bool
 | 0=>false
 | j+1=>match L[j]?,L[j+1]? with
   | some y,some x=>mtB y x
   | _,_=>false
theorem ye6 {x:Sg} (hy:L[j]? = some y) (hx:L[j+1]? = some x):prB L (j+1)=mtB y x:=by simp only [prB,hy,hx]
def zy8 (L:List Sg):Bool:=(List.range L.length).any (prB L)
theorem xg7 {k:Nat} (hk:k<L.length) (h:prB L k=true):zy8 L=true:=List.any_eq_true.2 ⟨k,List.mem_range.2 hk,h⟩
theorem ye7 (h:∀ k,k<L.length→prB L k=false):zy8 L=false:=by grind [zy8,List.any_eq_false]
def w82 (L:List Sg):Prop:=∀ s ∈ L,(0≤s.1∧s.1≤18446744073709551615)∧0≤s.2.1∧s.2.1≤18446744073709551615
set_option maxRecDepth 100000 in
set_option maxHeartbeats 4000000 in
theorem x36 (L:List Sg) (v:Value) (w:World) (hv:zm4 w v L) (h64:w82 L):Calls Tryz.prog 41 #[v] w (q8 (zy8 L) w):=by
 obtain ⟨p,cap,rfl⟩:=hv.shape
 have hlen:L.length≤1048576:=by obtain ⟨_,_,_,h,_⟩:=hv;exact h
 have I:=qh hv
 have KR:=qh zo1
 clear hv
 go_enter Tryz.func41,Tryz.ntmps41
 go_wp2_with fail
 go_loopw [6] (fun i wr=>∃ k:Nat,k≤L.length∧i = .int .i64 k∧(∀ j,j<k→prB L j=false)∧Below w.heap.size w wr) (fun i _=>L.length - (intOf i).toNat)
 case atStart=>exact ⟨0,Nat.zero_le _,rfl,fun j h=>absurd h (Nat.not_lt_zero j),Below.refl _ _⟩
 case round =>
  obtain ⟨k,hk,rfl,hall,hb⟩:=hrel
  have HB:=qh hb;clear hb
  have HA:=qh hall;clear hall
  by_cases hlt:k<L.length
  ·cases k with
   | zero =>
     go_wp2_with fail
     go_quiet (fail)
     go_wp2_with fail
     go_roundw
     case rel=>exact ⟨1,by omega,by go_num,(fun j hj=>(show j=0 by omega) ▸ rfl),below_drewN HB.out _⟩
     case measure=>simp [intOf];omega
   | succ j =>
     obtain ⟨x,hx⟩:∃ x,L[j+1]? = some x:=⟨L[j+1],by simp [hlt]⟩
     obtain ⟨y,hy⟩:∃ y,L[j]? = some y:=⟨L[j],by simp [show j<L.length by omega]⟩
     obtain ⟨b,o,e,cx0,cx1,cx2⟩:=(I.out.call HB.out).elem hx
     have cy:=(I.out.call HB.out).elem hy
     rw [e] at cy
     obtain ⟨b',o',e',cy0,cy1,cy2⟩:=cy
     cases e;cases e'
     have bx:=h64 x (List.mem_of_getElem? hx)
     have by':=h64 y (List.mem_of_getElem? hy)
     have KX:=qh (fun w=>KR.out y.1 y.2.1 x.1 x.2.1 w by'.2.1 bx.1.2 bx.2.1 by'.1.2)
     obtain ⟨r,hr⟩:∃ r,z73 y.1 y.2.1 x.1 x.2.1=r:=⟨_,rfl⟩
     have HP:=qh (show prB L (j+1)=decide (r=2) by rw [ye6 hy hx];unfold mtB;rw [hr])
     rw [hr] at KX
     obtain ⟨x1,x2,x3⟩:=x
     obtain ⟨y1,y2,y3⟩:=y
     dsimp only at cx0 cx1 cy0 cy1
     have hs:Below w.heap.size w wr∧wr.cell? ⟨b,o+j*3,none⟩=some (.int .u64 y1)∧wr.cell? ⟨b,o+j*3+1,none⟩=some (.int .u64 y2)∧wr.cell? ⟨b,o+(j+1)*3,none⟩=some (.int .u64 x1)∧wr.cell? ⟨b,o+(j+1)*3+1,none⟩=some (.int .u64 x2):=⟨HB.out,cy0,cy1,cx0,cx1⟩
     have hj0:(0:Int)≤(j:Int):=by omega
     have hj1:(j:Int)<(L.length:Int):=by omega
     have hj2:(0:Int)≤(j:Int)+1:=by omega
     have hj3:(j:Int)+1<(L.length:Int):=by omega
     have hw1:IntKind.i64.wrap ((j:Int)+1 - 1)=(j:Int):=(IntWalk.i64_in _ (by omega)).trans (by omega)
     have hw2:IntKind.i64.wrap (j:Int)=(j:Int):=IntWalk.i64_in _ (by omega)
     have hw3:IntKind.i64.wrap (((j+1:Nat):Int) - 1)=(j:Int):=(IntWalk.i64_in _ (by omega)).trans (by omega)
     clear hx hy bx by' hr cx0 cx1 cx2 cy0 cy1 cy2
     go_wp2_with fail
     go_region_held3 (fun w'=>Below w.heap.size w w'∧w'.cell? ⟨b,o+j*3,none⟩=some (.int .u64 y1)∧w'.cell? ⟨b,o+j*3+1,none⟩=some (.int .u64 y2)∧w'.cell? ⟨b,o+(j+1)*3,none⟩=some (.int .u64 x1)∧w'.cell? ⟨b,o+(j+1)*3+1,none⟩=some (.int .u64 x2))
      (first
        | exact zl3 (by assumption) (by assumption)
        | exact z96 (by assumption)
        | exact hs
        | assumption)
      (first
        | (go_at_call 73;refine (KX.out _).mono ?_;rintro en w' ⟨rfl,hb4'⟩;have hb4:=qh hb4';clear hb4'))
     all_goals
      rename_i hE
      have HE:=qh hE.1
      clear hs hE
      by_cases h0:r=2
      ·have h0b:(r == 2)=true:=by simpa using h0
       have HZ:=qh h0
       clear h0
       go_wp2_with fail
       go_ret
       exact ⟨by rw [xg7 hlt (by rw [HP.out,HZ.out];rfl)];rfl,HE.out⟩
      ·have h0b:(r == 2)=false:=by simpa using h0
       have HZ:=qh h0
       clear h0
       go_wp2_with fail
       go_roundw
       case rel =>
        refine ⟨j+1+1,by omega,by go_num,fun i hi => ?_,HE.out⟩
        rcases Nat.lt_or_eq_of_le (Nat.le_of_lt_succ hi) with h | h
        ·exact HA.out i h
        ·rw [h,HP.out];exact decide_eq_false HZ.out
       case measure=>simp [intOf];omega
  ·obtain rfl:k=L.length:=by omega
   go_wp2_with fail
   go_ret
   exact ⟨by rw [ye7 HA.out];rfl,HB.out⟩
theorem wv9 {x:Sg} (h1:y.1≤x.1) (h3:x.1≤x.2.1):mtB y x=decide (x.1≤y.2.1):=by grind [mtB,v08,z73]
def SgV (L:List Sg):Prop:=∀ s ∈ L,s.1≤s.2.1
def v47 (L:List Sg):Prop:=L.Pairwise fun a b=>a.2.1<b.1
theorem xx1 (hs:zb3 L) (hv:SgV L):zy8 L=false↔v47 L:=by
 constructor
 ·intro h
  unfold zy8 at h
  rw [List.any_eq_false] at h
  refine List.pairwise_iff_getElem.2 fun i j hi hj hij => ?_
  have hi1:i+1<L.length:=by omega
  have h1:=h (i+1) (List.mem_range.2 hi1)
  rw [ye6 (y:=L[i]) (x:=L[i+1]) (by simp [hi]) (by simp [hi1]),wv9 (List.pairwise_iff_getElem.1 hs i (i+1) hi hi1 (by omega)) (hv _ (List.getElem_mem hi1)),decide_eq_true_eq] at h1
  rcases Nat.lt_or_eq_of_le (show i+1≤j by omega) with h2 | h2
  ·have:=List.pairwise_iff_getElem.1 hs (i+1) j hi1 hj h2
   omega
  grind
 ·intro h
  refine ye7 fun k hk => ?_
  cases k with
  | zero=>rfl
  | succ j =>
    have hj:j<L.length:=by omega
    rw [ye6 (y:=L[j]) (x:=L[j+1]) (by simp [hj]) (by simp [hk]),wv9 (List.pairwise_iff_getElem.1 hs j (j+1) hj hk (by omega)) (hv _ (List.getElem_mem hk))]
    have:=List.pairwise_iff_getElem.1 h j (j+1) hj hk (by omega)
    grind
def inG (t:Int) (s:Sg):Bool:=decide (s.1≤t) && decide (t≤s.2.1)
theorem xp7:∀ {L:List Sg},zb3 L→SgV L→((∀ t,L.countP (inG t)≤1)↔v47 L)
 | [],_,_=>⟨fun _=>List.Pairwise.nil,fun _ t=>by simp⟩
 | a :: L,hs,hv=>by
   obtain ⟨s1,s2⟩:=List.pairwise_cons.1 hs
   have ih:=xp7 (L:=L) s2 fun s h=>hv s (List.mem_cons_of_mem _ h)
   have ha:=hv a (by simp)
   constructor
   ·intro h
    refine List.pairwise_cons.2 ⟨fun b hb => ?_,ih.1 fun t=>Nat.le_trans (by rw [List.countP_cons];omega) (h t)⟩
    by_cases hab:a.2.1<b.1
    ·exact hab
    ·have h1:=s1 b hb
     have h2:=hv b (List.mem_cons_of_mem _ hb)
     have h3:=h b.1
     grind [inG,List.countP_pos_iff]
   ·intro h t
    obtain ⟨d1,d2⟩:=List.pairwise_cons.1 h
    have h1:=ih.2 d2 t
    grind [inG,List.countP_eq_zero]
theorem y42 {t:Int}:∀ {i:Nat} {F:t8},x9 F→(z42 i F).countP (inG t)=zj0 t F
 | _,[],_=>rfl
 | i,x :: F,h=>by
   have hx:=h x (by simp)
   have ih:=y42 (t:=t) (i:=i+1) (F:=F) fun y hy=>h y (List.mem_cons_of_mem _ hy)
   have h1:x.1.countP (fun s=>inI s t)=if y9 x.1 t=true then 1 else 0:=by
    rw [List.countP_eq_length_filter]
    exact xv0 (List.pairwise_iff_getElem.2 fun i j hi hj hij=>by have:=z59 _ hx.1.can i j x.1[i] x.1[j] hij (by simp [hi]) (by simp [hj]);omega)
   unfold zj0 at ih ⊢
   rw [z42,List.countP_append,ih,List.countP_map,List.countP_cons]
   have h2:x.1.countP (inG t ∘ fun s=>(s.1,s.2,(i:Int)))=x.1.countP (fun s=>inI s t):=rfl
   omega
theorem xx2 (h:x9 F):∀ {i:Nat},SgV (z42 i F):=by
 induction F with
 | nil=>intro i s hs;cases hs
 | cons x F ih =>
   intro i s hs
   rw [z42] at hs
   rcases List.mem_append.1 hs with hs | hs
   ·obtain ⟨y,hy,rfl⟩:=List.mem_map.1 hs
    exact z13 _ (h x (by simp)).1.can y hy
   ·exact ih (fun y hy=>h y (List.mem_cons_of_mem _ hy)) s hs
theorem w83 (h:x9 F):∀ {i:Nat},w82 (z42 i F):=by
 induction F with
 | nil=>intro i s hs;cases hs
 | cons x F ih =>
   intro i s hs
   rw [z42] at hs
   rcases List.mem_append.1 hs with hs | hs
   ·obtain ⟨y,hy,rfl⟩:=List.mem_map.1 hs
    exact (h x (by simp)).1.all y hy
   ·exact ih (fun y hy=>h y (List.mem_cons_of_mem _ hy)) s hs
theorem ye8 (hF:x9 F) (hp:L.Perm (z42 0 F)) (hs:zb3 L):zy8 L = !apB F:=by
 have hv:SgV L:=fun s h=>xx2 hF s (hp.mem_iff.1 h)
 have h1:=xx1 hs hv
 rw [← xp7 hs hv] at h1
 have h2:(∀ t,L.countP (inG t)≤1)↔apB F=true:=by
  unfold apB
  rw [decide_eq_true_eq,← ze2 hF]
  unfold ze9
  exact ⟨fun h t=>by rw [← y42 (i:=0) hF,← hp.countP_eq];exact h t,fun h t=>by rw [hp.countP_eq,y42 hF];exact h t⟩
 grind
theorem yq0 {α:Type} {p:α→Bool}:∀ {l:List α},l.countP p≤1→∀ {x y:α},x ∈ l→y ∈ l→p x=true→p y=true→x=y
 | [],_,_,_,h,_,_,_=>by cases h
 | a :: l,hc,x,y,hx,hy,px,py=>by
   rw [List.countP_cons] at hc
   rcases List.mem_cons.1 hx with hxa | hx1
   ·grind [List.countP_pos_iff]
   ·rcases List.mem_cons.1 hy with hya | hy1
    ·simp_all
    ·exact yq0 (by omega) hx1 hy1 px py
theorem y43 (ha:ze9 G) (hx:x ∈ G) (ht:y9 x.1 t=true) (r c:Int):z32 G t r c=z27 x.2 r c:=by
 rw [Bool.eq_iff_iff]
 unfold z32
 rw [List.any_eq_true]
 constructor
 ·rintro ⟨y,hy,h⟩
  rw [Bool.and_eq_true] at h
  obtain rfl:=yq0 (ha t) hx hy ht h.1
  exact h.2
 grind
theorem w84 {v:v6} (gv:s8 v) (cv:∀ y ∈ v,o5 y.2.1 y.2.2=true) (hne:v ≠ []):∃ r c,0≤c∧z27 v r c=true:=by
 refine Classical.byContradiction fun hn=>hne ?_
 grind [zz5,z10,y16,z27]
theorem xx3 (gG:zp5 G) (gH:zp5 H) (aG:ze9 G) (aH:ze9 H) (h:∀ t r c,0≤t→t≤18446744073709551615→0≤c→z32 G t r c=z32 H t r c) {v:v6} (hm:z99 G v t=true):z99 H v t=true:=by
 unfold z99 at hm ⊢
 obtain ⟨x,hx,h1⟩:=List.any_eq_true.1 hm
 rw [Bool.and_eq_true,decide_eq_true_eq] at h1
 obtain ⟨rfl,h1⟩:=h1
 obtain ⟨⟨g1,_⟩,g2,g3,g4⟩:=gG.el x hx
 obtain ⟨s,hs,k1,k2⟩:=(t7 _ _).1 h1
 have hb:=g1.all s hs
 have t0:0≤t:=by have:=hb.1.1;omega
 have t1:t≤18446744073709551615:=by have:=hb.2.2;omega
 obtain ⟨r,c,hc,hh⟩:=w84 g2 g3 g4
 have e:=h t r c t0 t1 hc
 rw [y43 aG hx h1,hh] at e
 obtain ⟨y,hy,h2⟩:=List.any_eq_true.1 (show (H.any fun x=>y9 x.1 t && z27 x.2 r c)=true from e.symm)
 rw [Bool.and_eq_true] at h2
 obtain ⟨⟨l1,_⟩,l2,l3,l4⟩:=gH.el y hy
 have hv:x.2=y.2:=zz5 g2 g3 l2 l3 fun r c hc=>by rw [← y43 aG hx h1,← y43 aH hy h2.1,h t r c t0 t1 hc]
 grind
theorem xg8 (gG:zp5 G) (gH:zp5 H) (aG:ze9 G) (aH:ze9 H) (h:∀ t r c,0≤t→t≤18446744073709551615→0≤c→z32 G t r c=z32 H t r c):G=H:=
 yu6 gG gH fun v t=>by
  rw [Bool.eq_iff_iff]
  grind [xx3]
theorem zm5 (hF:x9 F) (ha:ze9 F):q6 (s5 F)=q6 F:=
 xg8 (ze1 (z11 hF)) (ze1 hF) (zq0 (z11 hF) (zz6 hF)) (zq0 hF ha) fun t r c h0 h1 hc=>by
  rw [yg1 (z11 hF) t r hc,yg1 hF t r hc,x50 hF h0 h1 r hc]
theorem xp8 {w3:World} (hb:Below w.heap.size w w2) (h1:z08 w3 u G) (h2:y62 w3 w2.heap.size w3.heap.size u (shK G)) (h3:Below w2.heap.size w2 w3):xm1 G w (.returned u) w3:=by
 refine ⟨u,rfl,h1,?_,z7 hb h3⟩
 obtain ⟨p,cap,e,k2,k3⟩:=h2
 refine ⟨p,cap,e,k2,fun hne => ?_⟩
 obtain ⟨b,o,k4,k5,k6,k7⟩:=k3 hne
 refine ⟨b,o,k4,Nat.le_trans hb.size k5,k6,fun i x hx => ?_⟩
 obtain ⟨s,u,c0,c1,k8,k9⟩:=k7 i x hx
 exact ⟨s,u,c0,c1,(z89 k8.soft hb.size).num,(k9.soft.low hb.size).numW⟩
set_option maxRecDepth 100000 in
set_option maxHeartbeats 4000000 in
theorem y44 (F:t8) (v:Value) (w:World) (hg:zz9 w) (hv:z08 w v F) (hF:x9 F) (hs:midI F) (hd:apB F=false→xg2 F∧midI (s5 F)) :
 Calls Tryz.prog 17 #[v] w (xm1 (q6 (s5 F)) w):=by
 have hfl:(flatK F).length≤100000:=Nat.le_trans hs.2 (by decide)
 have K1:=qh (zw5 F v w hv.m.i hfl)
 have K3:=qh (fun (e:apB F=false) W (hg:zz9 W) (h:z08 W v F)=>xo6 F v W hg h hF hs (hd e).1)
 have K4:=qh (fun (e:apB F=false) u W (h:z08 W u (s5 F))=>yu8 (s5 F) u W h (z11 hF) (hd e).2 fun n hn=>xc1 (by have:=(hd e).2.1;omega))
 have K5:=qh (fun W (h:z08 W v F)=>yu8 F v W h hF hs fun n hn=>xc1 (by have:=hs.1;omega))
 have HGR:=qh (fun e:apB F=true=>zm5 hF ((ze2 hF).2 (by unfold apB at e;rwa [decide_eq_true_eq] at e)))
 have HM:=qh (fun L (h1:List.Perm L (z42 0 F)) (h2:zb3 L)=>ye8 hF h1 h2)
 have H64:=qh (fun L (h1:List.Perm L (z42 0 F))=>(fun s h=>w83 hF s (h1.mem_iff.1 h):w82 L))
 have HV:=qh hv
 have HG:=qh hg
 obtain ⟨p,cap,rfl⟩:=hv.m.shape
 clear hv hg hF hs hd hfl
 go_enter Tryz.func17,Tryz.ntmps17
 go_wp2_with fail
 refine K1.out.mono ?_
 rintro e w1 ⟨u,L,rfl,h1,h2,h3,h4⟩
 have K2:=qh (x36 L u w1 h3 (H64.out L h1))
 have hm:=HM.out L h1 h2
 rw [hm] at K2
 have HB1:=qh h4
 clear h1 h2 h3 h4 hm HM H64 K1
 go_wp2_with fail
 refine K2.out.mono ?_
 rintro e w2 ⟨rfl,h⟩
 have HB2:=qh (z7 HB1.out h)
 clear h K2 HB1
 cases hap:apB F with
 | true =>
   have hgr:=HGR.out hap
   have HE:=qh hgr
   clear hgr
   go_wp2_with fail
   refine (K5.out _ (HV.out.call HB2.out)).mono ?_
   rintro e w3 ⟨u,rfl,h1,h2,h3⟩
   have HR:=qh (And.intro h1 (And.intro h2 h3))
   clear h1 h2 h3
   go_wp2_with fail
   go_ret
   rw [HE.out]
   exact xp8 HB2.out HR.out.1 HR.out.2.1 HR.out.2.2
 | false =>
   have K3':=qh (K3.out hap)
   have K4':=qh (K4.out hap)
   go_wp2_with fail
   refine (K3'.out _ (HG.out.here HB2.out) (HV.out.call HB2.out)).mono ?_
   rintro e w3 ⟨u,rfl,h1,_,h3⟩
   obtain ⟨pu,cu,rfl⟩:=h1.m.shape
   have HU:=qh h1
   have HB3:=qh (z7 HB2.out h3)
   clear h1 h3
   go_wp2_with fail
   refine (K4'.out _ _ HU.out).mono ?_
   rintro e w4 ⟨u,rfl,h1,h2,h3⟩
   have HR:=qh (And.intro h1 (And.intro h2 h3))
   clear h1 h2 h3
   go_wp2_with fail
   go_ret
   exact xp8 HB3.out HR.out.1 HR.out.2.1 HR.out.2.2
def yb6 {α:Type} (p:α→Bool):List α→Int
 | [] => -1
 | x :: l=>if p x=true then 0 else if yb6 p l = -1 then -1 else yb6 p l+1
theorem zt1 {α:Type} {p:α→Bool}:∀ {l:List α},(∀ (j:Nat) y,l[j]? = some y→p y=false)→yb6 p l = -1
 | [],_=>rfl
 | x :: l,h=>by
   have h0:=h 0 x rfl
   rw [yb6,if_neg (by rw [h0];simp),if_pos (zt1 fun j y hy=>h (j+1) y hy)]
theorem zt2 {α:Type} {p:α→Bool}:∀ {l:List α} {k:Nat} {x:α},l[k]? = some x→p x=true→(∀ (j:Nat) y,j<k→l[j]? = some y→p y=false)→yb6 p l=k
 | [],_,_,h,_,_=>by simp at h
 | y :: l,0,x,h,hp,_=>by grind [yb6]
 | y :: l,k+1,x,h,hp,hb=>by
   have h0:=hb 0 y (Nat.succ_pos _) rfl
   have ih:=zt2 (l:=l) (k:=k) (by simpa using h) hp fun j z hj hz=>hb (j+1) z (by omega) hz
   grind [yb6]
def yq1 (F:t8) (t:Int):Int:=yb6 (fun x=>y9 x.1 t) F
theorem xx4 {L:List Iv} {s:Value} (hX:w.cell? ⟨X,0,none⟩=some (.int .u64 t)) (hs:v7 w s L) (hc:m5 L) :
 Calls Tryz.prog 54 #[.agg #[s,u],.pointer (some ⟨X,0,none⟩)] w (q8 (y9 L t) w):=by
 have hb:=z8 w (.cells #[s,u] 46)
 have K:=qh (yl1 L s t _ (hs.call hb) hc)
 have HB:=qh hb
 have x1:=z6 hX hb
 clear hs hb
 go_enter Tryz.func54,Tryz.ntmps54
 go_wp2_with (first | (go_at_call 55;refine K.out.mono ?_;rintro e w1 ⟨rfl,h1⟩))
 go_ret
 exact ⟨rfl,z7 HB.out h1⟩
set_option maxRecDepth 100000 in
set_option maxHeartbeats 2000000 in
theorem xg9 (F:t8) (v:Value) (X:Nat) (t:Int) (w:World) (hv:zn8 w v F) (hX:w.cell? ⟨X,0,none⟩=some (.int .u64 t)) (hc:∀ x ∈ F,m5 x.1) :
 Calls Tryz.prog 53 #[v,.func (.func 54) #[] #[.pointer (some ⟨X,0,none⟩)]] w (zi6 (yq1 F t) w):=by
 obtain ⟨p,cap,rfl⟩:=hv.shape
 have hlen:=hv.len
 have HV:=qh hv
 have HX:=qh hX
 have HC:=qh hc
 clear hv hX hc
 go_enter Tryz.func53,Tryz.ntmps53
 go_wp2_with fail
 go_loopw [8] (fun i wr=>∃ k:Nat,i = .int .i64 k∧k≤F.length∧(∀ (j:Nat) y,j<k→F[j]? = some y→y9 y.1 t=false)∧Below w.heap.size w wr) (fun i _=>F.length - (intOf i).toNat)
 case atStart=>exact ⟨0,rfl,Nat.zero_le _,fun j z hj=>absurd hj (Nat.not_lt_zero j),Below.refl _ _⟩
 case round =>
  obtain ⟨k,rfl,hk,hbef,hb⟩:=hrel
  have HBF:=qh hbef
  have HB:=qh hb
  clear hbef
  by_cases hlt:k<F.length
  ·obtain ⟨⟨L,V⟩,hx⟩:∃ x,F[k]? = some x:=⟨F[k],by simp [hlt]⟩
   obtain ⟨b,o,cap',p1,c1,q1,d1,e,c0,c1',hf⟩:=(HV.out.call hb).elem hx
   cases e
   have K:=xx4 (u := .slice q1 V.length d1) (z6 HX.out hb) hf.at1 (HC.out _ (List.mem_of_getElem? hx))
   obtain ⟨y,hy⟩:∃ y,y9 L t=y:=⟨_,rfl⟩
   rw [hy] at K
   replace K:=qh K
   have HH:=qh (And.intro hx hy)
   have i1:(0:Int)≤(k:Int):=by omega
   have i2:(k:Int)<(F.length:Int):=by omega
   clear hf hx hy hb
   cases y with
   | true =>
     go_wp2_with (first | (go_at_call 54;refine K.out.mono ?_;rintro e w1 ⟨rfl,h1⟩))
     go_ret
     exact ⟨by rw [show yq1 F t=(k:Int) from zt2 HH.out.1 HH.out.2 HBF.out];rfl,z7 HB.out h1⟩
   | false =>
     go_wp2_with (first | (go_at_call 54;refine K.out.mono ?_;rintro e w1 ⟨rfl,h1⟩))
     go_roundw
     case rel=>exact ⟨k+1,by go_num,by omega,fun j z hj hjz=>by
      rcases Nat.lt_or_eq_of_le (Nat.le_of_lt_succ hj) with h | h
      ·exact HBF.out j z h hjz
      ·rw [h,HH.out.1] at hjz
       obtain rfl:=Option.some.inj hjz
       exact HH.out.2,z7 HB.out h1⟩
     case measure=>simp [intOf];omega
  ·obtain rfl:k=F.length:=by omega
   have HZ:=qh (show yq1 F t = -1 from zt1 fun j y hy=>HBF.out j y (List.getElem?_eq_some_iff.1 hy).1 hy)
   go_wp2_with fail
   go_ret
   exact ⟨by rw [HZ.out];rfl,HB.out⟩
theorem xx5 (F:t8) (v:Value) (t:Int) (w:World) (hv:zn8 w v F) (hc:∀ x ∈ F,m5 x.1):Calls Tryz.prog 28 #[v,.int .u64 t] w (zi6 (yq1 F t) w):=by
 have hb:=z8 w (.cells #[.int .u64 t] 36)
 have K:=qh (xg9 F v w.heap.size t _ (hv.call hb) (by simp) hc)
 have HB:=qh hb
 clear hv hb hc
 go_enter Tryz.func28,Tryz.ntmps28
 go_wp2_with (first | (go_at_call 53;refine K.out.mono ?_;rintro e w1 ⟨rfl,h1⟩))
 go_ret
 exact ⟨rfl,z7 HB.out h1⟩
def ye9 (x:List Iv × v6):Bool:=decide (x.1.length=0) || decide (x.2.length=0)
def ngV (y x:List Iv × v6):Bool:=decide (0≤g9 (r3 y.2) (r3 x.2))
def ngK (F:t8):Nat→Bool
 | 0=>false
 | j+1=>match F[j]?,F[j+1]? with
   | some y,some x=>ngV y x
   | _,_=>false
theorem x37 {y:List Iv × v6} (hy:F[j]? = some y) (hx:F[j+1]? = some x):ngK F (j+1)=ngV y x:=by simp only [ngK,hy,hx]
set_option maxRecDepth 100000 in
set_option maxHeartbeats 2000000 in
theorem xx6 (hv:z85 w v F) (hX:w.cell? ⟨X,0,none⟩=some v) (hx:F[i]? = some x) :
 Calls Tryz.prog 60 #[.int .i64 i,.pointer (some ⟨X,0,none⟩)] w (q8 (ye9 x) w):=by
 obtain ⟨L,V⟩:=x
 have hlen:=hv.len
 have hi:=(List.getElem?_eq_some_iff.1 hx).1
 obtain ⟨b,o,cap,p,c,q,d,rfl,c0,c1,_⟩:=hv.elem hx
 have i1:(0:Int)≤(i:Int):=by omega
 have i2:(i:Int)<(F.length:Int):=by omega
 clear hv hx hlen hi
 by_cases h1:L.length=0
 ·have e1:((L.length:Int) == 0)=true:=by simpa using h1
  have HE:=qh (show ye9 (L,V)=true by unfold ye9;simp [h1])
  clear h1
  go_enter Tryz.func60,Tryz.ntmps60
  go_wp2_with fail
  go_ret
  exact ⟨by rw [HE.out];rfl,Below.refl _ _⟩
 ·have e1:((L.length:Int) == 0)=false:=by simpa using h1
  obtain ⟨z,hz⟩:∃ z:Bool,((V.length:Int) == 0)=z:=⟨_,rfl⟩
  have HE:=qh (show ye9 (L,V)=z by
   unfold ye9
   rw [← hz,Bool.eq_iff_iff]
   simp [h1])
  clear h1
  go_enter Tryz.func60,Tryz.ntmps60
  go_wp2_with fail
  go_ret
  exact ⟨by rw [HE.out];rfl,Below.refl _ _⟩
set_option maxRecDepth 100000 in
set_option maxHeartbeats 2000000 in
theorem xx7 {f:Int} (hg:z82 w) (hv:z85 w v F) (hY:w.cell? ⟨Y,0,none⟩=some (.int .i64 f)) (hX:w.cell? ⟨X,0,none⟩=some v) (hx:F[i]? = some x) :
 Calls Tryz.prog 61 #[.int .i64 i,.pointer (some ⟨Y,0,none⟩),.pointer (some ⟨X,0,none⟩)] w (q8 (decide ((i:Int)=f) || !(zx6 x.2 && z31 x.2)) w):=by
 obtain ⟨L,V⟩:=x
 have hlen:=hv.len
 have hi:=(List.getElem?_eq_some_iff.1 hx).1
 obtain ⟨b,o,cap,p,c,q,d,rfl,c0,c1,hf⟩:=hv.elem hx
 have K:=qh (yi1 V _ w hg hf.vec.m)
 have i1:(0:Int)≤(i:Int):=by omega
 have i2:(i:Int)<(F.length:Int):=by omega
 dsimp only at K ⊢
 generalize (zx6 V && z31 V)=r at *
 clear hv hx hlen hi hf hg
 by_cases h1:(i:Int)=f
 ·have e1:((i:Int) == f)=true:=by simpa using h1
  rw [decide_eq_true h1]
  clear h1
  go_enter Tryz.func61,Tryz.ntmps61
  go_wp2_with fail
  go_ret
  exact ⟨rfl,Below.refl _ _⟩
 ·have e1:((i:Int) == f)=false:=by simpa using h1
  rw [decide_eq_false h1]
  clear h1
  go_enter Tryz.func61,Tryz.ntmps61
  go_wp2_with fail
  refine K.out.mono ?_
  rintro e w1 ⟨rfl,h⟩
  have H:=qh h
  clear h
  go_wp2_with fail
  go_ret
  exact ⟨by cases r <;> rfl,H.out⟩
theorem yf0 (h:Below W.heap.size W w1∧w1.cell? p=some a∧w1.cell? q=some b∧w1.cell? r=some c) (hb:Hid (Below w1.heap.size w1 w2)):Below W.heap.size W w2∧w2.cell? p=some a∧w2.cell? q=some b∧w2.cell? r=some c:=
 ⟨z7 h.1 hb.out,z6 h.2.1 hb.out,z6 h.2.2.1 hb.out,z6 h.2.2.2 hb.out⟩
theorem yb7 (h:Below W.heap.size W w1∧w1.cell? p=some a∧w1.cell? q=some b∧w1.cell? r=some c):Below W.heap.size W w1.drew∧w1.drew.cell? p=some a∧w1.drew.cell? q=some b∧w1.drew.cell? r=some c:=yf0 h (qh (Below.refl _ _).drew)
set_option maxRecDepth 100000 in
set_option maxHeartbeats 2000000 in
theorem xx8 (hv:z85 w v F) (hX:w.cell? ⟨X,0,none⟩=some v) (hi:i<F.length) :
 Calls Tryz.prog 63 #[.int .i64 i,.pointer (some ⟨X,0,none⟩)] w (q8 (ngK F i) w):=by
 have hlen:=hv.len
 cases i with
 | zero =>
   clear hv
   go_enter Tryz.func63,Tryz.ntmps63
   go_wp2_with fail
   go_quiet (fail)
   go_wp2_with fail
   go_ret
   exact ⟨rfl,below_drewN (Below.refl _ _) _⟩
 | succ j =>
   obtain ⟨⟨L,V⟩,hx⟩:∃ x,F[j+1]? = some x:=⟨F[j+1],by simp [hi]⟩
   obtain ⟨⟨M,U⟩,hy⟩:∃ y,F[j]? = some y:=⟨F[j],by simp [show j<F.length by omega]⟩
   obtain ⟨b,o,cap,p1,c1,q1,d1,e,_,cx1,hfx⟩:=hv.elem hx
   have cy:=hv.elem hy
   rw [e] at cy
   obtain ⟨b',o',cap',p2,c2,q2,d2,e',_,cy1,hfy⟩:=cy
   cases e'
   have hvx:=hfx.vec
   have hvy:=hfy.vec
   dsimp only at hvx hvy
   have K:=qh (fun W (hb:Below w.heap.size w W)=>y11 U V _ _ W (hvy.call hb).m (hvx.call hb).m)
   obtain ⟨r,hr⟩:∃ r,g9 (r3 U) (r3 V)=r:=⟨_,rfl⟩
   have HE:=qh (show ngK F (j+1)=decide (0≤r) by rw [x37 hy hx,← hr];rfl)
   rw [hr] at K
   rw [e] at hX
   have hj0:(0:Int)≤(j:Int):=by omega
   have hj1:(j:Int)<(F.length:Int):=by omega
   have hj2:(0:Int)≤(j:Int)+1:=by omega
   have hj3:(j:Int)+1<(F.length:Int):=by omega
   have hw1:IntKind.i64.wrap ((j:Int)+1 - 1)=(j:Int):=(IntWalk.i64_in _ (by omega)).trans (by omega)
   have hw2:IntKind.i64.wrap (j:Int)=(j:Int):=IntWalk.i64_in _ (by omega)
   have hw3:IntKind.i64.wrap (((j+1:Nat):Int) - 1)=(j:Int):=(IntWalk.i64_in _ (by omega)).trans (by omega)
   have hs:Below w.heap.size w w∧w.cell? ⟨X,0,none⟩=some (.slice (some ⟨b,o,none⟩) F.length cap)∧w.cell? ⟨b,o+j*2+1,none⟩=some (.slice q2 U.length d2)∧w.cell? ⟨b,o+(j+1)*2+1,none⟩=some (.slice q1 V.length d1):=⟨Below.refl _ _,hX,cy1,cx1⟩
   clear hx hy hr e hfx hfy hvx hvy cx1 cy1 hX hv
   go_enter Tryz.func63,Tryz.ntmps63
   go_wp2_with fail
   go_region_held3 (fun w'=>Below w.heap.size w w'∧w'.cell? ⟨X,0,none⟩=some (.slice (some ⟨b,o,none⟩) F.length cap)∧w'.cell? ⟨b,o+j*2+1,none⟩=some (.slice q2 U.length d2)∧w'.cell? ⟨b,o+(j+1)*2+1,none⟩=some (.slice q1 V.length d1))
    (first
      | exact yf0 (by assumption) (by assumption)
      | exact yb7 (by assumption)
      | exact hs
      | assumption)
    (first
      | (go_at_call 64;refine (K.out _ (And.left (by assumption))).mono ?_;rintro en w' ⟨rfl,hb4'⟩;have hb4:=qh hb4';clear hb4'))
   all_goals
    rename_i hE
    have HB:=qh hE.1
    clear hs hE
    go_wp2_with fail
    go_ret
    exact ⟨by rw [HE.out];rfl,HB.out⟩
def yf1 (X Y:Nat):Value := .agg #[.func (.func 60) #[] #[.pointer (some ⟨X,0,none⟩)],.func (.func 61) #[] #[.pointer (some ⟨Y,0,none⟩),.pointer (some ⟨X,0,none⟩)],.func (.func 63) #[] #[.pointer (some ⟨X,0,none⟩)]]
def x38 (b1 b2 b3:Bool):Int:=if b1=true then 9 else if b2=true then 10 else if b3=true then 3 else 0
set_option maxRecDepth 100000 in
set_option maxHeartbeats 4000000 in
theorem w85 {b1 b2 b3:Bool}
 (K1:∀ W,Below w.heap.size w W→Calls Tryz.prog 60 #[.int .i64 i,.pointer (some ⟨X,0,none⟩)] W (q8 b1 W))
 (K2:∀ W,Below w.heap.size w W→Calls Tryz.prog 61 #[.int .i64 i,.pointer (some ⟨Y,0,none⟩),.pointer (some ⟨X,0,none⟩)] W (q8 b2 W))
 (K3:∀ W,Below w.heap.size w W→Calls Tryz.prog 63 #[.int .i64 i,.pointer (some ⟨X,0,none⟩)] W (q8 b3 W)) :
 Calls Tryz.prog 34 #[yf1 X Y,.int .i64 i] w (zi6 (x38 b1 b2 b3) w):=by
 replace K1:=qh K1
 replace K2:=qh K2
 replace K3:=qh K3
 unfold yf1
 obtain ⟨wA,hwA⟩:∃ wA,w.alloc (.cells #[.func (.func 60) #[] #[.pointer (some ⟨X,0,none⟩)],.func (.func 61) #[] #[.pointer (some ⟨Y,0,none⟩),.pointer (some ⟨X,0,none⟩)],.func (.func 63) #[] #[.pointer (some ⟨X,0,none⟩)]] 68)=wA:=⟨_,rfl⟩
 obtain ⟨a,ha⟩:∃ a,w.heap.size=a:=⟨_,rfl⟩
 have q0:wA.cell? ⟨a,0,none⟩=some (.func (.func 60) #[] #[.pointer (some ⟨X,0,none⟩)]):=by rw [← hwA,← ha];simp
 have q1:wA.cell? ⟨a,1,none⟩=some (.func (.func 61) #[] #[.pointer (some ⟨Y,0,none⟩),.pointer (some ⟨X,0,none⟩)]):=by rw [← hwA,← ha];simp
 have q2:wA.cell? ⟨a,2,none⟩=some (.func (.func 63) #[] #[.pointer (some ⟨X,0,none⟩)]):=by rw [← hwA,← ha];simp
 have hbA:Below w.heap.size w wA:=hwA ▸ z8 w _
 obtain ⟨wB,hwB⟩:∃ wB,wA.alloc (.cells #[.int .i64 9,.int .i64 10,.int .i64 3] 98)=wB:=⟨_,rfl⟩
 obtain ⟨z,hz⟩:∃ z,wA.heap.size=z:=⟨_,rfl⟩
 have hbB:Below wA.heap.size wA wB:=hwB ▸ z8 wA _
 have s0:=z6 q0 hbB
 have s1:=z6 q1 hbB
 have s2:=z6 q2 hbB
 have c0:wB.cell? ⟨z,0,none⟩=some (.int .i64 9):=by rw [← hwB,← hz];simp
 have c1:wB.cell? ⟨z,1,none⟩=some (.int .i64 10):=by rw [← hwB,← hz];simp
 have c2:wB.cell? ⟨z,2,none⟩=some (.int .i64 3):=by rw [← hwB,← hz];simp
 have HW:=qh (And.intro (z7 hbA hbB) (And.intro c0 (And.intro c1 c2)))
 clear hbA hbB c0 c1 c2
 go_enter Tryz.func34,Tryz.ntmps34
 go_wp2_with fail
 go_loopw [16] (fun u wr=>∃ j:Nat,u = .int .i64 j∧j≤3∧((0<j→b1=false)∧(1<j→b2=false)∧(2<j→b3=false))∧Below w.heap.size w wr∧wr.cell? ⟨z,0,none⟩=some (.int .i64 9)∧wr.cell? ⟨z,1,none⟩=some (.int .i64 10)∧wr.cell? ⟨z,2,none⟩=some (.int .i64 3)) (fun u _=>3 - (intOf u).toNat)
 case atStart=>exact ⟨0,rfl,Nat.zero_le _,⟨fun h=>absurd h (by decide),fun h=>absurd h (by decide),fun h=>absurd h (by decide)⟩,HW.out⟩
 case round =>
  clear HW q0 q1 q2 s0 s1 s2 hwA hwB
  obtain ⟨j,rfl,hj,hbs,hb,c0,c1,c2⟩:=hrel
  have HB:=qh hb
  have HS:=qh hbs
  clear hb hbs
  match j,hj with
  | 0,_ =>
    have hfn:∀ w,(Instr.index 99 (.agg #[(.func (.func 60) #[] #[.pointer (some ⟨X,0,none⟩)]),(.func (.func 61) #[] #[.pointer (some ⟨Y,0,none⟩),.pointer (some ⟨X,0,none⟩)]),(.func (.func 63) #[] #[.pointer (some ⟨X,0,none⟩)])]) (.int .i64 0)).run Tryz.prog w = .ok (.func (.func 60) #[] #[.pointer (some ⟨X,0,none⟩)]) w:=fun _=>by kernel_rfl
    have K:=qh (K1.out wr HB.out)
    cases b1 with
    | true =>
      go_wp2_with (first | (go_at_call 60;refine K.out.mono ?_;rintro e w1 ⟨rfl,h1⟩;have t0:=z6 c0 h1;have H1:=qh (z7 HB.out h1);clear h1))
      go_ret
      exact ⟨rfl,H1.out⟩
    | false =>
      go_wp2_with (first | (go_at_call 60;refine K.out.mono ?_;rintro e w1 ⟨rfl,h1⟩;have H1:=qh (And.intro (z7 HB.out h1) (And.intro (z6 c0 h1) (And.intro (z6 c1 h1) (z6 c2 h1))));clear h1))
      go_roundw
      case rel=>exact ⟨1,by go_num,by omega,⟨fun _=>by first | trivial | rfl,fun h=>absurd h (by decide),fun h=>absurd h (by decide)⟩,H1.out⟩
      case measure=>simp [intOf]
  | 1,_ =>
    have hfn:∀ w,(Instr.index 99 (.agg #[(.func (.func 60) #[] #[.pointer (some ⟨X,0,none⟩)]),(.func (.func 61) #[] #[.pointer (some ⟨Y,0,none⟩),.pointer (some ⟨X,0,none⟩)]),(.func (.func 63) #[] #[.pointer (some ⟨X,0,none⟩)])]) (.int .i64 1)).run Tryz.prog w = .ok (.func (.func 61) #[] #[.pointer (some ⟨Y,0,none⟩),.pointer (some ⟨X,0,none⟩)]) w:=fun _=>by kernel_rfl
    have K:=qh (K2.out wr HB.out)
    have e1:b1=false:=HS.out.1 (by decide)
    subst e1
    cases b2 with
    | true =>
      go_wp2_with (first | (go_at_call 61;refine K.out.mono ?_;rintro e w1 ⟨rfl,h1⟩;have t0:=z6 c1 h1;have H1:=qh (z7 HB.out h1);clear h1))
      go_ret
      exact ⟨rfl,H1.out⟩
    | false =>
      go_wp2_with (first | (go_at_call 61;refine K.out.mono ?_;rintro e w1 ⟨rfl,h1⟩;have H1:=qh (And.intro (z7 HB.out h1) (And.intro (z6 c0 h1) (And.intro (z6 c1 h1) (z6 c2 h1))));clear h1))
      go_roundw
      case rel=>exact ⟨2,by go_num,by omega,⟨fun _=>by first | trivial | rfl,fun _=>by first | trivial | rfl,fun h=>absurd h (by decide)⟩,H1.out⟩
      case measure=>simp [intOf]
  | 2,_ =>
    have hfn:∀ w,(Instr.index 99 (.agg #[(.func (.func 60) #[] #[.pointer (some ⟨X,0,none⟩)]),(.func (.func 61) #[] #[.pointer (some ⟨Y,0,none⟩),.pointer (some ⟨X,0,none⟩)]),(.func (.func 63) #[] #[.pointer (some ⟨X,0,none⟩)])]) (.int .i64 2)).run Tryz.prog w = .ok (.func (.func 63) #[] #[.pointer (some ⟨X,0,none⟩)]) w:=fun _=>by kernel_rfl
    have K:=qh (K3.out wr HB.out)
    have e1:b1=false:=HS.out.1 (by decide)
    have e2:b2=false:=HS.out.2.1 (by decide)
    subst e1 e2
    cases b3 with
    | true =>
      go_wp2_with (first | (go_at_call 63;refine K.out.mono ?_;rintro e w1 ⟨rfl,h1⟩;have t0:=z6 c2 h1;have H1:=qh (z7 HB.out h1);clear h1))
      go_ret
      exact ⟨rfl,H1.out⟩
    | false =>
      go_wp2_with (first | (go_at_call 63;refine K.out.mono ?_;rintro e w1 ⟨rfl,h1⟩;have H1:=qh (And.intro (z7 HB.out h1) (And.intro (z6 c0 h1) (And.intro (z6 c1 h1) (z6 c2 h1))));clear h1))
      go_roundw
      case rel=>exact ⟨3,by go_num,by omega,⟨fun _=>by first | trivial | rfl,fun _=>by first | trivial | rfl,fun _=>by first | trivial | rfl⟩,H1.out⟩
      case measure=>simp [intOf]
  | 3,_ =>
    have e1:b1=false:=HS.out.1 (by decide)
    have e2:b2=false:=HS.out.2.1 (by decide)
    have e3:b3=false:=HS.out.2.2 (by decide)
    subst e1 e2 e3
    go_wp2_with fail
    go_ret
    exact ⟨rfl,HB.out⟩
end
end Go.Proofs.YtchndljcahjldaaGreatDoor
