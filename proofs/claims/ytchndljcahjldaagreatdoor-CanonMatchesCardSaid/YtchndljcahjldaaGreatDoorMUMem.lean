/- A row of numbers of 64 bits in memory that is turned in place. -/
import Derived.Test.YtchndljcahjldaaGreatDoorMVApart
import Derived.Sort.LotA
import Derived.Sort.LotB
import Derived.Sort.LotC
import Derived.Sort.LotD3
import Derived.CellFam
namespace Go.Proofs.YtchndljcahjldaaGreatDoor
set_option maxRecDepth 100000
set_option maxHeartbeats 4000000
section
open Go.RowKit
open Go.Sort hiding Below
variable {w w':World} {g o j i:Nat} {d:Array Int} {x y:Value}
def z74 (w:World) (g o:Nat) (d:Array Int):Prop:=∀ j,j<d.size→w.cell? ⟨g,o+j,none⟩=some (.int .u64 d[j]!)∧w.frozen? ⟨g,o+j,none⟩=false
theorem z74.drew (h:z74 w g o d):z74 w.drew g o d:=h
theorem z74.cell (h:z74 w g o d) (hj:j<d.size):w.cell? ⟨g,o+j,none⟩=some (.int .u64 d[j]!):=(h j hj).1
theorem z74.free (h:z74 w g o d) (hj:j<d.size):w.frozen? ⟨g,o+j,none⟩=false:=(h j hj).2
theorem z74.apart {q:Nat→Prop} {A B:World} (h:z74 A g o d) (k:y5 q A B) (hg:¬ q g):z74 B g o d:=fun j hj=>by
 have hl:g<A.heap.size:=World.block_lt_of_cell? A _ (h.cell hj)
 have e:=k.block g hl hg
 exact ⟨by rw [World.cell?_of_block (w':=B) (w:=A) (a:=⟨g,o+j,none⟩) e];exact (h j hj).1,by rw [World.frozen?_of_block (w':=B) (w:=A) (a:=⟨g,o+j,none⟩) e];exact (h j hj).2⟩
theorem x08 (d:Array Int) (hi:i<d.size) (hj:j<d.size) (k:Nat):(swp d i j)[k]! = if k=j then d[i]! else if k=i then d[j]! else d[k]! := by
 by_cases h1:k=j
 ·subst h1;rw [if_pos rfl];exact swp_right d i k hj
 ·rw [if_neg h1]
  by_cases h2:k=i
  ·subst h2;rw [if_pos rfl];exact swp_left d k j hi h1
  ·rw [if_neg h2];exact swp_other d i j k h2 h1
theorem z74.swap (h:z74 w g o d) (hi:i<d.size) (hj:j<d.size) :
 z74 ((w.setCell ⟨g,o+i,none⟩ (.int .u64 d[j]!)).setCell ⟨g,o+j,none⟩ (.int .u64 d[i]!)) g o (swp d i j):=fun k hk=>by
 rw [size_swp] at hk
 refine ⟨?_,by rw [World.frozen?_setCell,World.frozen?_setCell];exact h.free hk⟩
 rw [x08 d hi hj]
 by_cases h1:k=j
 ·subst h1
  rw [if_pos rfl]
  by_cases h2:k=i
  ·subst h2
   exact World.cell?_setCell_same _ _ _ (World.cell?_setCell_same _ _ _ (h.cell hk))
  ·exact World.cell?_setCell_same _ _ _ ((World.cell?_setCell_other _ _ _ _ (by intro e;have:=congrArg Addr.off e;simp at this;omega)).trans (h.cell hk))
 ·rw [if_neg h1,World.cell?_setCell_other _ _ _ _ (by intro e;have:=congrArg Addr.off e;simp at this;omega)]
  by_cases h2:k=i
  ·subst h2
   rw [if_pos rfl]
   exact World.cell?_setCell_same _ _ _ (h.cell hk)
  ·rw [if_neg h2,World.cell?_setCell_other _ _ _ _ (by intro e;have:=congrArg Addr.off e;simp at this;omega)]
   exact h.cell hk
theorem c8 {p q:Addr} {v:Value} (h:w.cell? q=some v):∃ v',(w.setCell p x).cell? q=some v':=by
 by_cases e:p=q
 ·subst e;exact ⟨x,World.cell?_setCell_same _ _ _ h⟩
 ·exact ⟨v,(World.cell?_setCell_other _ _ _ _ e).trans h⟩
structure m6 (w:World) (g o:Nat) (d:Array Int) (w':World):Prop where
 row:z74 w' g o d
 apart:y5 (fun k=>k=g) w w'
theorem m6.start (h:z74 w g o d):m6 w g o d w:=⟨h,y5.refl _ _⟩
theorem m6.drew (h:m6 w g o d w'):m6 w g o d w'.drew:=⟨h.row.drew,h.apart.trans (y5.drew _ _)⟩
theorem m6.drewN (h:m6 w g o d w') (n:Nat):m6 w g o d (w'.drewN n):=⟨h.row,h.apart.trans (y5.drewN _ _ _)⟩
theorem m6.trans {w1 w2:World} {d2:Array Int} (h:m6 w g o d w1) (h2:m6 w1 g o d2 w2):m6 w g o d2 w2:=⟨h2.row,h.apart.trans h2.apart⟩
theorem m6.swap (h:m6 w g o d w') (hi:i<d.size) (hj:j<d.size) (hx:x = .int .u64 d[j]!) (hy:y = .int .u64 d[i]!) :
 m6 w g o (swp d i j) (((w'.setCell ⟨g,o+i,none⟩ x).setCell ⟨g,o+j,none⟩ y).drew):=by
 subst hx hy
 exact ⟨(h.row.swap hi hj).drew,((h.apart.trans (y5.set _ _ rfl)).trans (y5.set _ _ rfl)).trans (y5.drew _ _)⟩
theorem m6.swapN (h:m6 w g o d w') (n:Nat) (hi:i<d.size) (hj:j<d.size) (hx:x = .int .u64 d[j]!) (hy:y = .int .u64 d[i]!) :
 m6 w g o (swp d i j) (((w'.drewN n).setCell ⟨g,o+i,none⟩ x).setCell ⟨g,o+j,none⟩ y):=by
 subst hx hy
 exact ⟨(h.drewN n).row.swap hi hj,((h.drewN n).apart.trans (y5.set _ _ rfl)).trans (y5.set _ _ rfl)⟩
theorem m6.call {w'':World} (h:m6 w g o d w') (hb:Below w'.heap.size w' w''):m6 w g o d w'':=⟨h.row.apart (y5.of_below (fun _=>False) hb) id,h.apart.trans (y5.of_below _ hb)⟩
theorem v94 (x:Int) (w:World):Calls Tryz.prog 129 #[.int .u64 x] w fun e w'=>e = .returned (.bool false)∧w'=w:=by
 go_enter Tryz.func129,Tryz.ntmps129
 go_wp2_with fail
 go_ret
 exact ⟨by simp,rfl⟩
theorem zs5 (x y:Int) (w:World):Calls Tryz.prog 264 #[.int .u64 x,.int .u64 y] w fun e w'=>e = .returned (.bool (ltInt x y))∧w'=w:=by
 go_enter Tryz.func264,Tryz.ntmps264
 go_wp2_with (go_at_call 129;refine (v94 _ _).mono ?_;rintro e w' ⟨rfl,rfl⟩)
 go_ret
 exact ⟨rfl,rfl⟩
def zy0 (g o:Nat) (R:Array Int→Prop) (w:World) (e:Ending) (w':World):Prop:=e = .returned (.tuple #[])∧∃ d',R d'∧m6 w g o d' w'
theorem w47 (g o cap n:Nat) (d:Array Int) (hn:d.size=n) (a b:Nat) (w:World) (hH:z74 w g o d) (hab:a≤b) (hb:b≤d.size) (hsz:d.size<4611686018427387904) :
 Calls Tryz.prog 262 #[.slice (some ⟨g,o,none⟩) n cap,.int .i64 a,.int .i64 b] w (zy0 g o (PermIn a b d) w):=by
 subst hn
 have HH:=qh hH;clear hH
 go_enter Tryz.func262,Tryz.ntmps262
 go_wp2
 go_loopw [6,7] (fun vi vj wr=>∃ (i:Nat) (j:Int) (dk:Array Int),vi = .int .i64 i∧vj = .int .i64 j∧a≤i∧i≤b ∧ -1≤j∧j<b∧dk.size=d.size∧PermIn a b d dk∧m6 w g o dk wr) (fun _ vj _=>(intOf vj+1).toNat)
 case atStart=>exact ⟨a,(b:Int) - 1,d,rfl,rfl,Nat.le_refl _,hab,by omega,by omega,rfl,permIn_refl _ _ _,m6.start HH.out⟩
 case round =>
  obtain ⟨i,j,dk,rfl,rfl,h1,h2,h3,h4,hs,hp,hr⟩:=hrel
  have HP:=qh hp;clear hp
  have HR:=qh hr;clear hr
  by_cases hlt:(i:Int)<j
  ·obtain ⟨j,rfl⟩:∃ n:Nat,j=(n:Int):=⟨j.toNat,by omega⟩
   have hi':i<dk.size:=by omega
   have hj':j<dk.size:=by omega
   obtain ⟨x,hx⟩:∃ x,dk[i]! = x:=⟨_,rfl⟩
   obtain ⟨y,hy⟩:∃ y,dk[j]! = y:=⟨_,rfl⟩
   have ci:=HR.out.row.cell hi'
   have cj:=HR.out.row.cell hj'
   have fi:=HR.out.row.free hi'
   have fj:=HR.out.row.free hj'
   rw [hx] at ci
   rw [hy] at cj
   have HX:=qh hx;clear hx
   have HY:=qh hy;clear hy
   rw [hs] at hi' hj'
   have hlt':i<j:=by omega
   go_wp2
   go_region
   all_goals go_wp2
   all_goals go_roundw
   case rel=>exact ⟨i+1,(j:Int) - 1,swp dk i j,by go_num,by first | rfl | go_num,by omega,by omega,by omega,by omega,by rw [size_swp];exact hs,permIn_trans _ _ _ _ _ HP.out (swp_permIn _ _ _ _ _ (by omega) (by omega) (by omega) (by omega) (by omega)),HR.out.swap (by omega) (by omega) (by rw [HY.out]) (by rw [HX.out])⟩
   case measure=>simp [intOf] <;> omega
  ·go_wp2
   go_end0
   exact ⟨rfl,dk,HP.out,HR.out⟩
theorem wi6 (a j:Nat) (d:Array Int) (hj:a<j) (hl:ltInt d[j]! d[j - 1]! = true):insInner ltInt a j d=insInner ltInt a (j - 1) (swp d j (j - 1)):=by
 obtain ⟨k,rfl⟩:∃ k,j=k+1:=⟨j - 1,by omega⟩
 rw [Nat.add_sub_cancel] at hl ⊢
 rw [insInner,if_pos]
 rw [hl,Bool.and_true];exact decide_eq_true (by omega)
theorem xc2 (a j:Nat) (d:Array Int) (h:j≤a∨ltInt d[j]! d[j - 1]! = false):insInner ltInt a j d=d:=by
 cases j with
 | zero=>rfl
 | succ k =>
   rw [Nat.add_sub_cancel] at h
   rw [insInner,if_neg]
   rcases h with h | h
   ·rw [show decide (k+1 > a)=false from decide_eq_false (by omega)];simp
   ·rw [h];simp
theorem xc3 (g o cap n:Nat) (d:Array Int) (hn:d.size=n) (a b:Nat) (w:World) (hH:z74 w g o d) (hab:a≤b) (hb:b≤d.size) (hsz:d.size<4611686018427387904) :
 Calls Tryz.prog 258 #[.slice (some ⟨g,o,none⟩) n cap,.int .i64 a,.int .i64 b] w (zy0 g o (fun d'=>PermIn a b d d'∧SortedIn ltInt a b d') w):=by
 subst hn
 have HH:=qh hH;clear hH
 have HFIN:Hid (PermIn a b d (insertionSort ltInt d a b)∧SortedIn ltInt a b (insertionSort ltInt d a b)):=qh (insertionSort_holds swo_ltInt d a b hab hb)
 have KL:=qh zs5
 go_enter Tryz.func258,Tryz.ntmps258
 go_wp2
 go_loopw [6] (fun vi wr=>∃ (i:Nat) (dk:Array Int),vi = .int .i64 i∧a<i∧i≤b+1∧dk.size=d.size∧m6 w g o dk wr∧insOuter ltInt a b i dk=insertionSort ltInt d a b) (fun vi _=>b+1 - (intOf vi).toNat)
 case atStart=>exact ⟨a+1,d,by go_num,by omega,by omega,rfl,m6.start HH.out,rfl⟩
 case round =>
  obtain ⟨i,dk,rfl,h1,h2,hs,hr,he⟩:=hrel
  have HE:=qh he;clear he
  by_cases hlt:i<b
  ·go_wp2
   go_loopw [7] (fun vj wr=>∃ (j:Nat) (dj:Array Int),vj = .int .i64 j∧a≤j∧j≤i∧dj.size=d.size∧m6 w g o dj wr∧insInner ltInt a j dj=insInner ltInt a i dk) (fun vj _=>(intOf vj).toNat)
   case atStart=>exact ⟨i,dk,rfl,by omega,Nat.le_refl _,hs,hr,rfl⟩
   case round =>
    clear hr
    obtain ⟨j,dj,rfl,k1,k2,hsj,hr,hi⟩:=hrel
    obtain ⟨G,hG⟩:∃ G:Nat→Int,∀ t,dj[t]! = G t:=⟨fun t=>dj[t]!,fun _=>rfl⟩
    have hcw:∀ t,t<d.size→wr.cell? ⟨g,o+t,none⟩=some (.int .u64 (G t)):=fun t ht=>by rw [hr.row.cell (by omega),hG]
    have hfw:∀ t,t<d.size→wr.frozen? ⟨g,o+t,none⟩=false:=fun t ht=>hr.row.free (by omega)
    have HR:=qh hr;clear hr
    have HI:=qh hi;clear hi
    have HG:=qh hG;clear hG
    have OUT:Hid ((j≤a∨ltInt (G j) (G (j - 1))=false)→∀ q,∃ (i':Nat) (dk':Array Int),Value.int .i64 ((i:Int)+1) = .int .i64 i'∧a<i'∧i'≤b+1∧dk'.size=d.size∧m6 w g o dk' (wr.drewN q)∧insOuter ltInt a b i' dk'=insertionSort ltInt d a b):=
     qh fun hst q=>⟨i+1,dj,by go_num,by omega,by omega,hsj,HR.out.drewN q,by
      rw [← HE.out,insOuter.eq_def ltInt a b i dk,if_pos hlt,← HI.out,xc2 a j dj (by rw [HG.out,HG.out];exact hst)]⟩
    go_wp2
    by_cases hja:a<j
    ·go_quiet (first | (go_at_call 264;refine Calls.quiet_of_same (KL.out _ _ _)))
     go_wp2
     ·have hl:ltInt (G j) (G (j - 1))=true:=by assumption
      go_region
      all_goals go_wp2
      go_roundw
      case rel=>exact ⟨j - 1,swp dj j (j - 1),by congr 1;omega,by omega,by omega,by rw [size_swp];exact hsj,m6.drew (HR.out.swapN nq (by omega) (by omega) (by rw [HG.out]) (by rw [HG.out])),by rw [← HI.out,wi6 a j dj hja (by rw [HG.out,HG.out];exact hl)]⟩
      case measure=>simp [intOf] <;> omega
     ·have hl:ltInt (G j) (G (j - 1))=false:=by assumption
      go_roundw
      case rel=>exact OUT.out (Or.inr hl) nq
      case measure=>simp [intOf] <;> omega
    ·go_quiet (first | (go_at_call 264;refine Calls.quiet_of_same (KL.out _ _ _)))
     go_wp2
     go_roundw
     case rel=>exact OUT.out (Or.inl (by omega)) nq
     case measure=>simp [intOf] <;> omega
  ·go_wp2
   go_end0
   have e:dk=insertionSort ltInt d a b:=by rw [← HE.out,insOuter.eq_def,if_neg hlt]
   subst e
   exact ⟨rfl,_,HFIN.out,hr⟩
theorem yu2 (hi f r:Nat) (d:Array Int) (h:hi≤2*r+1):siftDown ltInt hi f r d=d:=by rw [siftDown,dif_pos h]
theorem yl7 {hi f r c:Nat} (h:¬ hi≤2*r+1)
 (hc:(2*r+2<hi∧ltInt d[f+(2*r+1)]! d[f+(2*r+1)+1]! = true∧c=2*r+2)∨((2*r+2<hi→ltInt d[f+(2*r+1)]! d[f+(2*r+1)+1]! = false)∧c=2*r+1)) :
 c<hi∧r<c∧(ltInt d[f+r]! d[f+c]! = false→siftDown ltInt hi f r d=d)∧(ltInt d[f+r]! d[f+c]! = true→siftDown ltInt hi f r d=siftDown ltInt hi f c (swp d (f+r) (f+c))):=by
 rcases hc with ⟨h2,hl,rfl⟩ | ⟨hn,rfl⟩
 ·refine ⟨h2,by omega,fun hf => ?_,fun ht => ?_⟩
  ·rw [siftDown,dif_neg h,if_pos (by rw [hl,Bool.and_true];exact decide_eq_true (by omega)),if_pos (by rw [hf];rfl)]
  ·rw [siftDown,dif_neg h,if_pos (by rw [hl,Bool.and_true];exact decide_eq_true (by omega)),if_neg (by rw [ht];simp),dif_pos h2]
 ·have hcond:¬ (decide (2*r+1+1<hi) && ltInt d[f+(2*r+1)]! d[f+(2*r+1)+1]!)=true:=by
   by_cases h2:2*r+2<hi
   ·rw [hn h2];simp
   ·rw [show decide (2*r+1+1<hi)=false from decide_eq_false (by omega)];simp
  refine ⟨by omega,by omega,fun hf => ?_,fun ht => ?_⟩
  ·rw [siftDown,dif_neg h,if_neg hcond,if_pos (by rw [hf];rfl)]
  ·rw [siftDown,dif_neg h,if_neg hcond,if_neg (by rw [ht];simp)]
theorem v10 (g o cap n:Nat) (d:Array Int) (hn:d.size=n) (lo hi f:Nat) (w:World) (hH:z74 w g o d) (hf:f+hi≤d.size) (hlo:lo≤d.size) (hsz:d.size<2305843009213693952) :
 Calls Tryz.prog 276 #[.slice (some ⟨g,o,none⟩) n cap,.int .i64 lo,.int .i64 hi,.int .i64 f] w (zy0 g o (fun d'=>d'=siftDown ltInt hi f lo d∧d'.size=d.size) w):=by
 subst hn
 have HH:=qh hH;clear hH
 have KL:=qh zs5
 go_enter Tryz.func276,Tryz.ntmps276
 go_wp2
 go_loopw [8] (fun vr wr=>∃ (r:Nat) (dk:Array Int),vr = .int .i64 r∧r≤d.size∧dk.size=d.size∧m6 w g o dk wr∧siftDown ltInt hi f r dk=siftDown ltInt hi f lo d) (fun vr _=>d.size - (intOf vr).toNat)
 case atStart=>exact ⟨lo,d,rfl,hlo,rfl,m6.start HH.out,rfl⟩
 case round =>
  obtain ⟨r,dk,rfl,h1,hs,hr,he⟩:=hrel
  obtain ⟨G,hG⟩:∃ G:Nat→Int,∀ t,dk[t]! = G t:=⟨fun t=>dk[t]!,fun _=>rfl⟩
  have hcw:∀ t,t<d.size→wr.cell? ⟨g,o+t,none⟩=some (.int .u64 (G t)):=fun t ht=>by rw [hr.row.cell (by omega),hG]
  have hfw:∀ t,t<d.size→wr.frozen? ⟨g,o+t,none⟩=false:=fun t ht=>hr.row.free (by omega)
  have HR:=qh hr;clear hr
  have HE:=qh he;clear he
  have HG:=qh hG;clear hG
  by_cases hend:hi≤2*r+1
  ·have HZ:=qh (yu2 hi f r dk hend)
   go_wp2
   go_end0
   exact ⟨rfl,dk,⟨by rw [← HE.out,HZ.out],hs⟩,HR.out⟩
  ·obtain ⟨c1,hc1⟩:∃ c1:Nat,2*r+1=c1:=⟨_,rfl⟩
   obtain ⟨p,hp⟩:∃ p:Nat,f+r=p:=⟨_,rfl⟩
   obtain ⟨p1,hp1⟩:∃ p1:Nat,f+c1=p1:=⟨_,rfl⟩
   have e1:2*(r:Int)+1=(c1:Int):=by omega
   have e2:(f:Int)+(r:Int)=(p:Int):=by omega
   have e3:(f:Int)+(c1:Int)=(p1:Int):=by omega
   have l0:p<d.size:=by omega
   have l1:p1<d.size:=by omega
   have l2:(c1:Int)<(hi:Int):=by omega
   have v0:IntKind.i64.wrap (p:Int)=(p:Int):=IntWalk.i64_in _ (by omega)
   have v1:IntKind.i64.wrap (p1:Int)=(p1:Int):=IntWalk.i64_in _ (by omega)
   have v2:IntKind.i64.wrap (c1:Int)=(c1:Int):=IntWalk.i64_in _ (by omega)
   have v5:IntKind.i64.wrap ((c1:Int)+1)=(c1:Int)+1:=IntWalk.i64_in _ (by omega)
   have HC:=qh (And.intro hend (And.intro hc1 (And.intro hp hp1)))
   have hways:(c1+1<hi∧ltInt (G p1) (G (p1+1))=true)∨(c1+1<hi∧ltInt (G p1) (G (p1+1))=false)∨¬ c1+1<hi:=by
    by_cases h2:c1+1<hi
    ·cases hb:ltInt (G p1) (G (p1+1))
     ·exact .inr (.inl ⟨h2,rfl⟩)
     ·exact .inl ⟨h2,rfl⟩
    ·exact .inr (.inr h2)
   have HCH:Hid (∀ c,((c1+1<hi∧ltInt (G p1) (G (p1+1))=true∧c=c1+1)∨((c1+1<hi→ltInt (G p1) (G (p1+1))=false)∧c=c1)) →
    c<hi∧r<c∧(ltInt (G p) (G (f+c))=false→siftDown ltInt hi f r dk=dk)∧(ltInt (G p) (G (f+c))=true→siftDown ltInt hi f r dk=siftDown ltInt hi f c (swp dk p (f+c)))):=qh fun c hc=>by
    have:=yl7 (d:=dk) (c:=c) (f:=f) hend (by
     rw [HG.out,HG.out,hc1,hp1]
     rcases hc with ⟨a1,a2,a3⟩ | ⟨a1,a2⟩
     ·exact .inl ⟨by omega,a2,by omega⟩
     ·exact .inr ⟨fun h=>a1 (by omega),a2⟩)
    rw [HG.out,HG.out,hp] at this
    exact this
   clear hend hc1 hp hp1
   rcases hways with ⟨h2,hb⟩ | ⟨h2,hb⟩ | h2
   ·obtain ⟨hS1,hS2,hS3,hS4⟩:=HCH.out (c1+1) (.inl ⟨h2,hb,rfl⟩)
    obtain ⟨c,hcc⟩:∃ c,c1+1=c:=⟨_,rfl⟩
    rw [hcc] at hS1 hS2 hS3 hS4
    obtain ⟨q,hq⟩:∃ q,f+c=q:=⟨_,rfl⟩
    rw [hq] at hS3 hS4
    have l3:q<d.size:=by omega
    have e5:(f:Int)+(c:Int)=(q:Int):=by omega
    have v3:IntKind.i64.wrap (q:Int)=(q:Int):=IntWalk.i64_in _ (by omega)
    have e6:(c1:Int)+1=(c:Int):=by omega
    have v4:IntKind.i64.wrap (c:Int)=(c:Int):=IntWalk.i64_in _ (by omega)
    have l4:p1+1<d.size:=by have:=HC.out.2.2.2;omega
    clear hcc hq
    go_wp2_with fail
    go_quiet (first | (go_at_call 264;refine Calls.quiet_of_same (KL.out _ _ _)))
    have HR:=qh (HR.out.drewN nq)
    have hcw:∀ t,t<d.size→(wr.drewN nq).cell? ⟨g,o+t,none⟩=some (.int .u64 (G t)):=fun t ht=>hcw t ht
    have hfw:∀ t,t<d.size→(wr.drewN nq).frozen? ⟨g,o+t,none⟩=false:=fun t ht=>hfw t ht
    generalize wr.drewN nq=W3 at HR hcw hfw ⊢
    go_wp2_with fail
    cases hbb:ltInt (G p) (G q) with
    | false =>
      have HZ:=qh (hS3 hbb);clear hS3 hS4
      go_quiet (first | (go_at_call 264;refine Calls.quiet_of_same (KL.out _ _ _)))
      all_goals go_wp2
      all_goals (refine bodyPost_ret (results_none rfl _ _ _) rfl ?_)
      exact ⟨rfl,dk,⟨by rw [← HE.out,HZ.out],hs⟩,HR.out.drewN _⟩
    | true =>
      have HZ:=qh (hS4 hbb);clear hS3 hS4
      go_quiet (first | (go_at_call 264;refine Calls.quiet_of_same (KL.out _ _ _)))
      all_goals go_wp2
      all_goals go_region
      all_goals go_wp2
      go_roundw
      case rel=>exact ⟨c,swp dk p q,rfl,by omega,by rw [size_swp];exact hs,m6.drew (HR.out.swapN (i:=p) (j:=q) nq (by omega) (by omega) (by rw [HG.out]) (by rw [HG.out])),by rw [← HE.out,HZ.out]⟩
      case measure=>simp [intOf] <;> omega
   ·obtain ⟨hS1,hS2,hS3,hS4⟩:=HCH.out c1 (.inr ⟨fun _=>hb,rfl⟩)
    have l5:(c1:Int)+1<(hi:Int):=by omega
    have hq:=HC.out.2.2.2
    rw [hq] at hS3 hS4
    have l4:p1+1<d.size:=by omega
    clear hq
    go_wp2_with fail
    go_quiet (first | (go_at_call 264;refine Calls.quiet_of_same (KL.out _ _ _)))
    have HR:=qh (HR.out.drewN nq)
    have hcw:∀ t,t<d.size→(wr.drewN nq).cell? ⟨g,o+t,none⟩=some (.int .u64 (G t)):=fun t ht=>hcw t ht
    have hfw:∀ t,t<d.size→(wr.drewN nq).frozen? ⟨g,o+t,none⟩=false:=fun t ht=>hfw t ht
    generalize wr.drewN nq=W3 at HR hcw hfw ⊢
    go_wp2_with fail
    cases hbb:ltInt (G p) (G p1) with
    | false =>
      have HZ:=qh (hS3 hbb);clear hS3 hS4
      go_quiet (first | (go_at_call 264;refine Calls.quiet_of_same (KL.out _ _ _)))
      all_goals go_wp2
      all_goals (refine bodyPost_ret (results_none rfl _ _ _) rfl ?_)
      exact ⟨rfl,dk,⟨by rw [← HE.out,HZ.out],hs⟩,HR.out.drewN _⟩
    | true =>
      have HZ:=qh (hS4 hbb);clear hS3 hS4
      go_quiet (first | (go_at_call 264;refine Calls.quiet_of_same (KL.out _ _ _)))
      all_goals go_wp2
      all_goals go_region
      all_goals go_wp2
      go_roundw
      case rel=>exact ⟨c1,swp dk p p1,rfl,by omega,by rw [size_swp];exact hs,m6.drew (HR.out.swapN (i:=p) (j:=p1) nq (by omega) (by omega) (by rw [HG.out]) (by rw [HG.out])),by rw [← HE.out,HZ.out]⟩
      case measure=>simp [intOf] <;> omega
   ·obtain ⟨hS1,hS2,hS3,hS4⟩:=HCH.out c1 (.inr ⟨fun h=>absurd h h2,rfl⟩)
    have l5:decide ((c1:Int)+1<(hi:Int))=false:=decide_eq_false (by omega)
    have hq:=HC.out.2.2.2
    rw [hq] at hS3 hS4
    clear hq
    go_wp2_with fail
    go_quiet (first | (go_at_call 264;refine Calls.quiet_of_same (KL.out _ _ _)))
    have HR:=qh (HR.out.drewN nq)
    have hcw:∀ t,t<d.size→(wr.drewN nq).cell? ⟨g,o+t,none⟩=some (.int .u64 (G t)):=fun t ht=>hcw t ht
    have hfw:∀ t,t<d.size→(wr.drewN nq).frozen? ⟨g,o+t,none⟩=false:=fun t ht=>hfw t ht
    generalize wr.drewN nq=W3 at HR hcw hfw ⊢
    go_wp2_with fail
    cases hbb:ltInt (G p) (G p1) with
    | false =>
      have HZ:=qh (hS3 hbb);clear hS3 hS4
      go_quiet (first | (go_at_call 264;refine Calls.quiet_of_same (KL.out _ _ _)))
      all_goals go_wp2
      all_goals (refine bodyPost_ret (results_none rfl _ _ _) rfl ?_)
      exact ⟨rfl,dk,⟨by rw [← HE.out,HZ.out],hs⟩,HR.out.drewN _⟩
    | true =>
      have HZ:=qh (hS4 hbb);clear hS3 hS4
      go_quiet (first | (go_at_call 264;refine Calls.quiet_of_same (KL.out _ _ _)))
      all_goals go_wp2
      all_goals go_region
      all_goals go_wp2
      go_roundw
      case rel=>exact ⟨c1,swp dk p p1,rfl,by omega,by rw [size_swp];exact hs,m6.drew (HR.out.swapN (i:=p) (j:=p1) nq (by omega) (by omega) (by rw [HG.out]) (by rw [HG.out])),by rw [← HE.out,HZ.out]⟩
      case measure=>simp [intOf] <;> omega
theorem v11 (g o cap n:Nat) (d:Array Int) (hn:d.size=n) (a b:Nat) (w:World) (hH:z74 w g o d) (hab:a≤b) (hb:b≤d.size) (hsz:d.size<2305843009213693952) :
 Calls Tryz.prog 259 #[.slice (some ⟨g,o,none⟩) n cap,.int .i64 a,.int .i64 b] w (zy0 g o (fun d'=>PermIn a b d d'∧SortedIn ltInt a b d') w):=by
 subst hn
 have HH:=qh hH;clear hH
 have HFIN:Hid (PermIn a b d (heapSort ltInt d a b)∧SortedIn ltInt a b (heapSort ltInt d a b)):=qh (heapSort_holds swo_ltInt d a b hab hb)
 have KS:=qh v10
 obtain ⟨m,hm⟩:∃ m:Nat,b - a=m:=⟨_,rfl⟩
 have e1:(b:Int) - (a:Int)=(m:Int):=by omega
 have v1:IntKind.i64.wrap (m:Int)=(m:Int):=IntWalk.i64_in _ (by omega)
 obtain ⟨q,hq⟩:∃ q:Nat,(m - 1) / 2+1=q:=⟨_,rfl⟩
 have e2:((m:Int) - 1).tdiv 2=(q:Int) - 1:=by
  rcases Nat.eq_zero_or_pos m with h | h
  ·subst h;rw [← hq];rfl
  ·rw [show (m:Int) - 1=((m - 1:Nat):Int) from by omega,show ((m - 1:Nat):Int).tdiv 2=(((m - 1) / 2:Nat):Int) from rfl];omega
 have HD:=qh (show heapSort ltInt d a b=heapPop ltInt a m (heapBuild ltInt m a q d) by unfold heapSort;rw [hm,hq])
 have hqn:q≤m+1:=by omega
 clear hq
 go_enter Tryz.func259,Tryz.ntmps259
 go_wp2_with fail
 go_loopw [9] (fun vi wr=>∃ (k:Nat) (z:Int) (dk:Array Int),vi = .int .i64 z∧z=(k:Int) - 1∧k≤q∧dk.size=d.size∧m6 w g o dk wr∧heapPop ltInt a m (heapBuild ltInt m a k dk)=heapSort ltInt d a b) (fun vi _=>(intOf vi+1).toNat)
 case atStart=>exact ⟨q,_,d,rfl,rfl,Nat.le_refl _,rfl,m6.start HH.out,HD.out.symm⟩
 case round =>
  obtain ⟨k,z,dk,rfl,hz,hk,hs,hr,he⟩:=hrel
  have HR:=qh hr;clear hr
  have HE:=qh he;clear he
  cases k with
  | zero =>
    obtain rfl:z = -1:=by omega
    clear hz
    go_wp2_with fail
    obtain ⟨z2,hz2⟩:∃ z2,(m:Int) - 1=z2:=⟨_,rfl⟩
    rw [hz2]
    go_loopw [10] (fun vi wr=>∃ (k:Nat) (z:Int) (dk:Array Int),vi = .int .i64 z∧z=(k:Int) - 1∧k≤m∧dk.size=d.size∧m6 w g o dk wr∧heapPop ltInt a k dk=heapSort ltInt d a b) (fun vi _=>(intOf vi+1).toNat)
    case atStart=>exact ⟨m,_,dk,rfl,hz2.symm,Nat.le_refl _,hs,HR.out,HE.out⟩
    case round =>
     clear hs HR HE hk
     obtain ⟨k,z,dk,rfl,hz,hk,hs,hr,he⟩:=hrel
     cases k with
     | zero =>
       obtain rfl:z = -1:=by omega
       clear hz
       go_wp2_with fail
       go_end0
       refine ⟨rfl,dk,?_,hr⟩
       rw [show dk=heapSort ltInt d a b from he]
       exact HFIN.out
     | succ k =>
       obtain rfl:z=(k:Int):=by omega
       obtain ⟨G,hG⟩:∃ G:Nat→Int,∀ t,dk[t]! = G t:=⟨fun t=>dk[t]!,fun _=>rfl⟩
       have hcw:∀ t,t<d.size→wr.cell? ⟨g,o+t,none⟩=some (.int .u64 (G t)):=fun t ht=>by rw [hr.row.cell (by omega),hG]
       have hfw:∀ t,t<d.size→wr.frozen? ⟨g,o+t,none⟩=false:=fun t ht=>hr.row.free (by omega)
       obtain ⟨p,hp⟩:∃ p:Nat,a+k=p:=⟨_,rfl⟩
       have e3:(a:Int)+(k:Int)=(p:Int):=by omega
       have v3:IntKind.i64.wrap (p:Int)=(p:Int):=IntWalk.i64_in _ (by omega)
       have l0:a<d.size:=by omega
       have l1:p<d.size:=by omega
       have HSW:=qh (fun (x y:Value) hx hy=>hr.swap (i:=a) (j:=p) (x:=x) (y:=y) (by omega) (by omega) hx hy)
       obtain ⟨v',hy'⟩:=c8 (w:=wr) (p:=⟨g,o+a,none⟩) (x := .int .u64 (G p)) (hcw p l1)
       have HG:=qh hG;clear hG
       have HE:=qh (show heapPop ltInt a k (siftDown ltInt k a 0 (swp dk a p))=heapSort ltInt d a b by rw [← he,← hp];rfl)
       clear he hr hz hp
       go_wp2_with fail
       go_region
       all_goals (
        go_wp2_with fail
        have HR2:=qh (HSW.out _ _ (by rw [HG.out]) (by rw [HG.out]))
        refine (KS.out g o cap d.size (swp dk a p) (by rw [size_swp];exact hs) 0 k a _ HR2.out.row (by rw [size_swp];omega) (by omega) (by rw [size_swp];omega)).mono ?_
        rintro e w2 ⟨rfl,d2,⟨hd2,hs2⟩,hr2⟩
        go_wp2_with fail
        go_roundw)
       case rel=>exact ⟨k,_,d2,rfl,by omega,by omega,by rw [hs2,size_swp];exact hs,HR2.out.trans hr2,by rw [hd2];exact HE.out⟩
       case measure=>simp [intOf] <;> omega
  | succ k =>
    obtain rfl:z=(k:Int):=by omega
    clear hz
    have K:=qh (KS.out g o cap d.size dk hs k m a _ HR.out.row (by omega) (by omega) (by omega))
    go_wp2_with fail
    refine K.out.mono ?_
    rintro e w2 ⟨rfl,d2,⟨hd2,hs2⟩,hr2⟩
    go_wp2_with fail
    go_roundw
    case rel=>exact ⟨k,_,d2,rfl,by omega,by omega,hs2.trans hs,HR.out.trans hr2,by rw [hd2];exact HE.out⟩
    case measure=>simp [intOf] <;> omega
end
end Go.Proofs.YtchndljcahjldaaGreatDoor
