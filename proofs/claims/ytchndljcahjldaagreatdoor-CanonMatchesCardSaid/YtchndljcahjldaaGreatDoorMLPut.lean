/- A number put in its place in a list of numbers of a call's own (kenningref10's put). Conditions: as the theorem says. -/
import Derived.Test.YtchndljcahjldaaGreatDoorMPMath
import Derived.Test.YtchndljcahjldaaGreatDoorMVPieces
namespace Go.Proofs.YtchndljcahjldaaGreatDoor
section
open Go.RowKit
variable {S:List Int} {x m r:Int} {w w1 w' W:World} {s a:Value} {H:List Iv} {n n' h h' L b BB k:Nat} {A B V:v6} {t:TypeId} {p:Addr}
theorem yx1:∀ {l m:List Int},zg0 l→zg0 m→(∀ x,x ∈ l↔x ∈ m)→l=m
 | [],[],_,_,_=>rfl
 | [],y :: m,_,_,h=>by have:=(h y).2 (by simp);cases this
 | x :: l,[],_,_,h=>by have:=(h x).1 (by simp);cases this
 | x :: l,y :: m,hl,hm,h=>by
   have h1:=List.pairwise_cons.1 hl
   have h2:=List.pairwise_cons.1 hm
   have hxy:x=y:=by
    rcases List.mem_cons.1 ((h x).1 (by simp)) with e | hx
    ·exact e
    ·rcases List.mem_cons.1 ((h y).2 (by simp)) with e | hy
     all_goals grind
   subst hxy
   rw [yx1 h1.2 h2.2 fun z => ?_]
   grind
theorem xz4 (h:zg0 S) (hx:x ∈ S):b7 S x=S:=
 yx1 (yz6 h x) h fun y=>by rw [yz5 h];exact ⟨fun hy=>hy.elim id fun e=>e ▸ hx,.inl⟩
theorem xr1 (h:zg0 S) {q:Nat} (h1:∀ (j:Nat) y,j<q→S[j]? = some y→y<x) (h2:∀ y,S[q]? = some y→x<y):b7 S x=S.take q++x :: S.drop q:=by
 have ht:∀ y ∈ S.take q,y<x:=fun y hy=>by grind [List.mem_iff_getElem?]
 have hd:∀ y ∈ S.drop q,x<y:=fun y hy=>by
  obtain ⟨j,hj⟩:=List.mem_iff_getElem?.1 hy
  rw [List.getElem?_drop] at hj
  cases j with
  | zero=>exact h2 y hj
  | succ j =>
    have hlt:=(List.getElem?_eq_some_iff.1 hj).1
    have hq:S[q]? = some (S[q]'(by omega)):=by simp [show q<S.length by omega]
    have a:=h2 _ hq
    have b:=List.pairwise_iff_getElem.1 h q (q+(j+1)) (by omega) hlt (by omega)
    grind
 have hasc:zg0 (S.take q++x :: S.drop q):=by grind [zg0,List.Pairwise.sublist,List.take_sublist,List.pairwise_cons,List.drop_sublist]
 grind [yx1,yz6,yz5,List.take_append_drop]
theorem r4 (w:World) (k:Nat) (hk:k=w.heap.size) (B:Nat) (hB:B≤w.heap.size):(w.alloc (.cells #[] 36)).ownsRow B 36 1 (.slice (some ⟨k,0,none⟩) 0 0) 0 []:=by
 subst hk
 exact World.ownsRow_lit w #[] 0 hB (Nat.zero_le _) rfl
theorem y03 (S:List Int) (q:Nat):(e8 S).take q=e8 (S.take q):=by unfold e8;rw [List.map_take]
theorem zc0 (w:World) (x:Int) (k:Nat) (hk:k=w.heap.size):∀ j u,[Value.int .u64 x][j]? = some u→(w.alloc (.cells #[.int .u64 x] 36)).cell? ((⟨k,0,none⟩:Addr).add j)=some u:=by
 subst hk
 intro j u h
 match j,h with
 | 0,h=>simp at h;subst h;simp [Addr.add]
theorem z87 {g:Nat} (h:w.cell? ⟨g,0,none⟩=some (.int .u64 x)):∀ j u,[Value.int .u64 x][j]? = some u→w.cell? ((⟨g,0,none⟩:Addr).add j)=some u:=by
 intro j u hj
 match j,hj with
 | 0,hj=>simp at hj;subst hj;rw [Addr.add_lit];exact h
def wb4 (B:Nat) (L:List Int) (w:World) (e:Ending) (w':World):Prop:=∃ u,e = .returned u∧d7 w' B u L∧Below w.heap.size w w'
set_option maxRecDepth 100000 in
set_option maxHeartbeats 8000000 in
theorem xz5 (x:Int) (w:World) (B:Nat) (hB:B≤w.heap.size):Calls Tryz.prog 209 #[.slice none 0 0,.int .u64 x] w (wb4 B [x] w):=by
 obtain ⟨i0,hi',hz0,hz1,hz2⟩:=info_parts yl2
 have HBB:=qh hB;clear hB
 go_enter Tryz.func209,Tryz.ntmps209
 go_wp2_with fail
 go_loopw [5] (fun i wr=>i = .int .i64 0∧wr=w) (fun _ _=>0)
 case atStart=>exact ⟨rfl,rfl⟩
 case round =>
  obtain ⟨rfl,rfl⟩:=hrel
  go_wp2_with fail
  have hS0:Below wr.heap.size wr wr:=Below.refl _ _
  go_region_held3 (fun w'=>Below wr.heap.size wr w')
   (first
     | assumption
     | exact (by assumption:Below wr.heap.size wr _).drew
     | exact z7 (by assumption) (z8 _ _)
     | exact z7 (by assumption) (Below.refl _ _).drew)
   (first
     | ((refine zj3 (by rfl) (.tmp 33) (.tmp 36) _ (by rfl) wr.heap.size 36 i0 1 Tryz.underlying147 hi' _ 0 [] (by rfl) (by first | exact y6 (r4 wr _ rfl _ (Nat.le_refl _)) (Below.refl _ _).drew | exact y6 (r4 wr _ rfl _ (Nat.le_refl _)) (z8 _ _).drew | exact y6 (r4 (wr.alloc _) _ (by simp) _ (by simp)) (Below.refl _ _).drew) (by rfl) ?_))
     | ((refine q7 (by rfl) (.tmp 37) (.tmp 39) _ (by rfl) wr.heap.size 36 i0 (.int .u64 0) 1 8 Tryz.underlying147 hi' hz0 hz1 hz2 rfl (by decide) _ 0 [] (by rfl) (by first | exact y6 (r4 wr _ rfl _ (Nat.le_refl _)) (Below.refl _ _).drew | exact y6 (r4 wr _ rfl _ (Nat.le_refl _)) (z8 _ _).drew | exact y6 (r4 (wr.alloc _) _ (by simp) _ (by simp)) (Below.refl _ _).drew) ⟨_,0,none⟩ 1 1 [.int .u64 x] (by rfl) rfl (by first | exact zc0 (wr.alloc _) x _ (by simp) | exact fun j u h=>z6 (zc0 wr x _ rfl j u h) (z8 _ _).drew) (by simp [Value.oneCell']) (by unfold maxLen;omega) (by omega) (Below.size (by assumption)) ?_;intro v2 w2 hown2 hgrow2;have HG2:=qh (x8 (by assumption) (by first | exact y6 (r4 wr _ rfl _ (Nat.le_refl _)) (Below.refl _ _).drew | exact y6 (r4 wr _ rfl _ (Nat.le_refl _)) (z8 _ _).drew | exact y6 (r4 (wr.alloc _) _ (by simp) _ (by simp)) (Below.refl _ _).drew) hgrow2 (Below.size (by assumption)));have HO2:=qh hown2;clear hown2 hgrow2))
     | ((refine zj3 (by rfl) (.tmp 40) (.tmp 43) _ (by rfl) wr.heap.size 36 i0 1 Tryz.underlying147 hi' _ _ _ (by rfl) HO2.out (by rfl) ?_)))
  all_goals
   obtain ⟨pv,cv,rfl,_⟩:=y8 HO2.out
   have HO3:Hid (d7 w2 B (.slice pv (0+1) cv) [x]):=qh (p8 HO2.out HBB.out)
   go_wp2_with fail
   go_ret
   exact ⟨_,rfl,HO3.out,HG2.out⟩
theorem wb5 {L:List Int} {i:Nat} (h:L[i]? = some x):(e8 L)[i]? = some (.int .u64 x):=by unfold e8;rw [List.getElem?_map,h];rfl
theorem zt4 (h:((w.alloc (.cells #[] 36)).alloc (.cells #[.int .u64 x] 36)).drew.grownBy w1 (some w.heap.size)):w1.cell? ⟨w.heap.size+1,0,none⟩=some (.int .u64 x):=by
 have h1:=h.block (w.heap.size+1) (by show _<((w.alloc _).alloc _).heap.size;simp) (by intro e;have:=Option.some.inj e;omega)
 rw [World.cell?_of_block (a:=⟨w.heap.size+1,0,none⟩) h1]
 exact zc0 (w.alloc (.cells #[] 36)) x (w.heap.size+1) (by simp) 0 _ rfl
theorem zm8 (h:((w.alloc (.cells #[.int .u64 x] 36)).alloc (.cells #[] 36)).drew.grownBy w1 (some (w.heap.size+1))):w1.cell? ⟨w.heap.size,0,none⟩=some (.int .u64 x):=by
 have h1:=h.block w.heap.size (by show _<((w.alloc _).alloc _).heap.size;simp;omega) (by intro e;have:=Option.some.inj e;omega)
 rw [World.cell?_of_block (a:=⟨w.heap.size,0,none⟩) h1]
 exact z6 (zc0 w x w.heap.size rfl 0 _ rfl) (z8 (w.alloc (.cells #[.int .u64 x] 36)) _).drew
set_option maxRecDepth 100000 in
set_option maxHeartbeats 16000000 in
theorem xj1 (S:List Int) (x:Int) (g cv:Nat) (w:World) (B:Nat) (hB:B≤w.heap.size) (hown:d7 w B (.slice (some ⟨g,0,none⟩) S.length cv) S) (hasc:zg0 S) (hl:S.length≤99999):Calls Tryz.prog 209 #[.slice (some ⟨g,0,none⟩) S.length cv,.int .u64 x] w (wb4 B (b7 S x) w):=by
 obtain ⟨i0,hi',hz0,hz1,hz2⟩:=info_parts yl2
 have HBB:=qh hB;clear hB
 have hrow:w.ownsRow B 36 1 (.slice (some ⟨g,0,none⟩) S.length cv) S.length (e8 S):=hown
 have hroom:=yl3 hrow
 have HRM:=qh hroom
 have HCV:=qh (fun (j:Nat) (u:Value) (hu:(e8 S)[j]? = some u)=>(show w.cell? ⟨g,j,none⟩=some u by
  rw [hrow.cellAt j (by have:=(List.getElem?_eq_some_iff.1 hu).1;rw [z80] at this;exact this)];exact hu))
 have HOW:=qh hown;have HAS:=qh hasc
 clear hrow hown hasc
 go_enter Tryz.func209,Tryz.ntmps209
 go_wp2_with fail
 go_loopw [5] (fun i wr=>∃ q:Nat,i = .int .i64 q∧q≤S.length∧(∀ (j:Nat) y,j<q→S[j]? = some y→y<x)∧w=wr) (fun i _=>S.length - (intOf i).toNat)
 case atStart=>exact ⟨0,rfl,Nat.zero_le _,fun j y hj=>absurd hj (Nat.not_lt_zero j),rfl⟩
 case round =>
  obtain ⟨q,rfl,hq,hbef,rfl⟩:=hrel
  have HBF:=qh hbef;clear hbef
  by_cases hlt:q<S.length
  ·obtain ⟨y,hy⟩:∃ y,S[q]? = some y:=⟨S[q],by simp [hlt]⟩
   have c0:w.cell? ⟨g,q,none⟩=some (.int .u64 y):=HCV.out q _ (wb5 hy)
   have i1:(0:Int)≤(q:Int):=by omega
   have i2:(q:Int)<(S.length:Int):=by omega
   have HY:=qh hy;clear hy
   by_cases h1:y<x
   ·go_wp2_with fail
    go_roundw
    case rel=>exact ⟨q+1,by go_num,by omega,fun j z hj hz=>by
     rcases Nat.lt_or_eq_of_le (Nat.le_of_lt_succ hj) with h | h
     ·exact HBF.out j z h hz
     ·subst h
      obtain rfl:=Option.some.inj (HY.out.symm.trans hz)
      exact h1,by trivial⟩
    case measure=>simp [intOf];omega
   ·have e0:decide (y<x)=false:=decide_eq_false h1
    by_cases h2:y=x
    ·subst h2
     have HF:Hid (d7 w B (.slice (some ⟨g,0,none⟩) S.length cv) (b7 S y)):=qh (by rw [xz4 HAS.out (List.mem_iff_getElem?.2 ⟨q,HY.out⟩)];exact HOW.out)
     go_wp2_with fail
     go_ret
     exact ⟨_,rfl,HF.out,Below.refl _ _⟩
    ·have HI:=qh (xr1 HAS.out HBF.out (fun z hz=>by
      obtain rfl:=Option.some.inj (HY.out.symm.trans hz)
      omega))
     have e1:(y == x)=false:=by simpa using h2
     clear h2
     by_cases hce:cv=q
     ·subst cv
      have HLD:=qh (show (e8 (S.drop q)).length=(S.length - q)*1 by rw [z80,List.length_drop])
      have HLT:=qh (show (e8 (S.take q)).length=q*1 by rw [z80,List.length_take];omega)
      have HND:=qh (show e8 (S.drop q) = [] by unfold e8;rw [List.drop_of_length_le (by have:=HRM.out;omega)];rfl)
      have HCD:=qh (fun (W':World) (_:Below w.heap.size w W') (j:Nat) (u:Value) (hu:(e8 (S.drop q))[j]? = some u)=>(show W'.cell? ((⟨g,0,none⟩:Addr).add j)=some u by rw [HND.out] at hu;simp at hu))
      have HCT:=qh (fun (W':World) (h:Below w.heap.size w W') (j:Nat) (u:Value) (hu:(e8 (S.take q))[j]? = some u)=>(show W'.cell? ((⟨g,0,none⟩:Addr).add j)=some u by
       rw [Addr.add_lit,Nat.zero_add];exact z6 (HCV.out j u (by
        rw [← y03,List.getElem?_take] at hu
        split at hu
        ·exact hu
        ·cases hu)) h))
      have s1:(0:Int)≤(q:Int):=by omega
      have s2:(q:Int)≤(q:Int):=by have:=HRM.out;omega
      have s3:(q:Int)≤(S.length:Int):=by omega
      clear hroom
      go_wp2_with fail
      have hS0:Below w.heap.size w w:=Below.refl _ _
      go_region_held3 (fun w'=>Below w.heap.size w w')
       (first
         | assumption
         | exact (by assumption:Below w.heap.size w _).drew
         | exact z7 (by assumption) (z8 _ _)
         | exact z7 (by assumption) (Below.refl _ _).drew)
       (first
         | ((refine q7 (by rfl) (.tmp 33) (.tmp 36) _ (by rfl) w.heap.size 36 i0 (.int .u64 0) 1 8 Tryz.underlying147 hi' hz0 hz1 hz2 rfl (by decide) _ 0 [] (by rfl) (by first | exact y6 (r4 w _ rfl _ (Nat.le_refl _)) (Below.refl _ _).drew | exact y6 (r4 w _ rfl _ (Nat.le_refl _)) (z8 _ _).drew | exact y6 (r4 (w.alloc _) _ (by simp) _ (by simp)) (Below.refl _ _).drew) ⟨g,0,none⟩ q q (e8 (S.take q)) (by rfl) HLT.out (HCT.out _ (by assumption)) (z48 _) (by unfold maxLen;omega) (by omega) (Below.size (by assumption)) ?_;intro v1 w1 hown1 hgrow1;rw [Nat.zero_add,List.nil_append] at hown1;have HG1:=qh (x8 (by assumption) (by first | exact y6 (r4 w _ rfl _ (Nat.le_refl _)) (Below.refl _ _).drew | exact y6 (r4 w _ rfl _ (Nat.le_refl _)) (z8 _ _).drew | exact y6 (r4 (w.alloc _) _ (by simp) _ (by simp)) (Below.refl _ _).drew) hgrow1 (Below.size (by assumption)));obtain ⟨p1,c1,rfl,_⟩:=y8 hown1;have HO1:=qh hown1;(first | (have HCX:=qh (z87 (zt4 hgrow1))) | (have HCX:=qh (z87 (zm8 hgrow1))) | skip);have hS1:=HG1.out;clear hown1 hgrow1))
         | ((refine q7 (by rfl) (.tmp 37) (.tmp 39) _ (by rfl) w.heap.size 36 i0 (.int .u64 0) 1 8 Tryz.underlying147 hi' hz0 hz1 hz2 rfl (by decide) _ q _ (by rfl) (by first | exact HO1.out | exact y6 HO1.out (z8 _ _)) ⟨_,0,none⟩ 1 1 [.int .u64 x] (by rfl) rfl (by first | exact HCX.out | exact zc0 w1 x _ rfl) (by simp [Value.oneCell']) (by unfold maxLen;omega) (by omega) (Below.size (by assumption)) ?_;intro v2 w2 hown2 hgrow2;have HG2:=qh (x8 (by assumption) (by first | exact HO1.out | exact y6 HO1.out (z8 _ _)) hgrow2 (Below.size (by assumption)));obtain ⟨p2,c2,rfl,_⟩:=y8 hown2;have HO2:=qh hown2;have hS2:=HG2.out;clear hown2 hgrow2))
         | ((refine q7 (by rfl) (.tmp 40) (.tmp 43) _ (by rfl) w.heap.size 36 i0 (.int .u64 0) 1 8 Tryz.underlying147 hi' hz0 hz1 hz2 rfl (by decide) _ (q+1) _ (by rfl) HO2.out ⟨g,0,none⟩ (S.length - q) 0 (e8 (S.drop q)) (by rfl) HLD.out (HCD.out _ hS2) (z48 _) (by unfold maxLen;omega) (by omega) hS2.size ?_;intro v3 w3 hown3 hgrow3;have HG3:=qh (x8 hS2 HO2.out hgrow3 hS2.size);obtain ⟨p3,c3,rfl,_⟩:=y8 hown3;have HO3:=qh hown3;clear hown3 hgrow3)))
      all_goals
       have HF:Hid (d7 w3 B (.slice p3 (q+1+(S.length - q)) c3) (b7 S x)):=qh (by
        have e1:(b7 S x).length=q+1+(S.length - q):=by rw [HI.out,List.length_append,List.length_cons,List.length_take,List.length_drop];omega
        have e2:e8 (b7 S x)=e8 (S.take q) ++ [.int .u64 x]++e8 (S.drop q):=by rw [HI.out];simp [e8]
        unfold d7
        rw [e1,e2]
        exact p8 HO3.out HBB.out)
       clear HO3
       go_wp2_with fail
       go_ret
       exact ⟨_,rfl,HF.out,HG3.out⟩
     ·have hce0:¬ cv - q=0:=by have:=HRM.out;omega
      have HLD:=qh (show (e8 (S.drop q)).length=(S.length - q)*1 by rw [z80,List.length_drop])
      have HLT:=qh (show (e8 (S.take q)).length=q*1 by rw [z80,List.length_take];omega)
      have HCD:=qh (fun (W':World) (h:Below w.heap.size w W') (j:Nat) (u:Value) (hu:(e8 (S.drop q))[j]? = some u)=>(show W'.cell? ((⟨g,q,none⟩:Addr).add j)=some u by
       rw [Addr.add_lit];exact z6 (HCV.out (q+j) u (ye3 S q j hu)) h))
      have HCT:=qh (fun (W':World) (h:Below w.heap.size w W') (j:Nat) (u:Value) (hu:(e8 (S.take q))[j]? = some u)=>(show W'.cell? ((⟨g,0,none⟩:Addr).add j)=some u by
       rw [Addr.add_lit,Nat.zero_add];exact z6 (HCV.out j u (by
        rw [← y03,List.getElem?_take] at hu
        split at hu
        ·exact hu
        ·cases hu)) h))
      have s1:(0:Int)≤(q:Int):=by omega
      have s2:(q:Int)≤(cv:Int):=by have:=HRM.out;omega
      have s3:(q:Int)≤(S.length:Int):=by omega
      clear hroom
      go_wp2_with fail
      have hS0:Below w.heap.size w w:=Below.refl _ _
      go_region_held3 (fun w'=>Below w.heap.size w w')
       (first
         | assumption
         | exact (by assumption:Below w.heap.size w _).drew
         | exact z7 (by assumption) (z8 _ _)
         | exact z7 (by assumption) (Below.refl _ _).drew)
       (first
         | ((refine q7 (by rfl) (.tmp 33) (.tmp 36) _ (by rfl) w.heap.size 36 i0 (.int .u64 0) 1 8 Tryz.underlying147 hi' hz0 hz1 hz2 rfl (by decide) _ 0 [] (by rfl) (by first | exact y6 (r4 w _ rfl _ (Nat.le_refl _)) (Below.refl _ _).drew | exact y6 (r4 w _ rfl _ (Nat.le_refl _)) (z8 _ _).drew | exact y6 (r4 (w.alloc _) _ (by simp) _ (by simp)) (Below.refl _ _).drew) ⟨g,0,none⟩ q cv (e8 (S.take q)) (by rfl) HLT.out (HCT.out _ (by assumption)) (z48 _) (by unfold maxLen;omega) (by omega) (Below.size (by assumption)) ?_;intro v1 w1 hown1 hgrow1;rw [Nat.zero_add,List.nil_append] at hown1;have HG1:=qh (x8 (by assumption) (by first | exact y6 (r4 w _ rfl _ (Nat.le_refl _)) (Below.refl _ _).drew | exact y6 (r4 w _ rfl _ (Nat.le_refl _)) (z8 _ _).drew | exact y6 (r4 (w.alloc _) _ (by simp) _ (by simp)) (Below.refl _ _).drew) hgrow1 (Below.size (by assumption)));obtain ⟨p1,c1,rfl,_⟩:=y8 hown1;have HO1:=qh hown1;(first | (have HCX:=qh (z87 (zt4 hgrow1))) | (have HCX:=qh (z87 (zm8 hgrow1))) | skip);have hS1:=HG1.out;clear hown1 hgrow1))
         | ((refine q7 (by rfl) (.tmp 37) (.tmp 39) _ (by rfl) w.heap.size 36 i0 (.int .u64 0) 1 8 Tryz.underlying147 hi' hz0 hz1 hz2 rfl (by decide) _ q _ (by rfl) (by first | exact HO1.out | exact y6 HO1.out (z8 _ _)) ⟨_,0,none⟩ 1 1 [.int .u64 x] (by rfl) rfl (by first | exact HCX.out | exact zc0 w1 x _ rfl) (by simp [Value.oneCell']) (by unfold maxLen;omega) (by omega) (Below.size (by assumption)) ?_;intro v2 w2 hown2 hgrow2;have HG2:=qh (x8 (by assumption) (by first | exact HO1.out | exact y6 HO1.out (z8 _ _)) hgrow2 (Below.size (by assumption)));obtain ⟨p2,c2,rfl,_⟩:=y8 hown2;have HO2:=qh hown2;have hS2:=HG2.out;clear hown2 hgrow2))
         | ((refine q7 (by rfl) (.tmp 40) (.tmp 43) _ (by rfl) w.heap.size 36 i0 (.int .u64 0) 1 8 Tryz.underlying147 hi' hz0 hz1 hz2 rfl (by decide) _ (q+1) _ (by rfl) HO2.out ⟨g,q,none⟩ (S.length - q) (cv - q) (e8 (S.drop q)) (by rfl) HLD.out (HCD.out _ hS2) (z48 _) (by unfold maxLen;omega) (by omega) hS2.size ?_;intro v3 w3 hown3 hgrow3;have HG3:=qh (x8 hS2 HO2.out hgrow3 hS2.size);obtain ⟨p3,c3,rfl,_⟩:=y8 hown3;have HO3:=qh hown3;clear hown3 hgrow3)))
      all_goals
       have HF:Hid (d7 w3 B (.slice p3 (q+1+(S.length - q)) c3) (b7 S x)):=qh (by
        have e1:(b7 S x).length=q+1+(S.length - q):=by rw [HI.out,List.length_append,List.length_cons,List.length_take,List.length_drop];omega
        have e2:e8 (b7 S x)=e8 (S.take q) ++ [.int .u64 x]++e8 (S.drop q):=by rw [HI.out];simp [e8]
        unfold d7
        rw [e1,e2]
        exact p8 HO3.out HBB.out)
       clear HO3
       go_wp2_with fail
       go_ret
       exact ⟨_,rfl,HF.out,HG3.out⟩
  ·have i1:(0:Int)≤(q:Int):=by omega
   have i3:¬ (q:Int)<(S.length:Int):=by omega
   have i4:decide ((q:Int)<(S.length:Int))=false:=decide_eq_false i3
   have HI:=qh (xr1 HAS.out HBF.out (fun z hz=>by
    have:=(List.getElem?_eq_some_iff.1 hz).1
    omega))
   by_cases hce:cv=q
   ·subst cv
    have HLD:=qh (show (e8 (S.drop q)).length=(S.length - q)*1 by rw [z80,List.length_drop])
    have HLT:=qh (show (e8 (S.take q)).length=q*1 by rw [z80,List.length_take];omega)
    have HND:=qh (show e8 (S.drop q) = [] by unfold e8;rw [List.drop_of_length_le (by have:=HRM.out;omega)];rfl)
    have HCD:=qh (fun (W':World) (_:Below w.heap.size w W') (j:Nat) (u:Value) (hu:(e8 (S.drop q))[j]? = some u)=>(show W'.cell? ((⟨g,0,none⟩:Addr).add j)=some u by rw [HND.out] at hu;simp at hu))
    have HCT:=qh (fun (W':World) (h:Below w.heap.size w W') (j:Nat) (u:Value) (hu:(e8 (S.take q))[j]? = some u)=>(show W'.cell? ((⟨g,0,none⟩:Addr).add j)=some u by
     rw [Addr.add_lit,Nat.zero_add];exact z6 (HCV.out j u (by
      rw [← y03,List.getElem?_take] at hu
      split at hu
      ·exact hu
      ·cases hu)) h))
    have s1:(0:Int)≤(q:Int):=by omega
    have s2:(q:Int)≤(q:Int):=by have:=HRM.out;omega
    have s3:(q:Int)≤(S.length:Int):=by omega
    clear hroom
    go_wp2_with fail
    have hS0:Below w.heap.size w w:=Below.refl _ _
    go_region_held3 (fun w'=>Below w.heap.size w w')
     (first
       | assumption
       | exact (by assumption:Below w.heap.size w _).drew
       | exact z7 (by assumption) (z8 _ _)
       | exact z7 (by assumption) (Below.refl _ _).drew)
     (first
       | ((refine q7 (by rfl) (.tmp 33) (.tmp 36) _ (by rfl) w.heap.size 36 i0 (.int .u64 0) 1 8 Tryz.underlying147 hi' hz0 hz1 hz2 rfl (by decide) _ 0 [] (by rfl) (by first | exact y6 (r4 w _ rfl _ (Nat.le_refl _)) (Below.refl _ _).drew | exact y6 (r4 w _ rfl _ (Nat.le_refl _)) (z8 _ _).drew | exact y6 (r4 (w.alloc _) _ (by simp) _ (by simp)) (Below.refl _ _).drew) ⟨g,0,none⟩ q q (e8 (S.take q)) (by rfl) HLT.out (HCT.out _ (by assumption)) (z48 _) (by unfold maxLen;omega) (by omega) (Below.size (by assumption)) ?_;intro v1 w1 hown1 hgrow1;rw [Nat.zero_add,List.nil_append] at hown1;have HG1:=qh (x8 (by assumption) (by first | exact y6 (r4 w _ rfl _ (Nat.le_refl _)) (Below.refl _ _).drew | exact y6 (r4 w _ rfl _ (Nat.le_refl _)) (z8 _ _).drew | exact y6 (r4 (w.alloc _) _ (by simp) _ (by simp)) (Below.refl _ _).drew) hgrow1 (Below.size (by assumption)));obtain ⟨p1,c1,rfl,_⟩:=y8 hown1;have HO1:=qh hown1;(first | (have HCX:=qh (z87 (zt4 hgrow1))) | (have HCX:=qh (z87 (zm8 hgrow1))) | skip);have hS1:=HG1.out;clear hown1 hgrow1))
       | ((refine q7 (by rfl) (.tmp 37) (.tmp 39) _ (by rfl) w.heap.size 36 i0 (.int .u64 0) 1 8 Tryz.underlying147 hi' hz0 hz1 hz2 rfl (by decide) _ q _ (by rfl) (by first | exact HO1.out | exact y6 HO1.out (z8 _ _)) ⟨_,0,none⟩ 1 1 [.int .u64 x] (by rfl) rfl (by first | exact HCX.out | exact zc0 w1 x _ rfl) (by simp [Value.oneCell']) (by unfold maxLen;omega) (by omega) (Below.size (by assumption)) ?_;intro v2 w2 hown2 hgrow2;have HG2:=qh (x8 (by assumption) (by first | exact HO1.out | exact y6 HO1.out (z8 _ _)) hgrow2 (Below.size (by assumption)));obtain ⟨p2,c2,rfl,_⟩:=y8 hown2;have HO2:=qh hown2;have hS2:=HG2.out;clear hown2 hgrow2))
       | ((refine q7 (by rfl) (.tmp 40) (.tmp 43) _ (by rfl) w.heap.size 36 i0 (.int .u64 0) 1 8 Tryz.underlying147 hi' hz0 hz1 hz2 rfl (by decide) _ (q+1) _ (by rfl) HO2.out ⟨g,0,none⟩ (S.length - q) 0 (e8 (S.drop q)) (by rfl) HLD.out (HCD.out _ hS2) (z48 _) (by unfold maxLen;omega) (by omega) hS2.size ?_;intro v3 w3 hown3 hgrow3;have HG3:=qh (x8 hS2 HO2.out hgrow3 hS2.size);obtain ⟨p3,c3,rfl,_⟩:=y8 hown3;have HO3:=qh hown3;clear hown3 hgrow3)))
    all_goals
     have HF:Hid (d7 w3 B (.slice p3 (q+1+(S.length - q)) c3) (b7 S x)):=qh (by
      have e1:(b7 S x).length=q+1+(S.length - q):=by rw [HI.out,List.length_append,List.length_cons,List.length_take,List.length_drop];omega
      have e2:e8 (b7 S x)=e8 (S.take q) ++ [.int .u64 x]++e8 (S.drop q):=by rw [HI.out];simp [e8]
      unfold d7
      rw [e1,e2]
      exact p8 HO3.out HBB.out)
     clear HO3
     go_wp2_with fail
     go_ret
     exact ⟨_,rfl,HF.out,HG3.out⟩
   ·have hce0:¬ cv - q=0:=by have:=HRM.out;omega
    have HLD:=qh (show (e8 (S.drop q)).length=(S.length - q)*1 by rw [z80,List.length_drop])
    have HLT:=qh (show (e8 (S.take q)).length=q*1 by rw [z80,List.length_take];omega)
    have HCD:=qh (fun (W':World) (h:Below w.heap.size w W') (j:Nat) (u:Value) (hu:(e8 (S.drop q))[j]? = some u)=>(show W'.cell? ((⟨g,q,none⟩:Addr).add j)=some u by
     rw [Addr.add_lit];exact z6 (HCV.out (q+j) u (ye3 S q j hu)) h))
    have HCT:=qh (fun (W':World) (h:Below w.heap.size w W') (j:Nat) (u:Value) (hu:(e8 (S.take q))[j]? = some u)=>(show W'.cell? ((⟨g,0,none⟩:Addr).add j)=some u by
     rw [Addr.add_lit,Nat.zero_add];exact z6 (HCV.out j u (by
      rw [← y03,List.getElem?_take] at hu
      split at hu
      ·exact hu
      ·cases hu)) h))
    have s1:(0:Int)≤(q:Int):=by omega
    have s2:(q:Int)≤(cv:Int):=by have:=HRM.out;omega
    have s3:(q:Int)≤(S.length:Int):=by omega
    clear hroom
    go_wp2_with fail
    have hS0:Below w.heap.size w w:=Below.refl _ _
    go_region_held3 (fun w'=>Below w.heap.size w w')
     (first
       | assumption
       | exact (by assumption:Below w.heap.size w _).drew
       | exact z7 (by assumption) (z8 _ _)
       | exact z7 (by assumption) (Below.refl _ _).drew)
     (first
       | ((refine q7 (by rfl) (.tmp 33) (.tmp 36) _ (by rfl) w.heap.size 36 i0 (.int .u64 0) 1 8 Tryz.underlying147 hi' hz0 hz1 hz2 rfl (by decide) _ 0 [] (by rfl) (by first | exact y6 (r4 w _ rfl _ (Nat.le_refl _)) (Below.refl _ _).drew | exact y6 (r4 w _ rfl _ (Nat.le_refl _)) (z8 _ _).drew | exact y6 (r4 (w.alloc _) _ (by simp) _ (by simp)) (Below.refl _ _).drew) ⟨g,0,none⟩ q cv (e8 (S.take q)) (by rfl) HLT.out (HCT.out _ (by assumption)) (z48 _) (by unfold maxLen;omega) (by omega) (Below.size (by assumption)) ?_;intro v1 w1 hown1 hgrow1;rw [Nat.zero_add,List.nil_append] at hown1;have HG1:=qh (x8 (by assumption) (by first | exact y6 (r4 w _ rfl _ (Nat.le_refl _)) (Below.refl _ _).drew | exact y6 (r4 w _ rfl _ (Nat.le_refl _)) (z8 _ _).drew | exact y6 (r4 (w.alloc _) _ (by simp) _ (by simp)) (Below.refl _ _).drew) hgrow1 (Below.size (by assumption)));obtain ⟨p1,c1,rfl,_⟩:=y8 hown1;have HO1:=qh hown1;(first | (have HCX:=qh (z87 (zt4 hgrow1))) | (have HCX:=qh (z87 (zm8 hgrow1))) | skip);have hS1:=HG1.out;clear hown1 hgrow1))
       | ((refine q7 (by rfl) (.tmp 37) (.tmp 39) _ (by rfl) w.heap.size 36 i0 (.int .u64 0) 1 8 Tryz.underlying147 hi' hz0 hz1 hz2 rfl (by decide) _ q _ (by rfl) (by first | exact HO1.out | exact y6 HO1.out (z8 _ _)) ⟨_,0,none⟩ 1 1 [.int .u64 x] (by rfl) rfl (by first | exact HCX.out | exact zc0 w1 x _ rfl) (by simp [Value.oneCell']) (by unfold maxLen;omega) (by omega) (Below.size (by assumption)) ?_;intro v2 w2 hown2 hgrow2;have HG2:=qh (x8 (by assumption) (by first | exact HO1.out | exact y6 HO1.out (z8 _ _)) hgrow2 (Below.size (by assumption)));obtain ⟨p2,c2,rfl,_⟩:=y8 hown2;have HO2:=qh hown2;have hS2:=HG2.out;clear hown2 hgrow2))
       | ((refine q7 (by rfl) (.tmp 40) (.tmp 43) _ (by rfl) w.heap.size 36 i0 (.int .u64 0) 1 8 Tryz.underlying147 hi' hz0 hz1 hz2 rfl (by decide) _ (q+1) _ (by rfl) HO2.out ⟨g,q,none⟩ (S.length - q) (cv - q) (e8 (S.drop q)) (by rfl) HLD.out (HCD.out _ hS2) (z48 _) (by unfold maxLen;omega) (by omega) hS2.size ?_;intro v3 w3 hown3 hgrow3;have HG3:=qh (x8 hS2 HO2.out hgrow3 hS2.size);obtain ⟨p3,c3,rfl,_⟩:=y8 hown3;have HO3:=qh hown3;clear hown3 hgrow3)))
    all_goals
     have HF:Hid (d7 w3 B (.slice p3 (q+1+(S.length - q)) c3) (b7 S x)):=qh (by
      have e1:(b7 S x).length=q+1+(S.length - q):=by rw [HI.out,List.length_append,List.length_cons,List.length_take,List.length_drop];omega
      have e2:e8 (b7 S x)=e8 (S.take q) ++ [.int .u64 x]++e8 (S.drop q):=by rw [HI.out];simp [e8]
      unfold d7
      rw [e1,e2]
      exact p8 HO3.out HBB.out)
     clear HO3
     go_wp2_with fail
     go_ret
     exact ⟨_,rfl,HF.out,HG3.out⟩
theorem xz6 (S:List Int) (x:Int) (v:Value) (w:World) (B:Nat) (hB:B≤w.heap.size) (hown:d7 w B v S) (hasc:zg0 S) (hl:S.length≤99999):Calls Tryz.prog 209 #[v,.int .u64 x] w (wb4 B (b7 S x) w):=by
 rcases zg4 hown with ⟨rfl,h0⟩ | ⟨g,cap,rfl⟩
 ·obtain rfl:=List.eq_nil_of_length_eq_zero h0
  exact xz5 x w B hB
 ·exact xj1 S x g cap w B hB hown hasc hl
def n7 (n h:Nat) (V:v6):Prop:=V.length≤n∧∀ x ∈ V,x.2.2.length≤h
theorem wb6 (hi:v7 w s H) (hg:z04 m H) (hl:H.length≤5000):z19 w s H:=⟨hi,hg.good,by omega⟩
theorem wp3 (V:v6) (r:Int):(ya1 V r = -1∧knV V r = [])∨∃ (k:Nat) (x:Int × Int × List Iv),V[k]? = some x∧ya1 V r=(k:Int)∧knV V r=x7 x.2.1 x.2.2:=by grind [ya1,knV,List.findIdx?_eq_some_iff_getElem]
set_option maxRecDepth 100000 in
set_option maxHeartbeats 2000000 in
theorem zq5 (V:v6) (v:Value) (r:Int) (w:World) (hv:zd6 w v V) (hg:s8 V) (hs:∀ x ∈ V,x.2.2.length≤5000):Calls Tryz.prog 210 #[v,.int .u64 r] w (z69 (knV V r) w):=by
 obtain ⟨p,cap,rfl⟩:=hv.shape
 have hlen:=hv.len
 have K:=qh (yy6 V _ r w hv)
 have KK:=qh y05
 have HV:=qh hv;clear hv
 rcases wp3 V r with ⟨h1,h2⟩ | ⟨k,⟨x,m,H⟩,hx,h1,h2⟩
 ·rw [h1] at K
  rw [h2]
  clear h1 h2 hg hs
  go_enter Tryz.func210,Tryz.ntmps210
  go_wp2_with fail
  refine K.out.mono ?_
  rintro e w1 ⟨rfl,h⟩
  have H1:=qh h;clear h
  go_wp2_with fail
  go_ret
  exact ⟨_,rfl,r9.nil _ _,H1.out⟩
 ·rw [h1] at K
  have hlt:=(List.getElem?_eq_some_iff.1 hx).1
  have hmem:=List.mem_iff_getElem?.2 ⟨k,hx⟩
  have hge:=hg.ent _ hmem
  have hhl:=hs _ hmem
  dsimp only at hge hhl h2
  rw [h2]
  have i1:(0:Int)≤(k:Int):=by omega
  have i2:(k:Int)<(V.length:Int):=by omega
  have i3:¬ (k:Int)<0:=by omega
  have HX:=qh hx
  have HGE:=qh (And.intro hge hhl)
  clear h1 h2 hg hs hx hmem hge hhl
  go_enter Tryz.func210,Tryz.ntmps210
  go_wp2_with fail
  refine K.out.mono ?_
  rintro e w1 ⟨rfl,h⟩
  obtain ⟨b,o,cp,q,n,c,e,c0,c1,c2,ha⟩:=(HV.out.call h).elem HX.out
  cases e
  have KA:=qh (KK.out x m H (.slice q n c) w1 (wb6 ha HGE.out.1 HGE.out.2) HGE.out.1)
  have H1:=qh h;clear h ha
  go_wp2_with fail
  refine KA.out.mono ?_
  rintro e w2 ⟨u,rfl,hu,h⟩
  have HU:=qh (And.intro hu h);clear hu h c0 c1 c2
  go_wp2_with fail
  go_ret
  exact ⟨_,rfl,p8 HU.out.1 H1.out.size,z7 H1.out HU.out.2⟩
theorem wb7 {f:List Iv→List Iv→List Iv} (hf:∀ K L,t6 K→t6 L→t6 (f K L)) (hc:∀ K L,t6 K→t6 L→(f K L).length≤K.length+L.length) (gA:s8 A) (gB:s8 B) (sA:n7 n h A) (sB:n7 n' h' B):n7 (n+n') (h+h'+3) (opV f A B):=by
 refine ⟨Nat.le_trans (wq5 f A B) (by have:=sA.1;have:=sB.1;omega),fun y hy => ?_⟩
 obtain ⟨r,_,e⟩:=List.mem_filterMap.1 hy
 obtain ⟨_,_,e2⟩:=zf6 e
 have key:∀ {n h:Nat} {V:v6},s8 V→n7 n h V→(knV V r).length≤h+1:=fun g s=>by
  rcases z63 g.asc r with ⟨x,hx,_,e⟩ | ⟨_,e⟩
  ·rw [e];have:=zh6 (g.ent x hx);have:=s.2 x hx;omega
  grind
 grind [m8,y97]
theorem yg6 (gA:s8 A) (gB:s8 B) (sA:n7 n h A) (sB:n7 n' h' B):n7 (n+n') (h+h'+3) (opV orL A B):=wb7 (fun _ _ h h'=>z03 h h') (fun _ _ h h'=>zf3 h h') gA gB sA sB
theorem n7.mono (s:n7 n h V) (hn:n≤n') (hh:h≤h'):n7 n' h' V:=⟨Nat.le_trans s.1 hn,fun x hx=>Nat.le_trans (s.2 x hx) hh⟩
theorem yd3 (gA:s8 A) (gB:s8 B):s8 (opV orL A B):=(zk7 (fun _ _ h h'=>z03 h h') gA gB).1
theorem wb8 (gA:s8 A) (gB:s8 B) (r:Int):knV (opV orL A B) r=orL (knV A r) (knV B r):=wz4 (fun _ _ h h'=>z03 h h') rfl gA gB r
theorem v59 (h0:0≤m) (h1:m≤18446744073709551615):z04 m []:=⟨z34,h0,h1,fun y hy=>by cases hy⟩
structure T3 (w:World) (L b:Nat):Prop where
 lo:L≤b
 c0:w.cell? ⟨b,0,none⟩=some (.int .u64 0)
 c1:w.cell? ⟨b,1,none⟩=some (.int .u64 0)
 c2:w.cell? ⟨b,2,none⟩=some (.slice none 0 0)
 f0:w.frozen? ⟨b,0,none⟩=false
 f1:w.frozen? ⟨b,1,none⟩=false
 f2:w.frozen? ⟨b,2,none⟩=false
 lt:b<w.heap.size
theorem T3.call (h:T3 w L b) (hb:Below w.heap.size w w'):T3 w' L b:=⟨h.lo,z6 h.c0 hb,z6 h.c1 hb,z6 h.c2 hb,x6 h.f0 h.lt hb,x6 h.f1 h.lt hb,x6 h.f2 h.lt hb,Nat.lt_of_lt_of_le h.lt hb.size⟩
theorem T3.new (hL:L≤w.heap.size) (h:Below (w.alloc (.cells #[.int .u64 0,.int .u64 0,.slice none 0 0] t)).heap.size (w.alloc (.cells #[.int .u64 0,.int .u64 0,.slice none 0 0] t)) w'):T3 w' L w.heap.size:=
 T3.call (w:=w.alloc (.cells #[.int .u64 0,.int .u64 0,.slice none 0 0] t)) ⟨hL,by simp,by simp,by simp,by simp,by simp,by simp,by simp⟩ h
theorem T3.newlt (_:Below (w.alloc (.cells #[.int .u64 0,.int .u64 0,.slice none 0 0] t)).heap.size (w.alloc (.cells #[.int .u64 0,.int .u64 0,.slice none 0 0] t)) w'):w.heap.size<(w.alloc (.cells #[.int .u64 0,.int .u64 0,.slice none 0 0] t)).heap.size:=by simp
theorem z12 (h:Below W.heap.size W w1∧w1.cell? p=some a):Below W.heap.size W w1:=h.1
theorem zt5 {w2:World} (h:Below W.heap.size W w1∧w1.cell? p=some a) (hb:Hid (Below w1.heap.size w1 w2)):Below W.heap.size W w2∧w2.cell? p=some a:=⟨z7 h.1 hb.out,z6 h.2 hb.out⟩
theorem wb9 {o:Obj} (h:Below W.heap.size W w1∧w1.cell? p=some a):Below W.heap.size W (w1.alloc o)∧(w1.alloc o).cell? p=some a:=zt5 h (qh (z8 _ _))
theorem yd4 (h:Below W.heap.size W w1∧w1.cell? p=some a):Below W.heap.size W w1.drew∧w1.drew.cell? p=some a:=zt5 h (qh (Below.refl _ _).drew)
theorem wc0 (h:Below W.heap.size W w1∧w1.cell? p=some a) (hb:W.heap.size≤b) (hp:p.block<W.heap.size) (x y z:Value) :
 Below W.heap.size W (((w1.setCell ⟨b,0,none⟩ x).setCell ⟨b,1,none⟩ y).setCell ⟨b,2,none⟩ z)∧(((w1.setCell ⟨b,0,none⟩ x).setCell ⟨b,1,none⟩ y).setCell ⟨b,2,none⟩ z).cell? p=some a:=by
 refine ⟨((h.1.setCell (p:=⟨b,0,none⟩) hb _).setCell (p:=⟨b,1,none⟩) hb _).setCell (p:=⟨b,2,none⟩) hb _,?_⟩
 rw [World.cell?_setCell_other _ _ _ _ (fun e=>by rw [← e] at hp;exact absurd hp (by show ¬ b<_;omega)),World.cell?_setCell_other _ _ _ _ (fun e=>by rw [← e] at hp;exact absurd hp (by show ¬ b<_;omega)),World.cell?_setCell_other _ _ _ _ (fun e=>by rw [← e] at hp;exact absurd hp (by show ¬ b<_;omega))]
 exact h.2
theorem wp4 {B:Nat} (hi:v7 w s H∧i7 w B s H.length) (hb:b<B) (x y z:Value) :
 v7 (((w.setCell ⟨b,0,none⟩ x).setCell ⟨b,1,none⟩ y).setCell ⟨b,2,none⟩ z) s H∧i7 (((w.setCell ⟨b,0,none⟩ x).setCell ⟨b,1,none⟩ y).setCell ⟨b,2,none⟩ z) B s H.length:=
 zj9 (o:=2) (zj9 (o:=1) (zj9 (o:=0) hi hb x) hb y) hb z
theorem wc1 (c0:w.cell? ⟨b,0,none⟩=some (.int .u64 0)) (c1:w.cell? ⟨b,1,none⟩=some (.int .u64 0)) (c2:w.cell? ⟨b,2,none⟩=some (.slice none 0 0)) (hi:v7 w s H∧i7 w BB s H.length) (hb:b<BB) (r t:Int) :
 ∃ wE,(((w.setCell ⟨b,0,none⟩ (.int .u64 r)).setCell ⟨b,1,none⟩ (.int .u64 t)).setCell ⟨b,2,none⟩ s)=wE∧E3 wE b r t s∧v7 wE s H∧i7 wE BB s H.length:=⟨_,rfl,z29 c0 c1 c2 _ _ _,wp4 hi hb _ _ _⟩
theorem wc2 (hi:v7 w s H∧i7 w BB s H.length) (r t:Int) :
 ∃ wE,w.alloc (.cells #[.int .u64 r,.int .u64 t,s] 63)=wE∧E3 wE w.heap.size r t s∧v7 wE s H∧i7 wE BB s H.length:=⟨_,rfl,E3.new w r t s _ _ rfl,hi.1.call (z8 _ _),hi.2.call (z8 _ _)⟩
theorem yr4 {P:List Int} (h:A[k]? = some (r,m,H)):((P++(A.take (k+1)).map (·.1)).foldl b7 [])=b7 ((P++(A.take k).map (·.1)).foldl b7 []) r:=by
 rw [zf7 h,List.map_append,← List.append_assoc,List.foldl_append];rfl
theorem wc3 {f:List Iv→List Iv→List Iv} {R:List Int} (h:R[k]? = some r) :
 (R.take (k+1)).filterMap (opE f A B)=if f (knV A r) (knV B r) = [] then (R.take k).filterMap (opE f A B) else (R.take k).filterMap (opE f A B) ++ [(z56 r (f (knV A r) (knV B r)),i8 (f (knV A r) (knV B r)),r5 (f (knV A r) (knV B r)))]:=by
 rw [zf7 h,List.filterMap_append]
 grind [knV,opE,List.filterMap_cons_none,i8,r5,List.filterMap_cons_some,z56]
theorem wc4 (g:s8 V) (s:n7 n h V) (r:Int):(knV V r).length≤h+1:=by
 rcases z63 g.asc r with ⟨x,hx,_,e⟩ | ⟨_,e⟩
 ·rw [e];have:=zh6 (g.ent x hx);have:=s.2 x hx;omega
 grind
def v60 (V:v6) (w:World) (e:Ending) (w':World):Prop:=∃ u,e = .returned u∧z83 w' w.heap.size u V∧V.length≤100000∧Below w.heap.size w w'
theorem z83.base {B B':Nat} {v:Value} (h:z83 w B v V) (hB:B'≤B):z83 w B' v V:=by
 obtain ⟨es,h1,h2,h3⟩:=h
 exact ⟨es,h1,p8 h2 hB,fun i e x he hx=>⟨(h3 i e x he hx).1,(h3 i e x he hx).2.1,(h3 i e x he hx).2.2.ivs,(h3 i e x he hx).2.2.soft.base hB,(h3 i e x he hx).2.2.apart⟩⟩
def wc5:Prop:=∀ (o:Int) (f:List Iv→List Iv→List Iv),(∀ (a b:List Iv) (s t:Value) (w:World),z19 w s a→z19 w t b→Calls Tryz.prog 120 #[s,t,.int .i64 o] w (z69 (f a b) w)) →
 (∀ K L,t6 K→t6 L→t6 (f K L)∧(f K L).length≤K.length+L.length)→∀ (A B:v6) (a b:Value) (w:World),zd6 w a A→zd6 w b B→s8 A→s8 B→n7 1000 1000 A→n7 1000 1000 B →
 Calls Tryz.prog 145 #[a,b,.int .i64 o] w (v60 (opV f A B) w)
set_option maxRecDepth 100000 in
set_option maxHeartbeats 32000000 in
theorem x70:wc5:=by
 intro o f hdo hf A B a b w ha hb gA gB sA sB
 obtain ⟨i0,hi',hz0,hz1,hz2⟩:=info_parts xs6
 obtain ⟨pa,ca,rfl⟩:=ha.shape
 obtain ⟨pb,cb,rfl⟩:=hb.shape
 have hla:=sA.1
 have hlb:=sB.1
 have HA:=qh ha;have HB':=qh hb;have HGDA:=qh gA;have HGDB:=qh gB;have HSA:=qh sA;have HSB':=qh sB
 have KD:=qh hdo;have HF:=qh hf
 have KP:=qh xz6
 clear ha hb gA gB sA sB hdo hf
 go_enter Tryz.func145,Tryz.ntmps145
 go_wp2_with fail
 go_loopw [7,8] (fun u i wr=>∃ k:Nat,i = .int .i64 k∧k≤A.length∧d7 wr w.heap.size u ((([]:List Int)++(A.take k).map (·.1)).foldl b7 [])∧Below w.heap.size w wr) (fun _ i _=>A.length - (intOf i).toNat)
 case atStart=>exact ⟨0,rfl,Nat.zero_le _,d7.nil _ _,Below.refl _ _⟩
 case round =>
  obtain ⟨k,rfl,hk,hown,hb⟩:=hrel
  have HB:=qh hb;clear hb
  by_cases hlt:k<A.length
  ·obtain ⟨⟨x,m,H⟩,hx⟩:∃ x,A[k]? = some x:=⟨A[k],by simp [hlt]⟩
   obtain ⟨b,ob,cp,q,n,c,e,c0,c1,c2,_⟩:=(HA.out.call HB.out).elem hx
   cases e
   have HX:=qh (yr4 (P := []) hx)
   have hfl:=zg5 (([]:List Int)++(A.take k).map (·.1)) []
   simp only [List.nil_append,List.length_map,List.length_take,List.length_nil] at hfl
   have hasc:=(zc2 (([]:List Int)++(A.take k).map (·.1)) [] List.Pairwise.nil).1
   have hlS:((([]:List Int)++(A.take k).map (·.1)).foldl b7 []).length≤99999:=by simp only [List.nil_append];omega
   have i1:(0:Int)≤(k:Int):=by omega
   have i2:(k:Int)<(A.length:Int):=by omega
   have KP1:=qh (KP.out _ x _ _ w.heap.size HB.out.size hown hasc hlS)
   clear hown hasc hlS hfl c1 c2 hx
   generalize (([]:List Int)++(A.take k).map (·.1)).foldl b7 []=SS at *
   go_wp2_with fail
   refine KP1.out.mono ?_
   rintro e w1 ⟨u1,rfl,hu,h⟩
   have HU:=qh hu;have H1:=qh (z7 HB.out h);clear hu h c0
   go_wp2_with fail
   go_roundw
   case rel=>exact ⟨k+1,by go_num,by omega,by rw [HX.out];exact HU.out,H1.out⟩
   case measure=>simp [intOf];omega
  ·obtain rfl:k=A.length:=by omega
   rw [List.take_of_length_le (Nat.le_refl _),List.nil_append] at hown
   have HO:=qh hown;clear hown
   obtain ⟨wA,rfl⟩:∃ wA:World,wA=wr:=⟨_,rfl⟩
   go_wp2_with fail
   go_loopw [7,9] (fun u i wr=>∃ k:Nat,i = .int .i64 k∧k≤B.length∧d7 wr w.heap.size u ((A.map (·.1)++(B.take k).map (·.1)).foldl b7 [])∧Below w.heap.size w wr) (fun _ i _=>B.length - (intOf i).toNat)
   case atStart=>exact ⟨0,rfl,Nat.zero_le _,by rw [List.take_zero,List.map_nil,List.append_nil];exact HO.out,HB.out⟩
   case round =>
    clear HB HO
    obtain ⟨k,rfl,hk,hown,hb⟩:=hrel
    have HB:=qh hb;clear hb
    by_cases hlt:k<B.length
    ·obtain ⟨⟨x,m,H⟩,hx⟩:∃ x,B[k]? = some x:=⟨B[k],by simp [hlt]⟩
     obtain ⟨b,ob,cp,q,n,c,e,c0,c1,c2,_⟩:=(HB'.out.call HB.out).elem hx
     cases e
     have HX:=qh (yr4 (P:=A.map (·.1)) hx)
     have hfl:=zg5 (A.map (·.1)++(B.take k).map (·.1)) []
     simp only [List.length_append,List.length_map,List.length_take,List.length_nil] at hfl
     have hasc:=(zc2 (A.map (·.1)++(B.take k).map (·.1)) [] List.Pairwise.nil).1
     have i1:(0:Int)≤(k:Int):=by omega
     have i2:(k:Int)<(B.length:Int):=by omega
     have KP1:=qh (KP.out _ x _ _ w.heap.size HB.out.size hown hasc (by omega))
     clear hown hasc hfl c1 c2 hx
     generalize (A.map (·.1)++(B.take k).map (·.1)).foldl b7 []=SS at *
     go_wp2_with fail
     refine KP1.out.mono ?_
     rintro e w1 ⟨u1,rfl,hu,h⟩
     have HU:=qh hu;have H1:=qh (z7 HB.out h);clear hu h c0
     go_wp2_with fail
     go_roundw
     case rel=>exact ⟨k+1,by go_num,by omega,by rw [HX.out];exact HU.out,H1.out⟩
     case measure=>simp [intOf];omega
    ·obtain rfl:k=B.length:=by omega
     rw [List.take_of_length_le (Nat.le_refl _)] at hown
     have hrl:(zd0 A B).length≤2000:=by
      unfold zd0
      have:=zg5 (A.map (·.1)++B.map (·.1)) []
      simp only [List.length_append,List.length_map,List.length_nil] at this
      omega
     have hown':d7 _ w.heap.size _ (zd0 A B):=hown
     obtain ⟨pu,cu,hsh,_⟩:=y8 hown'
     have HOV:Hid (opV f A B=(zd0 A B).filterMap (opE f A B)):=qh rfl
     obtain ⟨R,hR⟩:∃ R,zd0 A B=R:=⟨_,rfl⟩
     rw [hR] at hown' hrl HOV
     have hsh':_=Value.slice pu R.length cu:=hR ▸ hsh
     subst hsh'
     have HO:=qh hown';clear hown hown' hsh
     obtain ⟨wE,rfl⟩:∃ wE:World,wE=wr:=⟨_,rfl⟩
     go_wp2_with fail
     go_loopw [10,11] (fun vo i wr=>∃ k:Nat,i = .int .i64 k∧k≤R.length∧z83 wr wE.heap.size vo ((R.take k).filterMap (opE f A B))∧Below wE.heap.size wE wr) (fun _ i _=>R.length - (intOf i).toNat)
     case atStart=>exact ⟨0,rfl,Nat.zero_le _,z83.nil _ _,Below.refl _ _⟩
     case round =>
      obtain ⟨k,rfl,hk,hout,hb⟩:=hrel
      obtain ⟨pv,cv,rfl⟩:=hout.shape
      have HBE:=qh hb;clear hb
      have hszw:=HBE.out.size
      by_cases hlt:k<R.length
      ·obtain ⟨r,hr⟩:∃ r,R[k]? = some r:=⟨R[k],by simp [hlt]⟩
       rcases zg4 HO.out with ⟨_,h0⟩ | ⟨g,cu',eg⟩
       ·omega
       cases eg
       have HGW:Hid ((⟨g,k,none⟩:Addr).block<wr.heap.size):=qh (by
        have h1:=(World.ownsRow.lt (show wE.ownsRow w.heap.size 36 1 (.slice (some ⟨g,0,none⟩) R.length cu) R.length (e8 R) from HO.out) g rfl).2
        show g<_;omega)
       have c0:wr.cell? ⟨g,k,none⟩=some (.int .u64 r):=by
        have hrow:wE.ownsRow w.heap.size 36 1 (.slice (some ⟨g,0,none⟩) R.length cu) R.length (e8 R):=HO.out
        exact z6 (by rw [hrow.cellAt k (by omega)];exact wb5 hr) HBE.out
       have HA2:=qh (HA.out.call (z7 HB.out HBE.out))
       have HB2:=qh (HB'.out.call (z7 HB.out HBE.out))
       have KA:=qh (fun W h=>zq5 A _ r W (HA2.out.call h) HGDA.out (fun x hx=>by have:=HSA.out.2 x hx;omega))
       have KB:=qh (fun W h=>zq5 B _ r W (HB2.out.call h) HGDB.out (fun x hx=>by have:=HSB'.out.2 x hx;omega))
       have hka:=wc4 HGDA.out HSA.out r
       have hkb:=wc4 HGDB.out HSB'.out r
       have hga:=m8 HGDA.out r
       have hgb:=m8 HGDB.out r
       have hff:=HF.out _ _ hga hgb
       have HSN:=qh (wc3 (f:=f) (A:=A) (B:=B) hr)
       have hol:((R.take k).filterMap (opE f A B)).length≤100000:=by
        refine Nat.le_trans (List.length_filterMap_le _ _) ?_
        rw [List.length_take];omega
       generalize knV A r=KA9 at *
       generalize knV B r=KB9 at *
       have HGA:=qh hga;have HGB:=qh hgb
       have HLF:=qh (show (f KA9 KB9).length≤20000 by omega)
       have HGF:=qh hff.1
       clear hga hgb hff
       generalize (R.take k).filterMap (opE f A B)=P at *
       have KO0:=qh (fun s W h=>ys3 r (f KA9 KB9) s W h)
       unfold wd2 at KO0
       have KD3:=qh (fun s t W h h2=>KD.out KA9 KB9 s t W h h2)
       obtain ⟨es,hel,hrow,hall⟩:=hout
       have hel2:es.length≤100000:=by rw [hel];exact hol
       have HROW:=qh hrow;have HALL:=qh hall;clear hrow hall
       have i1:(0:Int)≤(k:Int):=by omega
       have i2:(k:Int)<(R.length:Int):=by omega
       have HSZ:=qh hszw;clear hszw hr hlt
       by_cases hK:f KA9 KB9 = []
       ·have e1:z44 (f KA9 KB9)=false:=by rw [hK];rfl
        rw [e1] at KO0
        have HC':=qh (HSN.out.trans (if_pos hK));clear HSN hK e1
        generalize z56 r (f KA9 KB9)=rr at *
        generalize i8 (f KA9 KB9)=tt at *
        generalize r5 (f KA9 KB9)=hh at *
        have KO:=KO0;clear KO0
        generalize f KA9 KB9=F9 at *
        have HS0:=qh (yd4 (⟨Below.refl _ _,c0⟩:Below wr.heap.size wr wr∧wr.cell? ⟨g,k,none⟩=some (.int .u64 r)))
        go_wp2_with fail
        go_region_held3 (fun w'=>Below wr.heap.size wr w'∧w'.cell? ⟨g,k,none⟩=some (.int .u64 r))
         (first
           | exact HS0.out
           | assumption
           | exact zt5 (by assumption) (by assumption)
           | exact yd4 (by assumption)
           | exact wb9 (by assumption)
           | exact wc0 (by assumption) tlo HGW.out _ _ _)
         (first
           | (go_at_call 210;(with_reducible change Calls _ _ #[.slice pa A.length ca,.int .u64 r] _ _);refine (KA.out _ (z12 (by assumption))).mono ?_;rintro en w3 ⟨v1,rfl,hv1,h'⟩;(first | (have HT:=qh (T3.new (L:=wr.heap.size) (w:=wr) (Nat.le_refl _) ((Below.refl _ _).drew.trans h'))) | skip);have HV1:=qh (r9.ivs hv1 (by omega));clear hv1;have HZ3:Hid (wr.heap.size≤w3.heap.size):=qh (Nat.le_trans (Below.size (z12 (by assumption))) h'.size);have h':=qh h')
           | (go_at_call 210;(with_reducible change Calls _ _ #[.slice pb B.length cb,.int .u64 r] _ _);refine (KB.out _ (z12 (by assumption))).mono ?_;rintro en w4 ⟨v2,rfl,hv2,h'⟩;(first | (replace HT:=qh (HT.out.call h')) | (have HT:=qh (T3.new (w:=w3) HZ3.out h')) | skip);replace HV1:=qh (show v7 w4 v1 KA9 from by first | exact HV1.out.call h' | exact (HV1.out.call (z8 _ _)).call h');have HV2:=qh (r9.ivs hv2 (by omega));clear hv2;have HZ4:Hid (wr.heap.size≤w4.heap.size):=qh (Nat.le_trans (Below.size (z12 (by assumption))) h'.size);have h':=qh h')
           | (go_at_call 120;refine (KD3.out v1 v2 _ ⟨(by first | exact HV1.out | exact HV1.out.call (z8 _ _)),HGA.out,by omega⟩ ⟨(by first | exact HV2.out | exact HV2.out.call (z8 _ _)),HGB.out,by omega⟩).mono ?_;rintro en w5 ⟨v3,rfl,hv3,h'⟩;(first | (replace HT:=qh (HT.out.call h')) | (have HT:=qh (T3.new (w:=w4) HZ4.out h')) | skip);have HV3:=qh (r9.ivs hv3 (by have:=HLF.out;omega));clear hv3;have HZ5:Hid (wr.heap.size≤w5.heap.size):=qh (Nat.le_trans (Below.size (z12 (by assumption))) h'.size);have h':=qh h')
           | (go_at_call 205;refine (KO.out v3 _ ⟨(by first | exact HV3.out | exact HV3.out.call (z8 _ _)),HGF.out,HLF.out⟩).mono ?_;rintro en w6 ⟨vo,rfl,hvo,hso,h'⟩;obtain ⟨po,co,rfl,_⟩:=hvo.shape;(first | (have HTL:=qh HT.out.lt;replace HT:=qh (HT.out.call h')) | (have HTL:=qh (T3.newlt (w:=w5) h');have HT:=qh (T3.new (w:=w5) HZ5.out h')) | skip);have HSB:=qh (Below.size (z12 (by assumption):Below wr.heap.size wr _));have HVO:=qh (And.intro hvo hso);clear hvo hso;(first | (obtain ⟨tlo,t0,t1,t2,u0,u1,u2,tlt⟩:=HT.out) | skip);have h':=qh h';have hSw:=zt5 (by assumption) h'))
        all_goals
         rename_i hE
         have HE:=qh (z12 hE);clear hE c0
         go_wp2_with fail
         go_roundw
         case rel=>exact ⟨k+1,by go_num,by omega,by rw [HC'.out];exact z83.call ⟨es,hel,HROW.out,HALL.out⟩ HE.out,z7 HBE.out HE.out⟩
         case measure=>simp [intOf];omega
       ·have e1:z44 (f KA9 KB9)=true:=y14 hK
        rw [e1] at KO0
        have HC':=qh (HSN.out.trans (if_neg hK));clear HSN hK e1
        generalize z56 r (f KA9 KB9)=rr at *
        generalize i8 (f KA9 KB9)=tt at *
        generalize r5 (f KA9 KB9)=hh at *
        have KO:=KO0;clear KO0
        generalize f KA9 KB9=F9 at *
        have HS0:=qh (yd4 (⟨Below.refl _ _,c0⟩:Below wr.heap.size wr wr∧wr.cell? ⟨g,k,none⟩=some (.int .u64 r)))
        go_wp2_with fail
        go_region_held3 (fun w'=>Below wr.heap.size wr w'∧w'.cell? ⟨g,k,none⟩=some (.int .u64 r))
         (first
           | exact HS0.out
           | assumption
           | exact zt5 (by assumption) (by assumption)
           | exact yd4 (by assumption)
           | exact wb9 (by assumption)
           | exact wc0 (by assumption) tlo HGW.out _ _ _)
         (first
           | (go_at_call 210;(with_reducible change Calls _ _ #[.slice pa A.length ca,.int .u64 r] _ _);refine (KA.out _ (z12 (by assumption))).mono ?_;rintro en w3 ⟨v1,rfl,hv1,h'⟩;(first | (have HT:=qh (T3.new (L:=wr.heap.size) (w:=wr) (Nat.le_refl _) ((Below.refl _ _).drew.trans h'))) | skip);have HV1:=qh (r9.ivs hv1 (by omega));clear hv1;have HZ3:Hid (wr.heap.size≤w3.heap.size):=qh (Nat.le_trans (Below.size (z12 (by assumption))) h'.size);have h':=qh h')
           | (go_at_call 210;(with_reducible change Calls _ _ #[.slice pb B.length cb,.int .u64 r] _ _);refine (KB.out _ (z12 (by assumption))).mono ?_;rintro en w4 ⟨v2,rfl,hv2,h'⟩;(first | (replace HT:=qh (HT.out.call h')) | (have HT:=qh (T3.new (w:=w3) HZ3.out h')) | skip);replace HV1:=qh (show v7 w4 v1 KA9 from by first | exact HV1.out.call h' | exact (HV1.out.call (z8 _ _)).call h');have HV2:=qh (r9.ivs hv2 (by omega));clear hv2;have HZ4:Hid (wr.heap.size≤w4.heap.size):=qh (Nat.le_trans (Below.size (z12 (by assumption))) h'.size);have h':=qh h')
           | (go_at_call 120;refine (KD3.out v1 v2 _ ⟨(by first | exact HV1.out | exact HV1.out.call (z8 _ _)),HGA.out,by omega⟩ ⟨(by first | exact HV2.out | exact HV2.out.call (z8 _ _)),HGB.out,by omega⟩).mono ?_;rintro en w5 ⟨v3,rfl,hv3,h'⟩;(first | (replace HT:=qh (HT.out.call h')) | (have HT:=qh (T3.new (w:=w4) HZ4.out h')) | skip);have HV3:=qh (r9.ivs hv3 (by have:=HLF.out;omega));clear hv3;have HZ5:Hid (wr.heap.size≤w5.heap.size):=qh (Nat.le_trans (Below.size (z12 (by assumption))) h'.size);have h':=qh h')
           | (go_at_call 205;refine (KO.out v3 _ ⟨(by first | exact HV3.out | exact HV3.out.call (z8 _ _)),HGF.out,HLF.out⟩).mono ?_;rintro en w6 ⟨vo,rfl,hvo,hso,h'⟩;obtain ⟨po,co,rfl,_⟩:=hvo.shape;(first | (have HTL:=qh HT.out.lt;replace HT:=qh (HT.out.call h')) | (have HTL:=qh (T3.newlt (w:=w5) h');have HT:=qh (T3.new (w:=w5) HZ5.out h')) | skip);have HSB:=qh (Below.size (z12 (by assumption):Below wr.heap.size wr _));have HVO:=qh (And.intro hvo hso);clear hvo hso;(first | (obtain ⟨tlo,t0,t1,t2,u0,u1,u2,tlt⟩:=HT.out) | skip);have h':=qh h';have hSw:=zt5 (by assumption) h'))
        all_goals
         rename_i hE
         have HE:=qh (z12 hE);clear hE c0
         obtain ⟨wG,hwG,he3,hi,hso⟩:=(by first | exact wc1 t0 t1 t2 HVO.out HTL.out rr tt | exact wc2 HVO.out rr tt)
         have HE2:Hid (Below wr.heap.size wr wG):=qh (hwG ▸ HE.out)
         rw [hwG]
         clear hwG HE
         obtain ⟨b0,b1,b2⟩:=he3
         have HAP:=qh (fun h0=>zt8 HROW.out (hso.base HSB.out) h0)
         have HH2:=qh (And.intro hi (hso.base (Nat.le_trans HSZ.out HSB.out)));clear hi hso
         have HZG:=qh (Nat.le_trans HSZ.out HE2.out.size)
         go_wp2_with (at_builtin;refine wpList_append_own_at _ rfl _ _ 44 rfl wE.heap.size 63 i0 (.agg #[.int .u64 0,.int .u64 0,.slice none 0 0]) 3 40 Tryz.underlying44 hi' hz0 hz1 hz2 rfl (by decide) _ es.length (zk5 es) rfl (y6 HROW.out (z7 HE2.out (z8 _ _))) ⟨wG.heap.size,0,none⟩ 1 1 [.int .u64 rr,.int .u64 tt,.slice po hh.length co] rfl rfl (zh8 _ _ _ _ _ _ rfl) (by simp [Value.oneCell']) (by unfold maxLen;omega) (by omega) (Nat.le_trans HZG.out (z8 _ _).size) ?_;intro v' w8 hown' hgrow _ hat;have HN:=qh (z8 wG (.cells #[.int .u64 rr,.int .u64 tt,.slice po hh.length co] 63));have HW8:=qh (x8 (z7 HBE.out (z7 HE2.out HN.out)) (y6 HROW.out (z7 HE2.out HN.out)) hgrow (Nat.le_trans HZG.out HN.out.size));have HP:=qh (z83.push hel (fun i e x he hx=>⟨(HALL.out i e x he hx).1,(HALL.out i e x he hx).2.1,(HALL.out i e x he hx).2.2.call (z7 HE2.out HN.out)⟩) hown' hgrow hat (⟨HH2.out.1.call HN.out,HH2.out.2.call HN.out,HAP.out⟩:zu9 _ _ _ _ hh));clear hown' hgrow hat)
         go_roundw
         case rel=>exact ⟨k+1,by go_num,by omega,by rw [HC'.out];exact HP.out,HW8.out⟩
         case measure=>simp [intOf];omega
      ·obtain rfl:k=R.length:=by omega
       rw [List.take_of_length_le (Nat.le_refl _)] at hout
       have HOUT:=qh hout;clear hout
       have hol:((R).filterMap (opE f A B)).length≤100000:=by
        refine Nat.le_trans (List.length_filterMap_le _ _) ?_
        omega
       have HOL:=qh hol;clear hol
       go_wp2_with fail
       go_ret
       have h9:=(HOUT.out).base HB.out.size
       refine ⟨_,rfl,?_,?_,z7 HB.out HBE.out⟩
       ·rw [HOV.out];simpa using h9
       ·rw [HOV.out];simpa using HOL.out
end
end Go.Proofs.YtchndljcahjldaaGreatDoor
