/- Lists of intervals in memory. -/
import Derived.Test.YtchndljcahjldaaGreatDoorMSRel
import Derived.Test.YtchndljcahjldaaGreatDoorMRMath
import Derived.Laws.AppendOwn
import Derived.WalkSmall
namespace Go.Proofs.YtchndljcahjldaaGreatDoor
set_option maxRecDepth 100000
section
open Go.RowKit Go.ChangeShapes Go.WideShapes
variable {w:World} {s:Value} {l:List Iv} {i:Nat} {x:Iv}
def v7 (w:World) (s:Value) (l:List Iv):Prop:=
 ∃ p cap,s = .slice p l.length cap∧l.length≤1048576 ∧
  (l ≠ []→∃ b o,p=some ⟨b,o,none⟩∧∀ i x,l[i]? = some x→w.cell? ⟨b,o+i*2,none⟩=some (.int .u64 x.1)∧w.cell? ⟨b,o+i*2+1,none⟩=some (.int .u64 x.2))
theorem v7.call {w':World} (h:v7 w s l) (hb:Below w.heap.size w w'):v7 w' s l:=by
 obtain ⟨p,cap,h1,h2,h3⟩:=h
 refine ⟨p,cap,h1,h2,fun hne => ?_⟩
 obtain ⟨b,o,h5,h6⟩:=h3 hne
 exact ⟨b,o,h5,fun i x hi=>⟨z6 (h6 i x hi).1 hb,z6 (h6 i x hi).2 hb⟩⟩
theorem yk3:∀ (l:List Iv) (i:Nat) (x:Iv),l[i]? = some x →
 (l.flatMap fun x => [Value.int .u64 x.1,.int .u64 x.2])[i*2]? = some (.int .u64 x.1)∧(l.flatMap fun x => [Value.int .u64 x.1,.int .u64 x.2])[i*2+1]? = some (.int .u64 x.2):=by
 intro l
 induction l with
 | nil=>intro i x h;simp at h
 | cons y l ih =>
   intro i x h
   cases i with
   | zero =>
     simp at h
     subst h
     simp
   | succ i =>
     have:=ih i x (by simpa using h)
     have e1:(i+1)*2=i*2+1+1:=by omega
     rw [e1]
     simpa using this
theorem yk4 {base:Nat} {v:Value} (h:w.ownsRow base 65 2 v l.length (l.flatMap fun x => [.int .u64 x.1,.int .u64 x.2])) (hl:l.length≤1048576):v7 w v l:=by
 obtain ⟨h1,h2⟩:=h
 rcases h2 with ⟨rfl,hn⟩ | ⟨g,cap,cur,rfl,hg,hh,hnc,_,hcs,ht⟩
 ·obtain rfl:l = []:=List.length_eq_zero_iff.1 hn
  exact ⟨none,0,rfl,by simp,fun h=>absurd rfl h⟩
 ·refine ⟨_,cap,rfl,hl,fun _=>⟨g,0,rfl,fun i x hi => ?_⟩⟩
  have key:∀ j u,(l.flatMap fun x => [Value.int .u64 x.1,.int .u64 x.2])[j]? = some u→w.cell? ⟨g,j,none⟩=some u:=by
   intro j u hj
   have e1:w.cell? ⟨g,j,none⟩=cur[j]? := by simp [World.cell?,hh]
   rw [e1,← Array.getElem?_toList]
   rw [← ht] at hj
   rw [List.getElem?_take] at hj
   split at hj
   ·exact hj
   ·cases hj
  have hf:=yk3 l i x hi
  simp only [Nat.zero_add]
  exact ⟨key _ _ hf.1,key _ _ hf.2⟩
theorem v7.elem (h:v7 w s l) (hi:l[i]? = some x) :
 ∃ b o cap,s = .slice (some ⟨b,o,none⟩) l.length cap∧w.cell? ⟨b,o+i*2,none⟩=some (.int .u64 x.1)∧w.cell? ⟨b,o+i*2+1,none⟩=some (.int .u64 x.2):=by
 obtain ⟨p,cap,rfl,_,h3⟩:=h
 obtain ⟨b,o,rfl,h6⟩:=h3 (by intro e;subst e;simp at hi)
 exact ⟨b,o,cap,rfl,h6 i x hi⟩
theorem v7.shape (h:v7 w s l):∃ p cap,s = .slice p l.length cap∧l.length≤1048576:=by
 obtain ⟨p,cap,h1,h2,_⟩:=h;exact ⟨p,cap,h1,h2⟩
theorem v7.cells {b o n cap:Nat} (h:v7 w (.slice (some ⟨b,o,none⟩) n cap) l) (hi:l[i]? = some x) :
 w.cell? ⟨b,o+i*2,none⟩=some (.int .u64 x.1)∧w.cell? ⟨b,o+i*2+1,none⟩=some (.int .u64 x.2):=by
 obtain ⟨b',o',cap',e,h1⟩:=h.elem hi
 cases e
 exact h1
def yz3 (x:Iv):Prop:=(0≤x.1∧x.1≤18446744073709551615)∧(0≤x.2∧x.2≤18446744073709551615)
def m9 (l:List Iv):Prop:=∀ x ∈ l,yz3 x
theorem m9.at (h:m9 l) (hi:l[i]? = some x):yz3 x:=h x (List.mem_of_getElem? hi)
theorem zu1 (a b c d:Int):z73 a b c d=0↔b+1<c:=by grind [z73]
theorem ya3 (l m:List Iv) (s t:Value) (w:World) (hl:v7 w s l) (hm:v7 w t m) :
 Calls Tryz.prog 26 #[s,t] w (q8 (decide (l=m)) w):=by
 obtain ⟨p,cap,rfl,hl1,hl2⟩:=hl
 obtain ⟨q,caq,rfl,hm1,hm2⟩:=hm
 have HL:=qh hl2;clear hl2
 have HM:=qh hm2;clear hm2
 by_cases hlen:l.length=m.length
 ·go_enter Tryz.func26,Tryz.ntmps26
  have hb:((l.length:Int) != (m.length:Int))=false:=by simp [hlen]
  have HLEN:=qh hlen;clear hlen
  go_wp2_with fail
  go_loopw [5] (fun i wr=>∃ k:Nat,k≤l.length∧i = .int .i64 k∧l.take k=m.take k∧Below w.heap.size w wr) (fun i _=>l.length - (intOf i).toNat)
  case atStart=>exact ⟨0,Nat.zero_le _,rfl,by simp,Below.refl _ _⟩
  case round =>
   obtain ⟨k,hk,rfl,heq,hb⟩:=hrel
   have HB:=qh hb;clear hb
   have HE:=qh heq;clear heq
   by_cases hlt:k<l.length
   ·obtain ⟨b,o,rfl,hcl⟩:=HL.out (by intro h;subst h;simp at hlt)
    obtain ⟨b',o',rfl,hcm⟩:=HM.out (fun h=>by rw [HLEN.out,h] at hlt;exact absurd hlt (Nat.not_lt_zero k))
    have hgl:l[k]? = some l[k]:=by simp [hlt]
    have hlt2:k<m.length:=by have:=HLEN.out;omega
    have i1:(0:Int)≤(k:Int):=by omega
    have i2:(k:Int)<(l.length:Int):=by omega
    have i3:(k:Int)<(m.length:Int):=by omega
    have hgm:m[k]? = some m[k]:=by simp [hlt2]
    generalize hX:l[k]=X at *
    generalize hY:m[k]=Y at *
    have c0:wr.cell? ⟨b,o+k*2,none⟩=some (.int .u64 X.1):=z6 (hcl k X hgl).1 HB.out
    have c1:wr.cell? ⟨b,o+k*2+1,none⟩=some (.int .u64 X.2):=z6 (hcl k X hgl).2 HB.out
    have d0:wr.cell? ⟨b',o'+k*2,none⟩=some (.int .u64 Y.1):=z6 (hcm k Y hgm).1 HB.out
    have d1:wr.cell? ⟨b',o'+k*2+1,none⟩=some (.int .u64 Y.2):=z6 (hcm k Y hgm).2 HB.out
    clear hcl hcm hgl hgm
    have HX:=qh hX;clear hX
    have HY:=qh hY;clear hY
    obtain ⟨x1,x2⟩:=X
    obtain ⟨y1,y2⟩:=Y
    by_cases hxy:x1=y1∧x2=y2
    ·obtain ⟨rfl,rfl⟩:=hxy
     go_wp2_with fail
     go_quiet (fail)
     go_wp2_with fail
     go_roundw
     case rel =>
      refine ⟨k+1,by omega,by go_num,?_,below_drewN HB.out _⟩
      rw [List.take_succ_eq_append_getElem hlt,List.take_succ_eq_append_getElem hlt2,HE.out,HX.out,HY.out]
     case measure=>simp [intOf];omega
    ·have hne:decide (l=m)=false:=by
      simp only [decide_eq_false_iff_not]
      intro e
      subst e
      have e2:=HX.out.symm.trans HY.out
      simp at e2
      exact hxy e2
     have HN:=qh hne;clear hne
     by_cases h1:x1=y1
     ·subst h1
      have e2:(x2 == y2)=false:=by simpa using hxy
      clear hxy
      go_wp2_with fail
      go_quiet (fail)
      go_wp2_with fail
      go_ret
      exact ⟨b9 HN.out.symm,below_drewN HB.out _⟩
     ·have e1:(x1 == y1)=false:=by simpa using h1
      clear hxy h1
      go_wp2_with fail
      go_quiet (fail)
      go_wp2_with fail
      go_ret
      exact ⟨b9 HN.out.symm,below_drewN HB.out _⟩
   ·obtain rfl:k=l.length:=by omega
    have hall:decide (l=m)=true:=by
     have e:=HE.out
     rw [List.take_length,HLEN.out,List.take_length] at e
     simpa using e
    have HN:=qh hall;clear hall
    go_wp2_with fail
    go_ret
    exact ⟨b9 HN.out.symm,HB.out⟩
 ·have hb:((l.length:Int) != (m.length:Int))=true:=by simp;omega
  have hne:decide (l=m)=false:=by
   simp only [decide_eq_false_iff_not]
   intro e
   exact hlen (congrArg List.length e)
  have HN:=qh hne;clear hne
  clear hlen
  go_enter Tryz.func26,Tryz.ntmps26
  go_wp2_with fail
  go_ret
  exact ⟨b9 HN.out.symm,Below.refl _ _⟩
end
end Go.Proofs.YtchndljcahjldaaGreatDoor
