/- Slices that a call has made itself: of intervals. -/
import Derived.Test.YtchndljcahjldaaGreatDoorMRIv
import Derived.Laws.OwnMore
import Derived.OwnWalk
import Derived.RangeFuncBox
import Derived.Maps.AppendAt
namespace Go.Proofs.YtchndljcahjldaaGreatDoor
open Go.RowKit
def ivC (l:List Iv):List Value:=l.flatMap fun x => [.int .u64 x.1,.int .u64 x.2]
theorem zc3 (l:List Iv) (x:Iv):ivC (l ++ [x])=ivC l ++ [.int .u64 x.1,.int .u64 x.2]:=by simp [ivC]
theorem zd9 (l:List Iv):(ivC l).length=l.length*2:=by
 induction l with
 | nil=>rfl
 | cons x l ih=>rw [show ivC (x :: l) = [.int .u64 x.1,.int .u64 x.2]++ivC l from rfl,List.length_append,ih];simp;omega
theorem zb2:(Tryz.prog.info? 65).map (fun i=>(i.zero,i.size,i.bytes))=some (some (.agg #[.int .u64 0,.int .u64 0]),2,16):=by kernel_rfl
theorem zg2 {W W':World} (h:Below W.heap.size W W') (row:Option Nat):W.grownBy W' row:=by
 obtain ⟨h1,h2,h3,h4,h5⟩:=h
 exact ⟨h1,h2,h3,h4,fun k hk _=>h5 k hk⟩
section
variable {e:TypeId} {size:Nat}
theorem y6 {W W':World} {B:Nat} {v:Value} {n:Nat} {xs:List Value} (h:W.ownsRow B e size v n xs) (hb:Below W.heap.size W W'):W'.ownsRow B e size v n xs:=by
 cases hv:v.ownBlock with
 | none=>exact h.kept (zg2 hb none) (.inl hv)
 | some g=>exact h.kept (zg2 hb none) (.inr (by rw [hv];simp))
theorem p8 {W:World} {B B':Nat} {v:Value} {k:Nat} {xs:List Value} (h:W.ownsRow B e size v k xs) (hb:B'≤B):W.ownsRow B' e size v k xs:=by
 obtain ⟨h1,h2⟩:=h
 refine ⟨h1,?_⟩
 rcases h2 with h2 | ⟨g,cap,cur,a,b,c⟩
 ·exact .inl h2
 ·exact .inr ⟨g,cap,cur,a,Nat.le_trans hb b,c⟩
theorem y8 {W:World} {B:Nat} {v:Value} {n:Nat} {xs:List Value} (h:W.ownsRow B e size v n xs):∃ p cap,v = .slice p n cap∧n≤maxLen:=by
 rcases h.2 with ⟨rfl,rfl⟩ | ⟨g,cap,cur,rfl,_,_,h3,h4,_⟩
 ·exact ⟨none,0,rfl,Nat.zero_le _⟩
 ·exact ⟨_,cap,rfl,Nat.le_trans h3 h4⟩
theorem x8 {w W w1:World} {B k:Nat} {v:Value} {xs:List Value} (hB:Below B w W) (hrow:W.ownsRow B e size v k xs) (hgrow:W.grownBy w1 v.ownBlock) (hs:B≤W.heap.size):Below B w w1:=by
 refine hB.grown hgrow hs (fun j e' => ?_)
 exact (hrow.lt j e').1
end
theorem zr9 (w:World) (x:Value) (t:TypeId) (k:Nat) (hk:k=w.heap.size):∀ j u,[x][j]? = some u→(w.alloc (.cells #[x] t)).cell? ((⟨k,0,none⟩:Addr).add j)=some u:=by
 subst hk;exact cell_one_new w x t
theorem z60 (w:World) (x y:Value) (t:TypeId) (k:Nat) (hk:k=w.heap.size):∀ j u,[x,y][j]? = some u→(w.alloc (.cells #[x,y] t)).cell? ((⟨k,0,none⟩:Addr).add j)=some u:=by
 subst hk
 intro j u h
 match j,h with
 | 0,h=>simp at h;subst h;simp [Addr.add]
 | 1,h=>simp at h;subst h;simp [Addr.add]
 | j+2,h=>simp at h
def r9 (W:World) (B:Nat) (v:Value) (L:List Iv):Prop:=W.ownsRow B 65 2 v L.length (ivC L)
theorem r9.below {W W':World} {B:Nat} {v:Value} {L:List Iv} (h:r9 W B v L) (hb:Below W.heap.size W W'):r9 W' B v L:=y6 h hb
theorem r9.ivs {W:World} {B:Nat} {v:Value} {L:List Iv} (h:r9 W B v L) (hl:L.length≤1048576):v7 W v L:=yk4 h hl
theorem r9.row {W:World} {B:Nat} {v:Value} {m:List Iv} {y:Iv} (h:r9 W B v (m ++ [y])):W.ownsRow B 65 2 v (m.length+1) (ivC (m ++ [y])):=by
 unfold r9 at h
 rwa [List.length_append,List.length_singleton] at h
theorem r9.nil (W:World) (B:Nat):r9 W B (.slice none 0 0) []:=World.ownsRow_nil _ _ _ _
theorem r9.last {W:World} {B:Nat} {v:Value} {m:List Iv} {y:Iv} (h:r9 W B v (m ++ [y])) :
 ∃ g cap,v = .slice (some ⟨g,0,none⟩) (m.length+1) cap∧W.cell? ⟨g,m.length*2,none⟩=some (.int .u64 y.1)∧W.cell? ⟨g,m.length*2+1,none⟩=some (.int .u64 y.2) ∧
  W.frozen? ⟨g,m.length*2,none⟩=false∧W.frozen? ⟨g,m.length*2+1,none⟩=false∧B≤g∧g<W.heap.size:=by
 unfold r9 at h
 rw [List.length_append,List.length_singleton] at h
 obtain ⟨g,cap,rfl⟩:=ownsRow_succ h
 have hlen:=zd9 m
 obtain ⟨l1,l2⟩:=h.lt g rfl
 refine ⟨g,cap,rfl,?_,?_,h.frozenAt _,h.frozenAt _,l1,l2⟩
 ·rw [h.cellAt _ (by omega),zc3,List.getElem?_append_right (by omega),hlen];simp
 ·rw [h.cellAt _ (by omega),zc3,List.getElem?_append_right (by omega),hlen];simp
theorem x02 {α:Type} (a:List α) (x u:α) (k:Nat) (r:List α) (hk:k=a.length):(a++x :: r).set k u=a++u :: r:=by simp_all
theorem r9.setLast {W:World} {B g cap:Nat} {m:List Iv} {y:Iv} (u:Iv) (h:r9 W B (.slice (some ⟨g,0,none⟩) (m.length+1) cap) (m ++ [y])) :
 r9 ((W.setCell ⟨g,m.length*2,none⟩ (.int .u64 u.1)).setCell ⟨g,m.length*2+1,none⟩ (.int .u64 u.2)) B (.slice (some ⟨g,0,none⟩) (m.length+1) cap) (m ++ [u]):=by
 unfold r9 at *
 rw [List.length_append,List.length_singleton] at *
 have h1:=(h.stored (m.length*2) (.int .u64 u.1)).1
 have h2:=(h1.stored (m.length*2+1) (.int .u64 u.2)).1
 rw [zc3] at h2 ⊢
 rw [x02 _ _ _ _ _ (zd9 m).symm] at h2
 rw [show ivC m ++ [Value.int .u64 u.1,.int .u64 y.2]=(ivC m ++ [.int .u64 u.1]) ++ [.int .u64 y.2] by simp,x02 _ _ _ _ _ (by simp [zd9])] at h2
 simpa using h2
theorem w41 (L:List Iv) (s:Iv):(zi4 L s).length≤L.length+1:=by
 by_cases h:L = []
 ·subst h;simp [zi4]
 ·obtain ⟨m,y,rfl⟩:=z79 h
  grind [zu3,zn9]
theorem w42:∀ (n:Nat) (l:List Iv),l.length=n→(z33 l).length≤n:=by
 intro n
 induction n with
 | zero=>intro l h;rw [List.eq_nil_of_length_eq_zero h];simp [z33]
 | succ n ih =>
   intro l h
   obtain ⟨m,s,rfl⟩:=z79 (l:=l) (by intro e;subst e;cases h)
   grind [zi5,w41,z33]
theorem w43 {L:List Iv} {s:Iv} (h:m9 L) (hs:yz3 s):m9 (zi4 L s):=by
 by_cases e:L = []
 ·subst e;intro x hx;rw [y66] at hx;rw [List.mem_singleton.1 hx];exact hs
 ·obtain ⟨m,y,rfl⟩:=z79 e
  have hy:=h y (by simp)
  by_cases hf:y.2+1<s.1
  ·rw [zu3 _ _ _ hf]
   intro x hx
   rcases List.mem_append.1 hx with hx | hx
   ·exact h x hx
   grind
  ·rw [zn9 _ _ _ hf]
   intro x hx
   rcases List.mem_append.1 hx with hx | hx
   ·exact h x (by simp [hx])
   ·rw [List.mem_singleton.1 hx]
    refine ⟨hy.1,?_⟩
    show 0≤(if y.2<s.2 then s.2 else y.2)∧(if y.2<s.2 then s.2 else y.2)≤_
    split
    ·exact hs.2
    ·exact hy.2
theorem xm3:∀ (n:Nat) (l:List Iv),l.length=n→m9 l→m9 (z33 l):=by
 intro n
 induction n with
 | zero=>intro l h _;rw [List.eq_nil_of_length_eq_zero h];intro x hx;simp [z33] at hx
 | succ n ih =>
   intro l h ha
   obtain ⟨m,s,rfl⟩:=z79 (l:=l) (by intro e;subst e;cases h)
   rw [zi5]
   exact w43 (ih m (by simpa using h) fun x hx=>ha x (by simp [hx])) (ha s (by simp))
theorem y71 {l:List Iv} {k:Nat} {x:Iv} (h:l[k]? = some x):l.take (k+1)=l.take k ++ [x]:=by rw [List.take_add_one,h];rfl
theorem xm4 {l:List Iv} {k:Nat} {x:Iv} (h:l[k]? = some x) (hs:zo0 l) (ho:∀ y ∈ l,y.1≤y.2) {m:List Iv} {y:Iv} (hm:z33 (l.take k)=m ++ [y]):y.1≤x.1∧y.1≤y.2:=by
 have hk:k<l.length:=(List.getElem?_eq_some_iff.1 h).1
 have hs':zo0 (l.take (k+1)):=hs.sublist (List.take_sublist _ _)
 rw [y71 h] at hs'
 have hp:=List.pairwise_append.1 hs'
 have hi:=y67 _ (l.take k) rfl hp.1 (fun y hy=>ho y (List.mem_of_mem_take hy))
 rw [hm] at hi
 obtain ⟨z,hz,e⟩:=hi.lo y (by simp)
 have:=hp.2.2 z hz x (by simp)
 exact ⟨by omega,z13 _ hi.can y (by simp)⟩
theorem y72 (l:List Iv) (i:Nat) (x:Iv) (h:l[i]? = some x):(ivC l)[i*2]? = some (.int .u64 x.1)∧(ivC l)[i*2+1]? = some (.int .u64 x.2):=yk3 l i x h
theorem zu5 (l:List Iv):∀ v ∈ ivC l,v.oneCell'=true:=by
 intro v hv
 unfold ivC at hv
 rw [List.mem_flatMap] at hv
 obtain ⟨x,_,hx⟩:=hv
 simp at hx
 rcases hx with rfl | rfl <;> rfl
theorem y73 {w:World} {b o n cap:Nat} {l:List Iv} (h:v7 w (.slice (some ⟨b,o,none⟩) n cap) l):∀ j v,(ivC l)[j]? = some v→w.cell? ((⟨b,o,none⟩:Addr).add j)=some v:=by
 intro j v hv
 have hj:j<l.length*2:=by rw [← zd9];exact (List.getElem?_eq_some_iff.1 hv).1
 have hx:l[j / 2]? = some l[j / 2]:=by simp [show j / 2<l.length by omega]
 have hc:=h.cells hx
 have hf:=y72 l _ _ hx
 rw [Addr.add_lit]
 rcases Nat.mod_two_eq_zero_or_one j with h0 | h0
 ·have ej:j / 2*2=j:=by omega
  rw [ej] at hc hf
  rw [hf.1] at hv;cases hv;exact hc.1
 ·have ej:j / 2*2+1=j:=by omega
  rw [ej] at hf
  rw [hf.2] at hv;cases hv
  rw [show o+j=o+j / 2*2+1 by omega];exact hc.2
end Go.Proofs.YtchndljcahjldaaGreatDoor
