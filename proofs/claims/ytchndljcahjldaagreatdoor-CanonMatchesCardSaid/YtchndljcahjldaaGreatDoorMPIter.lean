/- A loop over a function that makes memory of its own between two rounds, at places that are not known when the loop begins: no round touches it. -/
import Derived.Test.YtchndljcahjldaaGreatDoorMVApart
import Derived.OrdersHeld
import Derived.OrdersIn
import Derived.Deep.RegionHeld
namespace Go.Proofs.YtchndljcahjldaaGreatDoor
section
open Go.RowKit
variable {A B:World} {P:Program}
def Ext (T T':Nat→Prop) (A B:World):Prop:=Below A.heap.size A B∧∀ k,T' k→(T k∨A.heap.size≤k)∧k<B.heap.size
theorem Ext.of_below {T:Nat→Prop} (h:Below A.heap.size A B) (ht:∀ k,T k→k<A.heap.size):Ext T T A B:=⟨h,fun k hk=>⟨.inl hk,Nat.lt_of_lt_of_le (ht k hk) h.size⟩⟩
theorem Ext.one {T:Nat→Prop} (h:Below A.heap.size A B) (ht:∀ k,T k→k<A.heap.size) (g:Nat) (hg:A.heap.size≤g) (hg2:g<B.heap.size):Ext T (fun k=>T k∨k=g) A B:=
 ⟨h,fun k hk=>hk.elim (fun hk=>⟨.inl hk,Nat.lt_of_lt_of_le (ht k hk) h.size⟩) fun e=>by subst e;exact ⟨.inr hg,hg2⟩⟩
def we2 {α:Type} (P:Program) (l:Nat) (encs:α→Array Value) (J:List α→(Nat→Prop)→World→Prop) (Jx:World→Prop) (L:List α):Prop:=
 ∀ front x T A,J front T A→front ++ [x] <+: L→YW P l (encs x) A fun e A' =>
  y5 (fun k=>¬ T k) A A'∧((e = .returned (.bool true)∧J (front ++ [x]) T A')∨(e = .returned (.bool false)∧Jx A'))
structure we3 {α:Type} (J:List α→(Nat→Prop)→World→Prop) (Jx:World→Prop):Prop where
 go:∀ front T T' A B,J front T A→Ext T T' A B→J front T' B
 stop:∀ A B,Jx A→Below A.heap.size A B→Jx B
 low:∀ front T A,J front T A→∀ k,T k→k<A.heap.size
def we4 {α:Type} (n:Nat) (P:Program) (gf:Nat) (lb:Array Value) (encs:α→Array Value) (L:List α) (keep:Nat→Prop) (W0:World):Prop:=
 ∀ (l:Nat) (J:List α→(Nat→Prop)→World→Prop) (Jx:World→Prop),we3 J Jx→we2 P l encs J Jx L→J [] keep W0 →
  CallsIn Fence.wide n P gf (#[.func (.yield l) #[] #[]]++lb) W0 fun e W'=>(∃ v,e = .returned v)∧((∃ T,J L T W')∨Jx W')
def v71 {α:Type} (n:Nat) (P:Program) (gf:Nat) (pre:Array Value) (encs:α→Array Value) (L:List α) (r:Bool) (T0:Nat→Prop) (W0:World):Prop:=
 ∀ (l:Nat) (J:List α→(Nat→Prop)→World→Prop) (Jx:World→Prop) (f0:List α),we3 J Jx→we2 P l encs J Jx (f0++L)→J f0 T0 W0 →
  CallsIn Fence.wide n P gf (pre++#[.func (.yield l) #[] #[]]) W0 fun e W' =>
     y5 (fun k=>¬ T0 k) W0 W'∧((e = .returned (.bool r)∧∃ T,(∀ k,T0 k→T k)∧J (f0++L) T W')∨(e = .returned (.bool false)∧Jx W'))
theorem we2.part {α:Type} {l:Nat} {encs:α→Array Value} {J:List α→(Nat→Prop)→World→Prop} {Jx:World→Prop} {L L':List α} (h:we2 P l encs J Jx L) (hp:L' <+: L):we2 P l encs J Jx L':=
 fun front x T A hj hx=>h front x T A hj (hx.trans hp)
def wz2 {α:Type} (B:Nat) (T:Nat→Prop) (I:List α→(Nat→Prop)→World→Prop) (Ix:World→Prop) (xs:List α) (W:World):Exit→Act→World→Prop
 | .normal,_,W'=>y5 (fun k=>¬ (T k∨k=B∨k=B+1)) W W'∧I xs T W'
 | .ret,_,W'=>y5 (fun k=>¬ (T k∨k=B∨k=B+1)) W W'∧Ix W'
 | _,_,_=>False
theorem xs1 {α:Type} {n:Nat} {g:Operand} {ps:Array Tmp} {assign body:Code} {Q:Exit→Act→World→Prop} {a:Act} {w:World} {gf:Nat} {lb:Array Value} {encs:α→Array Value} {L:List α} {keep:Nat→Prop}
 (h1:1≤n) (hg:a.eval g = .func (.func gf) #[] lb) (eg:∀ args w,(callFunc gf args).run P w = .ok (.enter gf args) w) (hps:∀ x,(encs x).size=ps.size)
 (hkeep:∀ k,keep k→k<w.heap.size)
 (hit:∀ W,W.heap.size=w.heap.size+2→Below w.heap.size w W→we4 (n - 1) P gf lb encs L keep W)
 (I:List α→(Nat→Prop)→World→Prop) (Ix:World→Prop)
 (hI:∀ front T T' A B,I front T A→Ext T T' A B→I front T' B) (hIp:∀ front T A B,I front T A→y5 (fun k=>k=w.heap.size+1) A B→I front T B)
 (hIx:∀ A B,Ix A→y5 (fun k=>k=w.heap.size+1) A B→Ix B) (h0:I [] keep w) (Ax:α→Act→World→Prop)
 (hAx:∀ x a' A B,Ax x a' A→y5 (fun k=>k=w.heap.size+1) A B→Ax x a' B)
 (hassign:∀ (l:Nat) (front:List α) (x:α) (T:Nat→Prop) (W:World) (K:Act→World→Prop),I front T W→w.heap.size+2≤W.heap.size→(∀ a' W',Below W.heap.size W W'→Ax x a' W'→K a' W') →
   assign.wpIn (Fence.wide.inRound l) (n - 1 - 1) P (Exit.then K (fun _ _ _=>False)) { tmps:=(ps.zip (encs x)).foldl (fun t (p,v)=>t.setIfInBounds p v) a.tmps,defers := [] } W)
 (hbody:∀ (l:Nat) (front:List α) (x:α) (a':Act) (T:Nat→Prop) (W:World),I front T W→(∀ k,T k→k<W.heap.size∧k≠w.heap.size∧k≠w.heap.size+1)→Ax x a' W→front ++ [x] <+: L→w.heap.size+2≤W.heap.size →
   body.wpIn (Fence.wide.inRound l) (n - 1 - 1) P (wz2 w.heap.size T I Ix (front ++ [x]) W) a' W)
 (hdone:∀ (D:Nat) (T:Nat→Prop) (W:World),D=w.heap.size→w.heap.size+2≤W.heap.size→I L T W→W.heap[D]? = some (.deferred (some []))→Q .normal { a with defers:={ target := .collected D,args:=#[] } :: a.defers } W)
 (hstop:∀ (D:Nat) (W:World),D=w.heap.size→Ix W→W.heap[D]? = some (.deferred (some []))→Code.ret.wpIn Fence.wide n P Q { a with defers:={ target := .collected D,args:=#[] } :: a.defers } W) :
 (Code.rangeFunc g ps assign body).wpIn Fence.wide n P Q a w:=by
 refine wpIn_rangeFunc fun fn hfn => ?_
 rw [show Fence.wide.round=none from rfl]
 obtain ⟨D,hD⟩:∃ D,w.heap.size=D:=⟨_,rfl⟩
 rw [hD] at hkeep hbody hassign hAx hIp hIx
 obtain ⟨rc,hrc⟩:∃ rc:LoopState→Option Code→Loop,rc=fun st pe=>{ state:=st,pending:=pe,fn,tmps:=a.tmps,params:=ps,assign,body,defers:=D }:=⟨_,rfl⟩
 obtain ⟨W1,hW1⟩:∃ W1,(w.alloc (.deferred (some []))).alloc (.loop (rc .ready none))=W1:=⟨_,rfl⟩
 have hb1:Below w.heap.size w W1:=hW1 ▸ ((Below.refl _ w).alloc (Nat.le_refl _) _).alloc (by simp) _
 have hs1:W1.heap.size=w.heap.size+2:=by rw [← hW1];simp
 have hRec:W1.heap[D+1]? = some (.loop (rc .ready none)):=by
  have h:=World.alloc_heap_new (w.alloc (.deferred (some []))) (.loop (rc .ready none))
  rwa [World.size_alloc,hD,hW1] at h
 have hDef:W1.heap[D]? = some (.deferred (some [])):=by
  rw [← hW1,← hD];exact (Below.heap_alloc _ _ _ (by simp)).trans (World.alloc_heap_new w _)
 have hI1:I [] keep W1:=hI _ _ _ _ _ h0 (Ext.of_below hb1 (by rw [hD];exact hkeep))
 refine ⟨D+1,[{ target := .collected D,args:=#[] }],W1,{ target := .fn (.func gf) lb,args:=#[.func (.yield (D+1)) #[] #[]] },W1,gf,#[.func (.yield (D+1)) #[] #[]]++lb,W1,?_,?_,?_,?_,fun _=>h1,?_⟩
 ·rw [← hW1,hrc,← hD];exact run_enterLoop_outer _ _ _ _ _
 ·simp only [resolve,hg];simp [go_sem]
 ·intro f' hf';simp [Target.leads] at hf';subst hf';exact trivial
 ·simp [invoke,go_sem,eg]
 ·have no:¬ (False:Prop):=id
  have hJ:=hit W1 hs1 hb1 (D+1)
   (fun front T W=>I front T W∧(∀ k,T k→k<W.heap.size∧k≠D∧k≠D+1)∧W.heap[D+1]? = some (.loop (rc .ready none))∧W.heap[D]? = some (.deferred (some [])))
   (fun W=>Ix W∧W.heap[D+1]? = some (.loop (rc .done (some .ret)))∧W.heap[D]? = some (.deferred (some [])))
   ⟨fun front T T' A B h k=>⟨hI _ _ _ _ _ h.1 k,fun i hi=>⟨(k.2 i hi).2,by
    have hlt:D+1<A.heap.size:=(Array.getElem?_eq_some_iff.1 h.2.2.1).1
    rcases (k.2 i hi).1 with hh | hh
    ·exact (h.2.1 i hh).2
    ·omega⟩,(y5.of_below (fun _=>False) k.1).obj h.2.2.1 no,(y5.of_below (fun _=>False) k.1).obj h.2.2.2 no⟩,
    fun A B h k=>⟨hIx _ _ h.1 (y5.of_below _ k),(y5.of_below (fun _=>False) k).obj h.2.1 no,(y5.of_below (fun _=>False) k).obj h.2.2 no⟩,
    fun front T A h k hk=>(h.2.1 k hk).1⟩
  refine (hJ ?round ⟨hI1,fun k hk=>⟨by have:=hkeep k hk;omega,by have:=hkeep k hk;omega,by have:=hkeep k hk;omega⟩,hRec,hDef⟩).mono ?behind
  case round =>
   rintro front x T W0 ⟨hi,hT,hl,hk⟩ hx
   have hlt0:D+1<W0.heap.size:=(Array.getElem?_eq_some_iff.1 hl).1
   have hy:=run_yield (P:=P) (args:=encs x) hl (by rw [hrc];exact hps x)
   rw [hrc] at hy
   refine YW.of (m:=n - 1 - 1) ⟨fn,_,assign,body,hy,roundIn_of_wpIn hfn (hassign _ front x T W0 _ hi (by omega) ?_)⟩
   intro a' W hbW hax
   have k0:∀ q,y5 q W0 W:=fun q => .of_below q hbW
   replace hl:=(k0 fun _=>False).obj hl no
   replace hk:=(k0 fun _=>False).obj hk no
   have hlt:D+1<W.heap.size:=(Array.getElem?_eq_some_iff.1 hl).1
   refine ⟨_,run_beginRound hl (by rw [hrc]),?_⟩
   obtain ⟨W2,hW2⟩:∃ W2,W.putObj (D+1) (.loop { rc .ready none with state := .busy })=W2:=⟨_,rfl⟩
   have hl2:W2.heap[D+1]? = some (.loop { rc .ready none with state := .busy }):=hW2 ▸ World.putObj_heap_same hlt
   have hk2:W2.heap[D]? = some (.deferred (some [])):=hW2 ▸ (World.putObj_heap_other (by omega)).trans hk
   have kp2:y5 (fun k=>k=D+1) W W2:=hW2 ▸ y5.put W _ rfl
   have nk:¬ T (D+1):=fun h=>(hT _ h).2.2 rfl
   have kk2:y5 (fun k=>¬ T k) W W2:=hW2 ▸ y5.put W _ nk
   have hax2:=hAx _ _ _ _ hax kp2
   have hi2:=hIp _ _ _ _ (hI _ _ _ _ _ hi (Ext.of_below hbW fun k hk=>(hT k hk).1)) kp2
   have hT2:∀ k,T k→k<W2.heap.size∧k≠D∧k≠D+1:=fun k hk=>⟨Nat.lt_of_lt_of_le (hT k hk).1 (Nat.le_trans hbW.size kp2.size),(hT k hk).2⟩
   have hs2:D+2≤W2.heap.size:=Nat.le_trans hlt kp2.size
   rw [hW2]
   have close:∀ (jump:Option Code) (W3:World),y5 (fun k=>¬ (T k∨k=D∨k=D+1)) W2 W3→∃ W4,W4=W3.putObj (D+1) (.loop (rc (if jump.isNone then .ready else .done) jump)) ∧
    (Instr.endRound (D+1) jump).run P W3 = .ok (.bool jump.isNone) W4∧y5 (fun k=>k=D+1) W3 W4∧y5 (fun k=>¬ T k) W0 W4 ∧
    W4.heap[D+1]? = some (.loop (rc (if jump.isNone then .ready else .done) jump))∧W4.heap[D]? = some (.deferred (some [])):=by
    intro jump W3 h3
    have hl3:=h3.obj hl2 (fun h=>h (.inr (.inr rfl)))
    have he:=run_endRound (P:=P) jump hl3
    rw [hrc] at he hl3 ⊢
    refine ⟨_,rfl,he,y5.put _ _ rfl,?_,World.putObj_heap_same (Array.getElem?_eq_some_iff.1 hl3).1,(World.putObj_heap_other (by omega)).trans (h3.obj hk2 (fun h=>h (.inr (.inl rfl))))⟩
    exact (((k0 _).trans kk2).trans (h3.mono fun k _ h hn=>h (.inl hn))).trans (y5.put _ _ nk)
   refine wpIn_mono (hbody (D+1) front x a' T W2 hi2 hT2 hax2 hx hs2) ?_
   intro e a3 W3 hp
   cases e with
   | normal =>
     obtain ⟨W4,e4,hr,kt,kk,hl4,hk4⟩:=close none W3 hp.1
     exact ⟨_,_,hr,kk,.inl ⟨rfl,hIp _ _ _ _ hp.2 kt,fun k hk=>⟨Nat.lt_of_lt_of_le (hT k hk).1 kk.size,(hT k hk).2⟩,hl4,hk4⟩⟩
   | ret =>
     obtain ⟨W4,e4,hr,kt,kk,hl4,hk4⟩:=close (some .ret) W3 hp.1
     exact ⟨_,_,hr,kk,.inr ⟨rfl,hIx _ _ hp.2 kt,hl4,hk4⟩⟩
   | exit id=>exact hp.elim
   | goto t=>exact hp.elim
   | panic ch=>exact hp.elim
   | outgrown=>exact hp.elim
  case behind =>
   rintro e W2 ⟨⟨v,rfl⟩,(⟨T,hi,_,hl,hk⟩ | ⟨hi,hl,hk⟩)⟩
   ·have he:=run_endLoop (P:=P) hl (by rw [hrc];simp)
    rw [hrc] at he
    exact ⟨none,_,he,hdone D T _ hD.symm (by have:=(Array.getElem?_eq_some_iff.1 hl).1;simp;omega) (hIp _ _ _ _ hi (y5.put _ _ rfl)) ((World.putObj_heap_other (by omega)).trans hk)⟩
   ·have he:=run_endLoop (P:=P) hl (by rw [hrc];simp)
    rw [hrc] at he
    exact ⟨some .ret,_,he,hstop D _ hD.symm (hIx _ _ hi (y5.put _ _ rfl)) ((World.putObj_heap_other (by omega)).trans hk)⟩
end
section
section
variable {n:Nat} {P:Program} {ops:Array Oper} {Q:Exit→Act→World→Prop} {md:Region.Mode} {S:World→Prop}
theorem y99 {i:Nat} {o:Oper} {v:Value} {a:Act} (hi:ops[i]? = some o) (hy:YieldsIf P ops S o v a) {K:Act→World→Prop} {w:World} (hS:S w) (h:K (a.put o.dst v) w):wpOpIn Fence.wide n P ops Q i K a w:=by
 unfold Go.wpOpIn
 simp only [hi]
 rcases hy with ⟨hw,hv⟩ | ⟨hw,rfl⟩
 ·simp only [hw,if_true,Oper.wpIn]
  refine ⟨fun _ _=>trivial,?_⟩
  rw [show Fence.wide.round=none from rfl,Oper.semAt_none,hv w hS]
  exact h
 ·simp only [hw,Bool.false_eq_true,if_false]
  exact ⟨fun _ _=>trivial,h⟩
theorem we5 {j:Nat} {oi oj:Oper} {v:Value} (hj:ops[j]? = some oj) (hap:oi.apart ops oj=true)
 (hsi:∀ cs b,oi.op ≠ .select cs b) (hsj:∀ cs b,oj.op ≠ .select cs b)
 (hQ:∀ c a w,Q (.panic c) (a.put oi.dst v) w→Q (.panic c) a w) {K:Act→World→Prop} {a:Act} {w:World}
 (hy:YieldsIf P ops S oi v a) (h:wpOpIn Fence.wide n P ops Q j K (a.put oi.dst v) w) :
 wpOpIn Fence.wide n P ops Q j (fun a' w'=>YieldsIf P ops S oi v a'∧K (a'.put oi.dst v) w') a w:=by
 obtain ⟨h1,h2,h3⟩:=Oper.apart_spec hap
 have keep:∀ (a:Act),YieldsIf P ops S oi v a→∀ u,YieldsIf P ops S oi v (a.put oj.dst u):=fun a hy u =>
  hy.of_same (execOp_put oi hsi a oj.dst u h3) (wanted_put oi a oj.dst u h3)
 have keepD:∀ d,YieldsIf P ops S oi v { a with defers:=d :: a.defers }:=fun d=>hy.of_same rfl rfl
 unfold wpOpIn at *
 simp only [hj] at *
 rw [wanted_put oj a oi.dst v h1] at h
 split
 ·rename_i hw
  simp only [hw,if_true] at h
  unfold Oper.wpIn at *
  refine ⟨fun _ _=>trivial,?_⟩
  have h:=h.2
  rw [show Fence.wide.round=none from rfl,Oper.semAt_none,execOp_put oj hsj a oi.dst v h1] at h
  rw [show Fence.wide.round=none from rfl,Oper.semAt_none]
  generalize (execOp a.eval oj).run P w=r at *
  cases r with
  | ok x w' =>
    cases x <;> simp only [Oper.uponIn] at h ⊢
    case value u=>exact ⟨keep a hy u,by rw [← Act.put_comm a v u h2];exact h⟩
    case skip=>exact ⟨keep a hy _,by rw [← Act.put_comm a v undef h2];exact h⟩
    case defer d =>
     refine ⟨keep _ (keepD d) _,?_⟩
     rw [← Act.put_comm _ v undef h2,← Act.put_defers]
     exact h
    case enter f args =>
     refine ⟨h.1,CallsIn.mono h.2 fun e w'' he => ?_⟩
     cases e with
     | returned u=>exact ⟨keep a hy u,by rw [← Act.put_comm a v u h2];exact he⟩
     | panicked c=>exact hQ _ _ _ he
     | outgrown=>exact he
    case row row args=>exact ⟨h.1,RowsIn.mono h.2 fun u w'' he=>⟨keep a hy u,by rw [← Act.put_comm a v u h2];exact he⟩⟩
    case round l f tmps assign body =>
     refine ⟨h.1,RoundIn.mono h.2 fun e w'' he => ?_⟩
     cases e with
     | returned u=>exact ⟨keep a hy u,by rw [← Act.put_comm a v u h2];exact he⟩
     | panicked c=>exact hQ _ _ _ he
     | outgrown=>exact he
  | halt x w' =>
    cases x <;> simp only [Oper.uponIn] at h ⊢
    case panic u=>exact hQ _ _ _ h
 ·rename_i hw
  simp only [hw] at h
  exact ⟨fun _ _=>trivial,keep a hy _,by rw [← Act.put_comm a v undef h2];exact h.2⟩
def z23 (n:Nat) (P:Program) (md:Region.Mode) (ops:Array Oper) (Q:Exit→Act→World→Prop) (S:World→Prop):Nat→Array Bool→Act→World→Prop
 | 0,listed,a,w=>Region.ready md ops listed = []∧Q .normal a w
 | fuel+1,listed,a,w =>
   (Region.ready md ops listed = []→Q .normal a w) ∧
   ∀ i ∈ Region.ready md ops listed,wpOpIn Fence.wide n P ops Q i (fun a' w'=>S w'∧z23 n P md ops Q S fuel (listed.setIfInBounds i true) a' w') a w
theorem y12:∀ (fuel:Nat) (listed:Array Bool) (a:Act) (w:World),z23 n P md ops Q S fuel listed a w→wpAnyIn Fence.wide n P md ops Q fuel listed a w
 | 0,_,_,_,h=>h
 | fuel+1,_,_,_,h=>⟨h.1,fun i hi=>wpOpIn_mono (fun a' w' h'=>y12 fuel _ a' w' h'.2) (h.2 i hi)⟩
theorem y13 {i:Nat} {oi:Oper} {v:Value} (hi:ops[i]? = some oi) (hsel:∀ (j:Nat) (o:Oper) cs b,ops[j]? = some o→o.op ≠ .select cs b)
 (hQ:∀ c a w,Q (.panic c) (a.put oi.dst v) w→Q (.panic c) a w) :
 ∀ (fuel:Nat) (listed:Array Bool) (a:Act) (w:World),
  (∀ j oj,ops[j]? = some oj→j≠i→listed.getD j true=false→(∀ e ∈ oj.after,Region.binds md e=true→e.on≠i)→oi.apart ops oj=true) →
  i ∈ Region.ready md ops listed→YieldsIf P ops S oi v a→S w →
  z23 n P md ops Q S fuel (listed.setIfInBounds i true) (a.put oi.dst v) w→z23 n P md ops Q S (fuel+1) listed a w:=by
 intro fuel
 induction fuel with
 | zero =>
   intro listed a w _ hr hy hS H
   refine ⟨fun h=>(by rw [h] at hr;cases hr),fun j hj => ?_⟩
   by_cases hji:j=i
   ·subst hji;exact y99 hi hy hS ⟨hS,H⟩
   ·have:=ready_mono hj hji
    rw [H.1] at this
    cases this
 | succ fuel ih =>
   intro listed a w hfree hr hy hS H
   refine ⟨fun h=>(by rw [h] at hr;cases hr),fun j hj => ?_⟩
   by_cases hji:j=i
   ·subst hji;exact y99 hi hy hS ⟨hS,H⟩
   ·have h1:=H.2 j (ready_mono hj hji)
    obtain ⟨hjun,oj,hoj,hall⟩:=mem_ready.1 hj
    have hnot:∀ e ∈ oj.after,Region.binds md e=true→e.on≠i:=fun e he hb heq=>by
     have h1:=hall e he hb
     have h0:=(mem_ready.1 hr).1
     rw [heq] at h1
     rcases Nat.lt_or_ge i listed.size with h' | h'
     ·simp [h'] at h0 h1;rw [h0] at h1;cases h1
     ·simp [Array.getElem?_eq_none h'] at h1
    have h2:=we5 hoj (hfree j oj hoj hji hjun hnot) (fun cs b=>hsel i oi cs b hi) (fun cs b=>hsel j oj cs b hoj) hQ hy h1
    have hfree':∀ k ok,ops[k]? = some ok→k≠i→(listed.setIfInBounds j true).getD k true=false →
     (∀ e ∈ ok.after,Region.binds md e=true→e.on≠i)→oi.apart ops ok=true:=fun k ok hk hki hun hno=>by
     refine hfree k ok hk hki ?_ hno
     by_cases hjk:j=k
     ·subst hjk;exact hjun
     ·rw [getD_set_ne true hjk] at hun;exact hun
    refine wpOpIn_mono (fun a' w' h3=>⟨h3.2.1,ih (listed.setIfInBounds j true) a' w' hfree' (ready_mono hr (Ne.symm hji)) h3.1 h3.2.1 ?_⟩) h2
    rw [Array.setIfInBounds_comm _ _ hji]
    exact h3.2.2
theorem v72 {i:Nat} (oi:Oper) {v:Value} {fuel:Nat} {listed:Array Bool} {a:Act} {w:World} (hi:ops[i]? = some oi)
 (hs:Region.noSelect ops=true) (hf:Region.free md ops listed i=true) (hr:(Region.ready md ops listed).contains i=true)
 (hQ:∀ c a w,Q (.panic c) (a.put oi.dst v) w→Q (.panic c) a w) (hw:Region.wanted oi (yielded ops a.tmps)=true) (hS:S w)
 (hy:∀ w,S w→(execOp a.eval oi).run P w = .ok (.value v) w)
 (h:z23 n P md ops Q S fuel (listed.setIfInBounds i true) (a.put oi.dst v) w):z23 n P md ops Q S (fuel+1) listed a w:=
 y13 hi (Region.noSelect_spec hs) hQ fuel listed a w (Region.free_spec hi hf) (by simpa using hr) (Or.inl ⟨hw,hy⟩) hS h
theorem v73 {i:Nat} (oi:Oper) {fuel:Nat} {listed:Array Bool} {a:Act} {w:World} (hi:ops[i]? = some oi)
 (hs:Region.noSelect ops=true) (hf:Region.free md ops listed i=true) (hr:(Region.ready md ops listed).contains i=true)
 (hQ:∀ c a w,Q (.panic c) (a.put oi.dst undef) w→Q (.panic c) a w) (hw:Region.wanted oi (yielded ops a.tmps)=false) (hS:S w)
 (h:z23 n P md ops Q S fuel (listed.setIfInBounds i true) (a.put oi.dst undef) w):z23 n P md ops Q S (fuel+1) listed a w:=
 y13 hi (Region.noSelect_spec hs) hQ fuel listed a w (Region.free_spec hi hf) (by simpa using hr) (Or.inr ⟨hw,rfl⟩) hS h
theorem ys7 {listed:Array Bool} {a:Act} {w:World} (hr:Region.ready md ops listed = []) (h:Q .normal a w):∀ fuel,z23 n P md ops Q S fuel listed a w
 | 0=>⟨hr,h⟩
 | _+1=>⟨fun _=>h,by rw [hr];simp⟩
theorem ww7 {i:Nat} (o:Oper) {fuel:Nat} {listed:Array Bool} {a:Act} {w:World} (ho:ops[i]? = some o) (hr:Region.ready md ops listed = [i]) (hw:Region.wanted o (yielded ops a.tmps)=true)
 (h:o.wpIn Fence.wide n P a w (fun a' w'=>S w'∧z23 n P md ops Q S fuel (listed.setIfInBounds i true) a' w') Q):z23 n P md ops Q S (fuel+1) listed a w:=by
 refine ⟨fun h0=>(by rw [hr] at h0;cases h0),fun j hj => ?_⟩
 rw [hr] at hj
 obtain rfl:=List.mem_singleton.1 hj
 unfold wpOpIn
 simp only [ho,hw,if_true]
 exact h
theorem we6 {i:Nat} (o:Oper) {R:Ending→World→Prop} {fuel:Nat} {listed:Array Bool} {a:Act} {w:World} {l:Nat} {args:Array Value} (ho:ops[i]? = some o) (hr:Region.ready md ops listed = [i]) (hw:Region.wanted o (yielded ops a.tmps)=true)
 (hx:(execOp a.eval o).run P w=(Instr.yield l args).run P w) (hY:YW P l args w R)
 (h:∀ e w',R e w'→∃ v,e = .returned v∧S w'∧z23 n P md ops Q S fuel (listed.setIfInBounds i true) (a.put o.dst v) w'):z23 n P md ops Q S (fuel+1) listed a w:=by
 refine ww7 o ho hr hw ⟨fun _ _=>trivial,?_⟩
 rw [show Fence.wide.round=none from rfl,Oper.semAt_none,hx]
 obtain ⟨fn,tmps,assign,body,hy,hR⟩:=hY
 rw [hy,Oper.uponIn_round]
 refine ⟨fun h=>(by cases h),(RoundIn.anyDepth hR).mono ?_⟩
 intro e w' hr
 obtain ⟨v,rfl,hs⟩:=h e w' hr
 exact hs
theorem v74 {i:Nat} (o:Oper) {R:Ending→World→Prop} {fuel:Nat} {listed:Array Bool} {a:Act} {w:World} {f:Nat} {args:Array Value} (ho:ops[i]? = some o) (hr:Region.ready md ops listed = [i]) (hw:Region.wanted o (yielded ops a.tmps)=true)
 (hx:(execOp a.eval o).run P w = .ok (.enter f args) w) (hc:CallsIn Fence.wide (n - 1) P f args w R)
 (h:∀ e w',R e w'→∃ v,e = .returned v∧S w'∧z23 n P md ops Q S fuel (listed.setIfInBounds i true) (a.put o.dst v) w'):z23 n P md ops Q S (fuel+1) listed a w:=by
 refine ww7 o ho hr hw ⟨fun _ _=>trivial,?_⟩
 rw [show Fence.wide.round=none from rfl,Oper.semAt_none,hx,Oper.uponIn_enter]
 refine ⟨fun h=>(by cases h),hc.mono ?_⟩
 intro e w' hr
 obtain ⟨v,rfl,hs⟩:=h e w' hr
 exact hs
theorem x93 {id:Nat} {a:Act} {w:World} (hm:P.follows .mixedOrders=true)
 (h:z23 n P .any ops Q S ops.size (Array.replicate ops.size false) a w.drew):(Code.region id ops true).wpIn Fence.wide n P Q a w:=
 wpIn_region_any hm (y12 _ _ _ _ h)
end
end
section
variable {P:Program} {ops:Array Oper} {Q:Exit→Act→World→Prop} {md:Region.Mode} {S:World→Prop} {n:Nat}
theorem it {i:Nat} (oi:Oper) {v:Value} {fuel:Nat} {listed:Array Bool} {a:Act} {w:World} (hS:S w) (hy:∀ w,S w→(execOp a.eval oi).run P w = .ok (.value v) w) (h:z23 n P md ops Q S fuel (listed.setIfInBounds i true) (a.put oi.dst v) w) (hi:ops[i]? = some oi:=by rfl)
 (hs:Region.noSelect ops=true:=by kernel_rfl) (hf:Region.free md ops listed i=true:=by kernel_rfl) (hr:(Region.ready md ops listed).contains i=true:=by kernel_rfl)
 (hQ:∀ c a w,Q (.panic c) (a.put oi.dst v) w→Q (.panic c) a w:=by exact fun _ _ _ h=>h) (hw:Region.wanted oi (yielded ops a.tmps)=true:=by rfl):z23 n P md ops Q S (fuel+1) listed a w:=
 v72 oi hi hs hf hr hQ hw hS hy h
theorem ik {i:Nat} (oi:Oper) {fuel:Nat} {listed:Array Bool} {a:Act} {w:World} (hS:S w) (h:z23 n P md ops Q S fuel (listed.setIfInBounds i true) (a.put oi.dst undef) w) (hi:ops[i]? = some oi:=by rfl)
 (hs:Region.noSelect ops=true:=by kernel_rfl) (hf:Region.free md ops listed i=true:=by kernel_rfl) (hr:(Region.ready md ops listed).contains i=true:=by kernel_rfl)
 (hQ:∀ c a w,Q (.panic c) (a.put oi.dst undef) w→Q (.panic c) a w:=by exact fun _ _ _ h=>h) (hw:Region.wanted oi (yielded ops a.tmps)=false:=by rfl):z23 n P md ops Q S (fuel+1) listed a w:=
 v73 oi hi hs hf hr hQ hw hS h
end
end Go.Proofs.YtchndljcahjldaaGreatDoor
