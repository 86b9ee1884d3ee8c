/- A loop over a function that stores into memory of its own between two rounds, and leaves the memory of others. -/
import Derived.Test.YtchndljcahjldaaGreatDoorMROwn
import Derived.RangeFuncNested
import Derived.RangeFuncBound
import Derived.RangeFuncCalls
import Derived.RangeFuncLeaves
import Derived.RangeFuncWrites
import Derived.Sort.QuietIn
namespace Go.Proofs.YtchndljcahjldaaGreatDoor
section
open Go.RowKit
structure y5 (q:Nat→Prop) (A B:World):Prop where
 os:B.os=A.os
 tape:B.tape=A.tape
 output:B.output=A.output
 size:A.heap.size≤B.heap.size
 block:∀ k,k<A.heap.size→¬ q k→B.heap[k]? = A.heap[k]?
section
variable {q q':Nat→Prop} {A B C:World}
theorem y5.refl (q:Nat→Prop) (A:World):y5 q A A:=⟨rfl,rfl,rfl,Nat.le_refl _,fun _ _ _=>rfl⟩
theorem y5.trans (h:y5 q A B) (k:y5 q B C):y5 q A C:=
 ⟨k.os.trans h.os,k.tape.trans h.tape,k.output.trans h.output,Nat.le_trans h.size k.size,fun i hi hq=>(k.block i (Nat.lt_of_lt_of_le hi h.size) hq).trans (h.block i hi hq)⟩
theorem y5.mono (h:y5 q A B) (hq:∀ k,k<A.heap.size→q k→q' k):y5 q' A B:=
 ⟨h.os,h.tape,h.output,h.size,fun i hi hn=>h.block i hi fun x=>hn (hq i hi x)⟩
theorem y5.of_below (q:Nat→Prop) (h:Below A.heap.size A B):y5 q A B:=⟨h.os,h.tape,h.output,h.size,fun i hi _=>h.block i hi⟩
theorem y5.below {n:Nat} (h:y5 q A B) (hn:n≤A.heap.size) (hq:∀ k,k<n→¬ q k):Below n A B:=⟨h.os,h.tape,h.output,h.size,fun i hi=>h.block i (by omega) (hq i hi)⟩
theorem y5.of_grown {row:Option Nat} (h:A.grownBy B row) (hr:∀ r,row=some r→q r):y5 q A B:=
 ⟨h.os,h.tape,h.output,h.size,fun i hi hq=>h.block i hi fun e=>hq (hr i e.symm)⟩
theorem y5.alloc (q:Nat→Prop) (A:World) (o:Obj):y5 q A (A.alloc o) := .of_below q (z8 A o)
theorem y5.drew (q:Nat→Prop) (A:World):y5 q A A.drew:=⟨rfl,rfl,rfl,Nat.le_refl _,fun _ _ _=>rfl⟩
theorem y5.drewN (q:Nat→Prop) (A:World) (n:Nat):y5 q A (A.drewN n):=⟨rfl,rfl,rfl,Nat.le_refl _,fun _ _ _=>rfl⟩
theorem y5.put {l:Nat} (A:World) (o:Obj) (h:q l):y5 q A (A.putObj l o) := .of_grown (grownBy_putObj' A l o) fun r e=>by cases e;exact h
theorem y5.set {b o:Nat} (A:World) (v:Value) (h:q b):y5 q A (A.setCell ⟨b,o,none⟩ v):=
 ⟨rfl,rfl,rfl,by simp,fun k _ hk=>Below.heap_setCell A _ v k fun e=>hk (by subst e;exact h)⟩
theorem y5.boxed {b:Nat} {t:TypeId} {v:Value} (h:y5 q A B) (hb:Boxed A b t v) (hn:¬ q b):Boxed B b t v:=(h.block b hb.lt hn).trans hb
theorem y5.obj {b:Nat} {o:Obj} (h:y5 q A B) (hb:A.heap[b]? = some o) (hn:¬ q b):B.heap[b]? = some o:=(h.block b (Array.getElem?_eq_some_iff.1 hb).1 hn).trans hb
theorem y5.cell {a:Addr} {v:Value} (h:y5 q A B) (hb:A.cell? a=some v) (hn:¬ q a.block):B.cell? a=some v:=
 (World.cell?_of_block (h.block a.block (World.block_lt_of_cell? A _ hb) hn)).trans hb
theorem y5.owns {base:Nat} {e:TypeId} {size:Nat} {v:Value} {n:Nat} {xs:List Value} (h:y5 q A B) (ho:A.ownsRow base e size v n xs) (hn:∀ k,base≤k→¬ q k):B.ownsRow base e size v n xs:=by
 refine ⟨ho.1,?_⟩
 rcases ho.2 with h0 | ⟨g,cap,cur,h1,h2,h3,h4⟩
 ·exact .inl h0
 ·exact .inr ⟨g,cap,cur,h1,h2,h.obj h3 (hn g h2),h4⟩
end
def YW (P:Program) (l:Nat) (args:Array Value) (W:World) (R:Ending→World→Prop):Prop:=YieldAt Fence.wide 0 P l args W R
theorem RoundIn.anyDepth {m m':Nat} {P:Program} {l:Nat} {f:FuncId} {tmps:Array Value} {assign body:Code} {w:World} {R:Ending→World→Prop} (h:RoundIn Fence.wide m P l f tmps assign body w R):RoundIn Fence.wide m' P l f tmps assign body w R:=
 ⟨h.1,fun c cs _=>h.2 c cs (fun d hd=>by cases hd)⟩
theorem RoundIn.inRound {F:Fence} {m:Nat} {P:Program} {l l2:Nat} {f:FuncId} {tmps:Array Value} {assign body:Code} {w:World} {R:Ending→World→Prop} (h:RoundIn F m P l f tmps assign body w R):RoundIn (F.inRound l2) m P l f tmps assign body w R:=h
theorem YW.of {m:Nat} {P:Program} {l:Nat} {args:Array Value} {W:World} {R:Ending→World→Prop} (h:YieldAt Fence.wide m P l args W R):YW P l args W R:=by
 obtain ⟨fn,tmps,assign,body,hy,hR⟩:=h
 exact ⟨fn,tmps,assign,body,hy,RoundIn.anyDepth hR⟩
def xd0 {α:Type} (n:Nat) (P:Program) (gf:Nat) (lb:Array Value) (encs:α→Array Value) (L:List α) (own keep:Nat→Prop) (lo:Nat) (W0:World):Prop:=
 ∀ (l:Nat) (J:List α→World→Prop) (Jx:World→Prop),
  (∀ front A B,J front A→y5 own A B→J front B)→(∀ A B,Jx A→y5 own A B→Jx B) →
  (∀ front x A0 A,J front A0→y5 own A0 A→front ++ [x] <+: L→lo≤A0.heap.size→YW P l (encs x) A fun e A' =>
     y5 (fun k=>¬ (keep k∨A0.heap.size≤k)) A A'∧((e = .returned (.bool true)∧J (front ++ [x]) A')∨(e = .returned (.bool false)∧Jx A'))) →
  J [] W0→CallsIn Fence.wide n P gf (#[.func (.yield l) #[] #[]]++lb) W0 fun e W'=>(∃ v,e = .returned v)∧(J L W'∨Jx W')
def x10 {α:Type} (B z:Nat) (keep:Nat→Prop) (I:List α→World→Prop) (Ix:World→Prop) (xs:List α) (W:World):Exit→Act→World→Prop
 | .normal,_,W'=>y5 (fun k=>¬ (keep k∨k=B∨k=B+1∨z≤k)) W W'∧I xs W'
 | .ret,_,W'=>y5 (fun k=>¬ (keep k∨k=B∨k=B+1∨z≤k)) W W'∧Ix W'
 | _,_,_=>False
theorem x11 {α:Type} {n:Nat} {P:Program} {g:Operand} {ps:Array Tmp} {assign body:Code} {Q:Exit→Act→World→Prop} {a:Act} {w:World} {gf:Nat} {lb:Array Value} {encs:α→Array Value} {L:List α} {own keep:Nat→Prop} {lo:Nat}
 (h1:1≤n) (hg:a.eval g = .func (.func gf) #[] lb) (eg:∀ args w,(callFunc gf args).run P w = .ok (.enter gf args) w) (hps:∀ x,(encs x).size=ps.size)
 (hkeep:∀ k,keep k→k≠w.heap.size∧k≠w.heap.size+1) (hown:∀ k,own k→w.heap.size+2≤k)
 (hit:∀ W,W.heap.size=w.heap.size+2→Below w.heap.size w W→xd0 (n - 1) P gf lb encs L own keep lo W)
 (I:List α→World→Prop) (Ix:World→Prop) (tk:Nat→Prop) (ht1:tk (w.heap.size+1)) (hto:∀ k,own k→tk k)
 (hI:∀ front A B,I front A→y5 tk A B→I front B) (hIx:∀ A B,Ix A→y5 tk A B→Ix B) (h0:I [] w) (Ax:Nat→α→Act→World→Prop)
 (hAx:∀ z x a' A B,lo≤z→w.heap.size+2≤z→Ax z x a' A→y5 tk A B→Ax z x a' B)
 (hassign:∀ (l:Nat) (front:List α) (x:α) (A0 W:World) (K:Act→World→Prop),I front A0→y5 tk A0 W→lo≤A0.heap.size→w.heap.size+2≤A0.heap.size→(∀ a' W',Below W.heap.size W W'→Ax A0.heap.size x a' W'→K a' W') →
   assign.wpIn (Fence.wide.inRound l) (n - 1 - 1) P (Exit.then K (fun _ _ _=>False)) { tmps:=(ps.zip (encs x)).foldl (fun t (p,v)=>t.setIfInBounds p v) a.tmps,defers := [] } W)
 (hbody:∀ (l:Nat) (front:List α) (x:α) (a':Act) (A0 W:World),I front A0→y5 tk A0 W→Ax A0.heap.size x a' W→front ++ [x] <+: L→lo≤A0.heap.size→w.heap.size+2≤A0.heap.size →
   body.wpIn (Fence.wide.inRound l) (n - 1 - 1) P (x10 w.heap.size A0.heap.size keep I Ix (front ++ [x]) W) a' W)
 (hdone:∀ (D:Nat) (W:World),D=w.heap.size→w.heap.size+2≤W.heap.size→I L W→W.heap[D]? = some (.deferred (some []))→Q .normal { a with defers:={ target := .collected D,args:=#[] } :: a.defers } W)
 (hstop:∀ (D:Nat) (W:World),D=w.heap.size→Ix W→W.heap[D]? = some (.deferred (some []))→Code.ret.wpIn Fence.wide n P Q { a with defers:={ target := .collected D,args:=#[] } :: a.defers } W) :
 (Code.rangeFunc g ps assign body).wpIn Fence.wide n P Q a w:=by
 refine wpIn_rangeFunc fun fn hfn => ?_
 rw [show Fence.wide.round=none from rfl]
 obtain ⟨D,hD⟩:∃ D,w.heap.size=D:=⟨_,rfl⟩
 rw [hD] at hkeep hown ht1 hbody hassign hAx
 obtain ⟨rc,hrc⟩:∃ rc:LoopState→Option Code→Loop,rc=fun st pe=>{ state:=st,pending:=pe,fn,tmps:=a.tmps,params:=ps,assign,body,defers:=D }:=⟨_,rfl⟩
 obtain ⟨W1,hW1⟩:∃ W1,(w.alloc (.deferred (some []))).alloc (.loop (rc .ready none))=W1:=⟨_,rfl⟩
 have hb1:Below w.heap.size w W1:=hW1 ▸ ((Below.refl _ w).alloc (Nat.le_refl _) _).alloc (by simp) _
 have hs1:W1.heap.size=w.heap.size+2:=by rw [← hW1];simp
 have hRec:W1.heap[D+1]? = some (.loop (rc .ready none)):=by
  have h:=World.alloc_heap_new (w.alloc (.deferred (some []))) (.loop (rc .ready none))
  rwa [World.size_alloc,hD,hW1] at h
 have hDef:W1.heap[D]? = some (.deferred (some [])):=by
  rw [← hW1,← hD];exact (Below.heap_alloc _ _ _ (by simp)).trans (World.alloc_heap_new w _)
 have hI1:I [] W1:=hI _ _ _ h0 (.of_below _ hb1)
 have no0:¬ own D:=fun h=>by have:=hown D h;omega
 have no1:¬ own (D+1):=fun h=>by have:=hown (D+1) h;omega
 refine ⟨D+1,[{ target := .collected D,args:=#[] }],W1,{ target := .fn (.func gf) lb,args:=#[.func (.yield (D+1)) #[] #[]] },W1,gf,#[.func (.yield (D+1)) #[] #[]]++lb,W1,?_,?_,?_,?_,fun _=>h1,?_⟩
 ·rw [← hW1,hrc,← hD];exact run_enterLoop_outer _ _ _ _ _
 ·simp only [resolve,hg];simp [go_sem]
 ·intro f' hf';simp [Target.leads] at hf';subst hf';exact trivial
 ·simp [invoke,go_sem,eg]
 ·have hJ:=hit W1 hs1 hb1 (D+1)
   (fun front W=>I front W∧W.heap[D+1]? = some (.loop (rc .ready none))∧W.heap[D]? = some (.deferred (some [])))
   (fun W=>Ix W∧W.heap[D+1]? = some (.loop (rc .done (some .ret)))∧W.heap[D]? = some (.deferred (some [])))
   (fun front A B h k=>⟨hI _ _ _ h.1 (k.mono fun i _=>hto i),k.obj h.2.1 no1,k.obj h.2.2 no0⟩)
   (fun A B h k=>⟨hIx _ _ h.1 (k.mono fun i _=>hto i),k.obj h.2.1 no1,k.obj h.2.2 no0⟩)
  refine (hJ ?round ⟨hI1,hRec,hDef⟩).mono ?behind
  case round =>
   rintro front x A0 W0 ⟨hi,hl,hk⟩ hstep hx hlo
   have hlt0:D+1<A0.heap.size:=(Array.getElem?_eq_some_iff.1 hl).1
   replace hl:=hstep.obj hl no1
   replace hk:=hstep.obj hk no0
   have ktk:y5 tk A0 W0:=hstep.mono fun i _=>hto i
   have hy:=run_yield (P:=P) (args:=encs x) hl (by rw [hrc];exact hps x)
   rw [hrc] at hy
   refine YW.of (m:=n - 1 - 1) ⟨fn,_,assign,body,hy,roundIn_of_wpIn hfn (hassign _ front x A0 W0 _ hi ktk hlo (by omega) ?_)⟩
   intro a' W hbW hax
   have k0:∀ q,y5 q W0 W:=fun q => .of_below q hbW
   replace hl:=(k0 own).obj hl no1
   replace hk:=(k0 own).obj hk no0
   have hlt:D+1<W.heap.size:=(Array.getElem?_eq_some_iff.1 hl).1
   refine ⟨_,run_beginRound hl (by rw [hrc]),?_⟩
   obtain ⟨W2,hW2⟩:∃ W2,W.putObj (D+1) (.loop { rc .ready none with state := .busy })=W2:=⟨_,rfl⟩
   have hl2:W2.heap[D+1]? = some (.loop { rc .ready none with state := .busy }):=hW2 ▸ World.putObj_heap_same hlt
   have hk2:W2.heap[D]? = some (.deferred (some [])):=hW2 ▸ (World.putObj_heap_other (by omega)).trans hk
   have kp2:y5 tk W W2:=hW2 ▸ y5.put W _ ht1
   have nk:¬ (keep (D+1)∨A0.heap.size≤D+1):=fun h=>h.elim (fun h=>(hkeep _ h).2 rfl) fun h=>by omega
   have kk2:y5 (fun k=>¬ (keep k∨A0.heap.size≤k)) W W2:=hW2 ▸ y5.put W _ nk
   have hax2:=hAx _ _ _ _ _ hlo (by omega) hax kp2
   rw [hW2]
   have close:∀ (jump:Option Code) (W3:World),y5 (fun k=>¬ (keep k∨k=D∨k=D+1∨A0.heap.size≤k)) W2 W3→∃ W4,W4=W3.putObj (D+1) (.loop (rc (if jump.isNone then .ready else .done) jump)) ∧
    (Instr.endRound (D+1) jump).run P W3 = .ok (.bool jump.isNone) W4∧y5 tk W3 W4∧y5 (fun k=>¬ (keep k∨A0.heap.size≤k)) W0 W4 ∧
    W4.heap[D+1]? = some (.loop (rc (if jump.isNone then .ready else .done) jump))∧W4.heap[D]? = some (.deferred (some [])):=by
    intro jump W3 h3
    have hl3:=h3.obj hl2 (fun h=>h (.inr (.inr (.inl rfl))))
    have he:=run_endRound (P:=P) jump hl3
    rw [hrc] at he hl3 ⊢
    refine ⟨_,rfl,he,y5.put _ _ ht1,?_,World.putObj_heap_same (Array.getElem?_eq_some_iff.1 hl3).1,(World.putObj_heap_other (by omega)).trans (h3.obj hk2 (fun h=>h (.inr (.inl rfl))))⟩
    exact (((k0 _).trans kk2).trans (h3.mono fun k _ h hn=>h (hn.elim .inl fun h => .inr (.inr (.inr h))))).trans (y5.put _ _ nk)
   refine wpIn_mono (hbody (D+1) front x a' A0 W2 hi ((ktk.trans (k0 _)).trans kp2) hax2 hx hlo (by omega)) ?_
   intro e a3 W3 hp
   cases e with
   | normal =>
     obtain ⟨W4,e4,hr,kt,kk,hl4,hk4⟩:=close none W3 hp.1
     exact ⟨_,_,hr,kk,.inl ⟨rfl,hI _ _ _ hp.2 kt,hl4,hk4⟩⟩
   | ret =>
     obtain ⟨W4,e4,hr,kt,kk,hl4,hk4⟩:=close (some .ret) W3 hp.1
     exact ⟨_,_,hr,kk,.inr ⟨rfl,hIx _ _ hp.2 kt,hl4,hk4⟩⟩
   | exit id=>exact hp.elim
   | goto t=>exact hp.elim
   | panic ch=>exact hp.elim
   | outgrown=>exact hp.elim
  case behind =>
   rintro e W2 ⟨⟨v,rfl⟩,(⟨hi,hl,hk⟩ | ⟨hi,hl,hk⟩)⟩
   ·have he:=run_endLoop (P:=P) hl (by rw [hrc];simp)
    rw [hrc] at he
    exact ⟨none,_,he,hdone D _ hD.symm (by have:=(Array.getElem?_eq_some_iff.1 hl).1;simp;omega) (hI _ _ _ hi (y5.put _ _ ht1)) ((World.putObj_heap_other (by omega)).trans hk)⟩
   ·have he:=run_endLoop (P:=P) hl (by rw [hrc];simp)
    rw [hrc] at he
    exact ⟨some .ret,_,he,hstop D _ hD.symm (hIx _ _ hi (y5.put _ _ ht1)) ((World.putObj_heap_other (by omega)).trans hk)⟩
end
section
def x12 (o:Oper):Bool:=match o.op with | .defer _=>false | _=>true
theorem xn3 {o:Oper} (h:x12 o=true):∀ c,o.op ≠ .defer c:=by
 intro c e
 unfold x12 at h
 rw [e] at h
 cases h
section
variable {F:Fence} {n:Nat} {P:Program} {ops:Array Oper} {md:Region.Mode} {C:World→Prop}
theorem y77 {o:Oper} {a:Act} {K:Act→Prop} {K':Act→World→Prop} {Q':Exit→Act→World→Prop} {w:World} (hnd:∀ c,o.op ≠ .defer c) (hw:C w) (h:∀ a w',C w'→K a→K' a w')
 (ha:o.askedIn F P a C) (hh:o.quietIn F n P a C K):o.wpIn F n P a w K' Q':=by
 obtain ⟨v,h1,h2⟩:=hh
 have h3:=h1 w hw
 unfold Oper.quietAtIn at h3
 unfold Oper.wpIn
 refine ⟨ha w hw,?_⟩
 rw [Oper.semAt_eq _ _ _ hnd]
 generalize (execOp a.eval o).run P w=r at *
 cases r with
 | ok x w' =>
   cases x <;> simp only [Oper.quietUponIn] at h3 <;> simp only [Oper.uponIn]
   case value u =>
    obtain ⟨e1,e2⟩:=h3
    rw [e1,e2]
    exact h _ _ hw h2
   case skip =>
    obtain ⟨e1,e2⟩:=h3
    rw [e1,← e2]
    exact h _ _ hw h2
   case enter f args =>
    obtain ⟨e1,hd,hc⟩:=h3
    rw [e1]
    exact ⟨hd,hc.mono fun e w'' ⟨he,hw''⟩=>by subst he;exact h _ _ hw'' h2⟩
 | halt x w'=>simp only [Oper.quietUponIn] at h3
theorem zy1 {i:Nat} {a:Act} {K:Act→Prop} {K':Act→World→Prop} {Q':Exit→Act→World→Prop} {w:World} (hnd:∀ (i:Nat) (o:Oper),ops[i]? = some o→∀ c,o.op ≠ .defer c) (hC:C w) (h:∀ a w',C w'→K a→K' a w')
 (hh:qOpIn F n P ops C i K a):wpOpIn F n P ops Q' i K' a w:=by
 unfold qOpIn at hh
 unfold wpOpIn
 split
 ·rename_i ho;simp only [ho] at hh;exact h _ _ hC hh
 ·rename_i o ho
  simp only [ho] at hh
  obtain ⟨ha,hh⟩:=hh
  split
  ·rename_i hw;simp only [hw,if_true] at hh;exact y77 (hnd i o ho) hC h ha hh
  ·rename_i hw;simp only [hw] at hh;exact ⟨ha w hC,h _ _ hC hh⟩
theorem zd1 {Q:Act→Prop} {Q':Exit→Act→World→Prop} (hnd:∀ (i:Nat) (o:Oper),ops[i]? = some o→∀ c,o.op ≠ .defer c) (hQ:∀ a w,C w→Q a→Q' .normal a w):∀ (fuel:Nat) (listed:Array Bool) (a:Act) (w:World),C w →
 wpAnyQIn F n P md ops C Q fuel listed a→wpAnyIn F n P md ops Q' fuel listed a w
 | 0,_,_,_,hw,h=>⟨h.1,hQ _ _ hw h.2⟩
 | fuel+1,_,_,_,hw,h=>⟨fun h0=>hQ _ _ hw (h.1 h0),fun i hi=>zy1 hnd hw (fun a' w' hw'=>zd1 hnd hQ fuel _ a' w' hw') (h.2 i hi)⟩
theorem o9 {id:Nat} {Q:Exit→Act→World→Prop} {a:Act} {w:World} {l:List Oper} (hd:l.all x12=true) (hm:P.follows .mixedOrders=true) (hB:Region.lexB .any l.toArray=true)
 (h:wpQuietIn F n P l.toArray (fun w'=>∃ n,w'=w.drewN n) (fun a'=>∀ w',(∃ n,w'=w.drewN n)→Q .normal a' w') l a):(Code.region id l.toArray true).wpIn F n P Q a w:=by
 have hnd:∀ (i:Nat) (o:Oper),l.toArray[i]? = some o→∀ c,o.op ≠ .defer c:=fun i o ho=>xn3 (List.all_eq_true.1 hd o (List.mem_of_getElem? (by simpa using ho)))
 simp only [Region.lexB,Bool.and_eq_true] at hB
 refine wpIn_region_any hm (zd1 (C:=fun w'=>∃ n,w'=w.drewN n) (Q:=fun a'=>∀ w',(∃ n,w'=w.drewN n)→Q .normal a' w') hnd (fun _ w' hw' h=>h w' hw') _ _ _ _ ⟨1,rfl⟩ ?_)
 have:=wpAnyQIn_lex (F:=F) (n:=n) (P:=P) (C:=fun w'=>∃ n,w'=w.drewN n) (md := .any) hB.1 l 0 (Array.replicate l.toArray.size false) a (by simp) (by simpa using hB.2) h
 simpa using this
end
end
end Go.Proofs.YtchndljcahjldaaGreatDoor
