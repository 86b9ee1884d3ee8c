/- A loop over a function that yields elements in an order that nobody knows, and stores into blocks that it has made: a twin of PIter's law. -/
import Derived.Test.YtchndljcahjldaaGreatDoorMPIter
import Derived.Test.YtchndljcahjldaaGreatDoorMUSortD
import Derived.Test.YtchndljcahjldaaGreatDoorMPMath
import Derived.Sort.MapsRangeIn
import Derived.LoopIn
import Derived.LoopNIn
import Derived.TacticsInMore
import Derived.Maps.OwnIn
import Derived.Maps.OwnSet
namespace Go.Proofs.YtchndljcahjldaaGreatDoor
section
open Go.RowKit
structure wy1 {α:Type} (J:List α→(Nat→Prop)→World→Prop) (Jx:World→Prop) (lo:Nat):Prop where
 go:∀ front T T' A B,J front T A→Ext T T' A B→J front T' B
 mine:∀ front T r A B,J front T A→T r→lo≤r→y5 (fun k=>k=r) A B→J front T B
 stop:∀ A B,Jx A→Below A.heap.size A B→Jx B
 low:∀ front T A,J front T A→∀ k,T k→k<A.heap.size
def va9 {α:Type} (P:Program) (l:Nat) (encs:α→Array Value) (J:List α→(Nat→Prop)→World→Prop) (Jx:World→Prop) (Q1:List α→α→Prop):Prop:=
 ∀ front x T A,J front T A→Q1 front x→YW P l (encs x) A fun e A' =>
  y5 (fun k=>¬ T k) A A'∧((e = .returned (.bool true)∧J (front ++ [x]) T A')∨(e = .returned (.bool false)∧Jx A'))
def xq9 {α:Type} (n:Nat) (P:Program) (gf:Nat) (lb:Array Value) (encs:α→Array Value) (Q1:List α→α→Prop) (Fin:List α→Prop) (keep:Nat→Prop) (lo:Nat) (W0:World):Prop:=
 ∀ (l:Nat) (J:List α→(Nat→Prop)→World→Prop) (Jx:World→Prop),wy1 J Jx lo→va9 P l encs J Jx Q1→J [] keep W0 →
  CallsIn Fence.wide n P gf (#[.func (.yield l) #[] #[]]++lb) W0 fun e W'=>(∃ v,e = .returned v)∧((∃ L T,Fin L∧J L T W')∨Jx W')
def wa7 {α:Type} (B:Nat) (T:Nat→Prop) (I:List α→(Nat→Prop)→World→Prop) (Ix:World→Prop) (xs:List α) (W:World):Exit→Act→World→Prop
 | .normal,_,W'=>y5 (fun k=>¬ (T k∨k=B∨k=B+1)) W W'∧I xs T W'
 | .ret,_,W'=>y5 (fun k=>¬ (T k∨k=B∨k=B+1)) W W'∧Ix W'
 | _,_,_=>False
theorem wo8 {α:Type} {n:Nat} {P:Program} {g:Operand} {ps:Array Tmp} {assign body:Code} {Q:Exit→Act→World→Prop} {a:Act} {w:World} {gf:Nat} {lb:Array Value} {encs:α→Array Value} {Q1:List α→α→Prop} {Fin:List α→Prop} {keep:Nat→Prop}
 (h1:1≤n) (hg:a.eval g = .func (.func gf) #[] lb) (eg:∀ args w,(callFunc gf args).run P w = .ok (.enter gf args) w) (hps:∀ x,(encs x).size=ps.size)
 (hkeep:∀ k,keep k→k<w.heap.size)
 (hit:∀ W,W.heap.size=w.heap.size+2→Below w.heap.size w W→xq9 (n - 1) P gf lb encs Q1 Fin keep (w.heap.size+2) W)
 (I:List α→(Nat→Prop)→World→Prop) (Ix:World→Prop)
 (hI:∀ front T T' A B,I front T A→Ext T T' A B→I front T' B) (hIp:∀ front T A B,I front T A→y5 (fun k=>k=w.heap.size+1) A B→I front T B)
 (hIm:∀ front T r A B,I front T A→T r→w.heap.size+2≤r→y5 (fun k=>k=r) A B→I front T B)
 (hIx:∀ A B,Ix A→y5 (fun k=>k=w.heap.size+1) A B→Ix B) (h0:I [] keep w) (Ax:α→Act→World→Prop)
 (hAx:∀ x a' A B,Ax x a' A→y5 (fun k=>k=w.heap.size+1) A B→Ax x a' B)
 (hassign:∀ (l:Nat) (front:List α) (x:α) (T:Nat→Prop) (W:World) (K:Act→World→Prop),I front T W→w.heap.size+2≤W.heap.size→(∀ a' W',Below W.heap.size W W'→Ax x a' W'→K a' W') →
   assign.wpIn (Fence.wide.inRound l) (n - 1 - 1) P (Exit.then K (fun _ _ _=>False)) { tmps:=(ps.zip (encs x)).foldl (fun t (p,v)=>t.setIfInBounds p v) a.tmps,defers := [] } W)
 (hbody:∀ (l:Nat) (front:List α) (x:α) (a':Act) (T:Nat→Prop) (W:World),I front T W→(∀ k,T k→k<W.heap.size∧k≠w.heap.size∧k≠w.heap.size+1)→Ax x a' W→Q1 front x→w.heap.size+2≤W.heap.size →
   body.wpIn (Fence.wide.inRound l) (n - 1 - 1) P (wa7 w.heap.size T I Ix (front ++ [x]) W) a' W)
 (hdone:∀ (D:Nat) (L:List α) (T:Nat→Prop) (W:World),D=w.heap.size→Fin L→w.heap.size+2≤W.heap.size→I L T W→W.heap[D]? = some (.deferred (some []))→Q .normal { a with defers:={ target := .collected D,args:=#[] } :: a.defers } W)
 (hstop:∀ (D:Nat) (W:World),D=w.heap.size→Ix W→W.heap[D]? = some (.deferred (some []))→Code.ret.wpIn Fence.wide n P Q { a with defers:={ target := .collected D,args:=#[] } :: a.defers } W) :
 (Code.rangeFunc g ps assign body).wpIn Fence.wide n P Q a w:=by
 refine wpIn_rangeFunc fun fn hfn => ?_
 rw [show Fence.wide.round=none from rfl]
 obtain ⟨D,hD⟩:∃ D,w.heap.size=D:=⟨_,rfl⟩
 rw [hD] at hkeep hbody hassign hAx hIp hIx hIm hit
 obtain ⟨rc,hrc⟩:∃ rc:LoopState→Option Code→Loop,rc=fun st pe=>{ state:=st,pending:=pe,fn,tmps:=a.tmps,params:=ps,assign,body,defers:=D }:=⟨_,rfl⟩
 obtain ⟨W1,hW1⟩:∃ W1,(w.alloc (.deferred (some []))).alloc (.loop (rc .ready none))=W1:=⟨_,rfl⟩
 have hb1:Below w.heap.size w W1:=hW1 ▸ ((Below.refl _ w).alloc (Nat.le_refl _) _).alloc (by simp) _
 have hs1:W1.heap.size=w.heap.size+2:=by rw [← hW1];simp
 have hRec:W1.heap[D+1]? = some (.loop (rc .ready none)):=by
  have h:=World.alloc_heap_new (w.alloc (.deferred (some []))) (.loop (rc .ready none))
  rwa [World.size_alloc,hD,hW1] at h
 have hDef:W1.heap[D]? = some (.deferred (some [])):=by
  rw [← hW1,← hD];exact (Below.heap_alloc _ _ _ (by simp)).trans (World.alloc_heap_new w _)
 have hI1:I [] keep W1:=hI _ _ _ _ _ h0 (Ext.of_below hb1 (by rw [hD];exact hkeep))
 refine ⟨D+1,[{ target := .collected D,args:=#[] }],W1,{ target := .fn (.func gf) lb,args:=#[.func (.yield (D+1)) #[] #[]] },W1,gf,#[.func (.yield (D+1)) #[] #[]]++lb,W1,?_,?_,?_,?_,fun _=>h1,?_⟩
 ·rw [← hW1,hrc,← hD];exact run_enterLoop_outer _ _ _ _ _
 ·simp only [resolve,hg];simp [go_sem]
 ·intro f' hf';simp [Target.leads] at hf';subst hf';exact trivial
 ·simp [invoke,go_sem,eg]
 ·have no:¬ (False:Prop):=id
  have hJ:=hit W1 (by rw [hs1,hD]) (hD ▸ hb1) (D+1)
   (fun front T W=>I front T W∧(∀ k,T k→k<W.heap.size∧k≠D∧k≠D+1)∧W.heap[D+1]? = some (.loop (rc .ready none))∧W.heap[D]? = some (.deferred (some [])))
   (fun W=>Ix W∧W.heap[D+1]? = some (.loop (rc .done (some .ret)))∧W.heap[D]? = some (.deferred (some [])))
   ⟨fun front T T' A B h k=>⟨hI _ _ _ _ _ h.1 k,fun i hi=>⟨(k.2 i hi).2,by
    have hlt:D+1<A.heap.size:=(Array.getElem?_eq_some_iff.1 h.2.2.1).1
    rcases (k.2 i hi).1 with hh | hh
    ·exact (h.2.1 i hh).2
    ·omega⟩,(y5.of_below (fun _=>False) k.1).obj h.2.2.1 no,(y5.of_below (fun _=>False) k.1).obj h.2.2.2 no⟩,
    fun front T r A B h hr hlo k=>⟨hIm _ _ _ _ _ h.1 hr hlo k,fun i hi=>⟨Nat.lt_of_lt_of_le (h.2.1 i hi).1 k.size,(h.2.1 i hi).2⟩,k.obj h.2.2.1 (fun e=>by have e:D+1=r:=e;omega),k.obj h.2.2.2 (fun e=>by have e:D=r:=e;omega)⟩,
    fun A B h k=>⟨hIx _ _ h.1 (y5.of_below _ k),(y5.of_below (fun _=>False) k).obj h.2.1 no,(y5.of_below (fun _=>False) k).obj h.2.2 no⟩,
    fun front T A h k hk=>(h.2.1 k hk).1⟩
  refine (hJ ?round ⟨hI1,fun k hk=>⟨by have:=hkeep k hk;omega,by have:=hkeep k hk;omega,by have:=hkeep k hk;omega⟩,hRec,hDef⟩).mono ?behind
  case round =>
   rintro front x T W0 ⟨hi,hT,hl,hk⟩ hx
   have hlt0:D+1<W0.heap.size:=(Array.getElem?_eq_some_iff.1 hl).1
   have hy:=run_yield (P:=P) (args:=encs x) hl (by rw [hrc];exact hps x)
   rw [hrc] at hy
   refine YW.of (m:=n - 1 - 1) ⟨fn,_,assign,body,hy,roundIn_of_wpIn hfn (hassign _ front x T W0 _ hi (by omega) ?_)⟩
   intro a' W hbW hax
   have k0:∀ q,y5 q W0 W:=fun q => .of_below q hbW
   replace hl:=(k0 fun _=>False).obj hl no
   replace hk:=(k0 fun _=>False).obj hk no
   have hlt:D+1<W.heap.size:=(Array.getElem?_eq_some_iff.1 hl).1
   refine ⟨_,run_beginRound hl (by rw [hrc]),?_⟩
   obtain ⟨W2,hW2⟩:∃ W2,W.putObj (D+1) (.loop { rc .ready none with state := .busy })=W2:=⟨_,rfl⟩
   have hl2:W2.heap[D+1]? = some (.loop { rc .ready none with state := .busy }):=hW2 ▸ World.putObj_heap_same hlt
   have hk2:W2.heap[D]? = some (.deferred (some [])):=hW2 ▸ (World.putObj_heap_other (by omega)).trans hk
   have kp2:y5 (fun k=>k=D+1) W W2:=hW2 ▸ y5.put W _ rfl
   have nk:¬ T (D+1):=fun h=>(hT _ h).2.2 rfl
   have kk2:y5 (fun k=>¬ T k) W W2:=hW2 ▸ y5.put W _ nk
   have hax2:=hAx _ _ _ _ hax kp2
   have hi2:=hIp _ _ _ _ (hI _ _ _ _ _ hi (Ext.of_below hbW fun k hk=>(hT k hk).1)) kp2
   have hT2:∀ k,T k→k<W2.heap.size∧k≠D∧k≠D+1:=fun k hk=>⟨Nat.lt_of_lt_of_le (hT k hk).1 (Nat.le_trans hbW.size kp2.size),(hT k hk).2⟩
   have hs2:D+2≤W2.heap.size:=Nat.le_trans hlt kp2.size
   rw [hW2]
   have close:∀ (jump:Option Code) (W3:World),y5 (fun k=>¬ (T k∨k=D∨k=D+1)) W2 W3→∃ W4,W4=W3.putObj (D+1) (.loop (rc (if jump.isNone then .ready else .done) jump)) ∧
    (Instr.endRound (D+1) jump).run P W3 = .ok (.bool jump.isNone) W4∧y5 (fun k=>k=D+1) W3 W4∧y5 (fun k=>¬ T k) W0 W4 ∧
    W4.heap[D+1]? = some (.loop (rc (if jump.isNone then .ready else .done) jump))∧W4.heap[D]? = some (.deferred (some [])):=by
    intro jump W3 h3
    have hl3:=h3.obj hl2 (fun h=>h (.inr (.inr rfl)))
    have he:=run_endRound (P:=P) jump hl3
    rw [hrc] at he hl3 ⊢
    refine ⟨_,rfl,he,y5.put _ _ rfl,?_,World.putObj_heap_same (Array.getElem?_eq_some_iff.1 hl3).1,(World.putObj_heap_other (by omega)).trans (h3.obj hk2 (fun h=>h (.inr (.inl rfl))))⟩
    exact (((k0 _).trans kk2).trans (h3.mono fun k _ h hn=>h (.inl hn))).trans (y5.put _ _ nk)
   refine wpIn_mono (hbody (D+1) front x a' T W2 hi2 hT2 hax2 hx hs2) ?_
   intro e a3 W3 hp
   cases e with
   | normal =>
     obtain ⟨W4,e4,hr,kt,kk,hl4,hk4⟩:=close none W3 hp.1
     exact ⟨_,_,hr,kk,.inl ⟨rfl,hIp _ _ _ _ hp.2 kt,fun k hk=>⟨Nat.lt_of_lt_of_le (hT k hk).1 kk.size,(hT k hk).2⟩,hl4,hk4⟩⟩
   | ret =>
     obtain ⟨W4,e4,hr,kt,kk,hl4,hk4⟩:=close (some .ret) W3 hp.1
     exact ⟨_,_,hr,kk,.inr ⟨rfl,hIx _ _ hp.2 kt,hl4,hk4⟩⟩
   | exit id=>exact hp.elim
   | goto t=>exact hp.elim
   | panic ch=>exact hp.elim
   | outgrown=>exact hp.elim
  case behind =>
   rintro e W2 ⟨⟨v,rfl⟩,(⟨L,T,hF,hi,_,hl,hk⟩ | ⟨hi,hl,hk⟩)⟩
   ·have he:=run_endLoop (P:=P) hl (by rw [hrc];simp)
    rw [hrc] at he
    exact ⟨none,_,he,hdone D L T _ hD.symm hF (by have:=(Array.getElem?_eq_some_iff.1 hl).1;simp;omega) (hIp _ _ _ _ hi (y5.put _ _ rfl)) ((World.putObj_heap_other (by omega)).trans hk)⟩
   ·have he:=run_endLoop (P:=P) hl (by rw [hrc];simp)
    rw [hrc] at he
    exact ⟨some .ret,_,he,hstop D _ hD.symm (hIx _ _ hi (y5.put _ _ rfl)) ((World.putObj_heap_other (by omega)).trans hk)⟩
end
section
open Go.RowKit Go.Maps
open Go.Sort hiding Below
attribute [local go_sem] Oper.semAt_some
variable {v:Value} {x:Int} {ss front:List Int} {A B W w:World} {b r n base size h:Nat} {e:TypeId} {xs:List Value}
def zj8:Value→Option (DataW Value × List MemPlace)
 | .agg cs=>match cs.toList with
   | [.int .u64 _,.int .u64 _,.slice _ _ _,.int .u64 _,.int .u64 _,.slice _ _ _]=>some (.held (.agg cs),[])
   | _=>none
 | _=>none
theorem x64 (a b:Int) (p:Option Addr) (n c:Nat) (a2 b2:Int) (p2:Option Addr) (n2 c2:Nat) :
 zj8 (.agg #[.int .u64 a,.int .u64 b,.slice p n c,.int .u64 a2,.int .u64 b2,.slice p2 n2 c2])=some (.held (.agg #[.int .u64 a,.int .u64 b,.slice p n c,.int .u64 a2,.int .u64 b2,.slice p2 n2 c2]),[]):=rfl
theorem yg2 {y:DataW Value × List MemPlace} (h:zj8 v=some y):y=(.held v,[]):=by
 unfold zj8 at h
 split at h
 ·split at h
  ·exact (Option.some.inj h).symm
  ·cases h
 ·cases h
abbrev zm7 (w:World) (b n:Nat) (D:DataW Value):Prop:=w.ownsMap Tryz.prog 36 zj8 b n D
theorem z54:Keyed Tryz.prog 36:=int_keyed Tryz.underlying36
def y01 (D:DataW Value) (left:Lit→Bool) (ss:List Int):Prop:=ss.Nodup∧∀ x:Int,x ∈ ss↔(has D (.int .u64 x)=true∧left (.int .u64 x)=false)
theorem y01.start (D:DataW Value):y01 D (has D) []:=⟨List.nodup_nil,fun x=>by cases has D (.int .u64 x) <;> simp⟩
theorem wa8 {y:Int} (h:(Lit.int .u64 x).sameKey (.int .u64 y)=true):x=y:=by
 have:=WideAt.sameKey_eq h
 cases this;rfl
theorem y01.step {D:DataW Value} {left:Lit→Bool} {y:DataW Value} (h:y01 D left ss) (hlk:left (.int .u64 x)=true) (hk:WideAt.IsKeyLit (.int .u64 x)) (hat:∀ zd,D.atKey (.int .u64 x) zd=y) :
 y01 D (fun z=>left z && !z.sameKey (.int .u64 x)) (ss ++ [x]):=by
 have hx:x ∉ ss:=fun hm=>by have:=((h.2 x).1 hm).2;rw [hlk] at this;cases this
 have hh:has D (.int .u64 x)=true:=has_true_of_atKey hat
 refine ⟨List.nodup_append.2 ⟨h.1,by simp,fun a ha b hb e=>by
  rcases List.mem_singleton.1 hb with rfl
  exact hx (e ▸ ha)⟩,fun z => ?_⟩
 rw [List.mem_append,List.mem_singleton,h.2 z]
 by_cases e:z=x
 ·subst e
  simp [hh,WideAt.sameKey_self hk]
 ·have:(Lit.int .u64 z).sameKey (.int .u64 x)=false:=by
   cases hs:(Lit.int .u64 z).sameKey (.int .u64 x) with
   | false=>rfl
   | true=>exact absurd (wa8 hs) e
  simp [e,this]
theorem y01.len {D:DataW Value} {left:Lit→Bool} (h:y01 D left ss):ss.length≤Maps.size D:=by
 have key:∀ es:List (Lit × DataW Value),D = .map es→ss.length≤es.length:=fun es he=>by
  have hs:(ss.map fun x=>Lit.int .u64 x).Nodup:=List.Pairwise.map (fun x=>Lit.int .u64 x) (fun a b hab e=>hab (by cases e;rfl)) h.1
  have hsub:(ss.map fun x=>Lit.int .u64 x) ⊆ es.map (·.1):=fun l hl=>by
   obtain ⟨x,hx,rfl⟩:=List.mem_map.1 hl
   have:=((h.2 x).1 hx).1
   rw [he,has_eq] at this
   obtain ⟨p,hp,hpk⟩:=List.any_eq_true.1 this
   exact List.mem_map.2 ⟨p,hp,WideAt.sameKey_eq hpk⟩
  have:=hs.length_le_of_subset hsub
  simpa using this
 cases hD:D with
 | map es=>rw [size_eq];exact key es hD
 | _ =>
   have:ss = []:=List.eq_nil_iff_forall_not_mem.2 fun x hx=>by
    have:=((h.2 x).1 hx).1
    rw [hD] at this
    simp [has] at this
   rw [this];exact Nat.zero_le _
theorem y01.all {D:DataW Value} {left:Lit→Bool} (h:y01 D left ss) (hl:∀ k,left k=false):ss.Nodup∧∀ x:Int,x ∈ ss↔has D (.int .u64 x)=true:=
 ⟨h.1,fun x=>(h.2 x).trans ⟨fun hh=>hh.1,fun hh=>⟨hh,hl _⟩⟩⟩
theorem y02 {R:Value→Option (DataW Value × List MemPlace)} {q:Nat→Prop} {cnt:Nat} {D:DataW Value} {left:Lit→Bool} (h:A.ranges Tryz.prog 36 R b r n D left cnt) (k:y5 q A B) (hb:¬ q b) (hr:¬ q r):B.ranges Tryz.prog 36 R b r n D left cnt:=by
 obtain ⟨es,clock,since,seen,c0,h1,F,hs,hD,h2,rest⟩:=h
 exact ⟨es,clock,since,seen,c0,k.obj h1 hb,F,hs,hD,k.obj h2 hr,rest⟩
theorem za7 {R:Value→Option (DataW Value × List MemPlace)} {q:Nat→Prop} {D:DataW Value} (h:A.ownsMap Tryz.prog 36 R b n D) (k:y5 q A B) (hb:¬ q b):B.ownsMap Tryz.prog 36 R b n D:=by
 obtain ⟨es,clock,h1,rest⟩:=h
 exact ⟨es,clock,k.obj h1 hb,rest⟩
def xi5 (x:Int):Array Value:=#[.int .u64 x]
set_option maxRecDepth 100000 in
set_option maxHeartbeats 4000000 in
theorem xz0 (n:Nat) (kb b nn lo:Nat) (D:DataW Value) (W0:World) (keep:Nat→Prop) (hkb:W0.cell? ⟨kb,0,none⟩=some (.map (some b))) (hown:zm7 W0 b nn D) (hb:keep b) (hlo:lo≤W0.heap.size) :
 xq9 n Tryz.prog 279 #[.pointer (some ⟨kb,0,none⟩)] xi5 (fun front _=>front.length<nn) (fun L=>L.Nodup∧∀ x:Int,x ∈ L↔has D (.int .u64 x)=true) keep lo W0:=by
 intro l J Jx hA hY hJ0
 have HA:=qh hA;clear hA
 have HY:=qh hY;clear hY
 have HJ:=qh hJ0;clear hJ0
 have HK:=qh (And.intro hb hlo);clear hb hlo
 refine callsIn_of_wp Tryz.func279 rfl trivial ?_ rfl
 simp only [Tryz.ntmps279,List.size_toArray,List.length_cons,List.length_nil,Nat.reduceAdd,Nat.reduceSub,Array.replicate_succ,Array.replicate_zero,List.push_toArray,List.append_toArray,List.nil_append,List.cons_append]
 gi_wp2_with (first
  | (gi_at_range;refine wpListIn_range_own _ rfl _ 271 rfl 36 276 z54 Tryz.underlying271 _ b nn _ rfl hown ?_;intro w0 hrg0 hg0 hs0)
  | gi_in)
 go_frame
 have HS0:=qh (And.intro hg0 hs0);clear hg0 hs0
 have HX:=qh (show Ext keep (fun k=>keep k∨k=W0.heap.size) W0 w0 from Ext.one ((y5.of_grown (q:=fun _=>False) HS0.out.1 (fun r e=>by cases e)).below (Nat.le_refl _) (fun _ _ h=>h)) (HA.out.low _ _ _ HJ.out) _ (Nat.le_refl _) (by rw [HS0.out.2];exact Nat.lt_succ_self _))
 obtain ⟨r,hr⟩:∃ r,W0.heap.size=r:=⟨_,rfl⟩
 rw [hr] at hrg0 HX ⊢
 have HR:=qh hr;clear hr
 gi_loopw [3] (fun _ wr=>∃ (left:Lit→Bool) (cnt:Nat) (ss:List Int) (T:Nat→Prop),wr.ranges Tryz.prog 36 zj8 b r nn D left cnt∧y01 D left ss∧J ss T wr∧T b∧T r) (fun _ wr=>wr.rangeLeft b r)
 case atStart =>
  exact ⟨_,_,[],_,hrg0,y01.start D,HA.out.go _ _ _ _ _ HJ.out HX.out,.inl HK.out.1,.inr rfl⟩
 case round =>
  obtain ⟨left,cnt,ss,T,hrg,hC,hJs,hTb,hTr⟩:=hrel
  have HC:=qh hC;clear hC
  have HT:=qh (And.intro hTb hTr);clear hTb hTr
  have HJS:=qh hJs;clear hJs
  gi_wp2_with (first
   | (gi_at_next;refine wpListIn_next_ranges _ rfl _ rfl 36 z54 zj8 (Value.int .u64) id (fun key kl hk=>by obtain ⟨x,hx,_⟩:=Maps.keyOf_int_inv Tryz.underlying36 hk;exact ⟨x,hx⟩) (fun v _ _=>⟨v,rfl⟩) b r nn _ _ _ rfl hrg ?_ ?_)
   | gi_in)
  ·intro hc0 hl0
   gi_wp2
   go_end0
   exact ⟨⟨_,rfl⟩,.inl ⟨ss,T,HC.out.all hl0,HJS.out⟩⟩
  ·intro x c kl yd yp w2 cnt2 hkey hlk hv hat hrg2 hlt hg2 hs2 hen
   obtain ⟨x',ex,rfl,hwf⟩:=Maps.keyOf_int_inv Tryz.underlying36 hkey
   cases ex
   have HST:=qh (HC.out.step hlk (z54.key hkey) hat)
   have hJ2:J ss T w2:=HA.out.mine _ _ r _ _ HJS.out HT.out.2 (by have:=HK.out.2;have:=HR.out;omega) (y5.of_grown hg2 (fun k e=>by cases e;rfl))
   have hlen:ss.length<nn:=by
    have h1:=HST.out.len
    have h2:=hrg.owns.size_le
    rw [List.length_append,List.length_singleton] at h1
    omega
   obtain ⟨fn,tmps,assign,body,hy,hRd⟩:=HY.out ss x T w2 hJ2 hlen
   unfold xi5 at hy
   have HRG:=qh hrg2
   have HLT:=qh (And.intro hlt hrg.left_eq)
   clear hs2 hJ2 hlen hrg hrg2 hlt hg2 hv hat hlk hkey hwf
   gi_wp2
   refine ⟨fun h=>(by cases h),(RoundIn.anyDepth hRd).mono ?_⟩
   rintro e W3 ⟨hap,(⟨rfl,hJ3⟩ | ⟨rfl,hx3⟩)⟩
   ·have hrg3:=y02 HRG.out hap (fun h=>h HT.out.1) (fun h=>h HT.out.2)
    have HJ3:=qh hJ3;clear hJ3 hap
    gi_wp2
    go_roundw
    case rel=>exact ⟨_,cnt2,ss ++ [x],T,hrg3,HST.out,HJ3.out,HT.out.1,HT.out.2⟩
    case measure=>rw [hrg3.left_eq,HLT.out.2];exact HLT.out.1
   ·have HX3:=qh hx3;clear hx3 hap
    gi_wp2
    refine bodyPost_ret (results_none rfl _ _ _) rfl ?_
    exact ⟨⟨_,rfl⟩,.inr HX3.out⟩
structure yg3 (R:Value→Option (DataW Value × List MemPlace)) (gf:Nat):Prop where
 eg:∀ args w,(callFunc gf args).run Tryz.prog w = .ok (.enter gf args) w
 it:∀ (n kb b nn lo:Nat) (D:DataW Value) (W0:World) (keep:Nat→Prop),W0.cell? ⟨kb,0,none⟩=some (.map (some b))→W0.ownsMap Tryz.prog 36 R b nn D→keep b→lo≤W0.heap.size →
  xq9 n Tryz.prog gf #[.pointer (some ⟨kb,0,none⟩)] xi5 (fun front _=>front.length<nn) (fun L=>L.Nodup∧∀ x:Int,x ∈ L↔has D (.int .u64 x)=true) keep lo W0
theorem wa9:yg3 zj8 279:=⟨enters_of Tryz.func279 (by kernel_rfl) rfl,xz0⟩
theorem g7 {k:Nat} (h:W.ownsRow base e size v k xs):∀ g,v.ownBlock=some g→base≤g∧g<W.heap.size:=by
 intro g hg
 rcases h.2 with ⟨rfl,_⟩ | ⟨g',cap,cur,rfl,h2,h3,_⟩
 ·simp [Value.ownBlock] at hg
 ·obtain rfl:g'=g:=by simpa [Value.ownBlock] using hg
  exact ⟨h2,(Array.getElem?_eq_some_iff.1 h3).1⟩
structure KyI (h:Nat) (w:World) (front:List Int) (T:Nat→Prop) (W:World):Prop where
 row:∃ v,Boxed W h 147 v∧W.ownsRow (h+3) 36 1 v front.length (e8 front)∧∀ g,v.ownBlock=some g→¬ T g
 free:¬ T h
 low:Below h w W
theorem KyI.ext {T T':Nat→Prop} (hI:KyI h w front T A) (hx:Ext T T' A B):KyI h w front T' B:=by
 obtain ⟨v,h1,h2,h3⟩:=hI.row
 have hb:=(y5.of_below (fun _=>False) hx.1)
 refine ⟨⟨v,hb.boxed h1 id,y6 h2 hx.1,fun g hg ht => ?_⟩,fun ht => ?_,hI.low.trans (hx.1.mono (Nat.le_of_lt h1.lt))⟩
 ·rcases (hx.2 g ht).1 with hh | hh
  ·exact h3 g hg hh
  ·have:=g7 h2 g hg;omega
 ·rcases (hx.2 h ht).1 with hh | hh
  ·exact hI.free hh
  ·have:=h1.lt;omega
theorem z75 {q:Nat→Prop} (h:y5 q A B) (ho:A.ownsRow base e size v n xs) (hn:∀ g,v.ownBlock=some g→¬ q g):B.ownsRow base e size v n xs:=by
 refine ⟨ho.1,?_⟩
 rcases ho.2 with h0 | ⟨g,cap,cur,h1,h2,h3,h4⟩
 ·exact .inl h0
 ·exact .inr ⟨g,cap,cur,h1,h2,h.obj h3 (hn g (by rw [h1];rfl)),h4⟩
theorem KyI.mine {T:Nat→Prop} (hI:KyI h w front T A) (hr:T r) (hlo:h<r) (hab:y5 (fun k=>k=r) A B):KyI h w front T B:=by
 obtain ⟨v,h1,h2,h3⟩:=hI.row
 exact ⟨⟨v,hab.boxed h1 (by omega),z75 hab h2 (fun g hg e=>h3 g hg (by subst e;exact hr)),h3⟩,hI.free,hI.low.trans (hab.below (Nat.le_of_lt h1.lt) fun k hk=>by omega)⟩
theorem KyI.put {T:Nat→Prop} (hI:KyI h w front T A) (hab:y5 (fun k=>k=h+2) A B):KyI h w front T B:=by
 obtain ⟨v,h1,h2,h3⟩:=hI.row
 exact ⟨⟨v,hab.boxed h1 (by omega),hab.owns h2 (fun k hk=>by omega),h3⟩,hI.free,hI.low.trans (hab.below (Nat.le_of_lt h1.lt) fun k hk=>by omega)⟩
theorem xi6 {T:Nat→Prop} {w1:World} {tmp:Obj} {v':Value} {ys:List Value} {a:Act}
 (hI:KyI h w front T W) (hT:∀ k,T k→k<W.heap.size) (hv:Boxed W h 147 v) (hrow:W.ownsRow (h+3) 36 1 v front.length (e8 front)) (hfr:∀ g,v.ownBlock=some g→¬ T g)
 (hown':w1.ownsRow (h+3) 36 1 v' n ys) (hgrow:(W.alloc tmp).grownBy w1 v.ownBlock) (hat:v'.ownBlock=v.ownBlock∨v'.ownBlock=some (W.alloc tmp).heap.size)
 (hn:n=front.length+1) (hys:ys=e8 front ++ [.int .u64 x]) (B:Nat) (hB:B=h+1) :
 wa7 B T (KyI h w) (fun _=>False) (front ++ [x]) W .normal a (w1.setCell ⟨h,0,none⟩ v'):=by
 subst hn hys hB
 have hlt:=g7 hrow
 have hne:some h≠v.ownBlock:=fun e=>by have:=hlt h e.symm;omega
 have hv1:Boxed w1 h 147 v:=(hv.alloc tmp).kept hgrow hne
 have key:∀ q:Nat→Prop,(∀ g,v.ownBlock=some g→q g)→q h→y5 q W (w1.setCell ⟨h,0,none⟩ v'):=fun q h1 h2 =>
  ((y5.alloc q W tmp).trans (y5.of_grown hgrow h1)).trans (y5.set w1 v' h2)
 refine ⟨key _ ?_ ?_,⟨v',hv1.set v',?_,?_⟩,hI.free,?_⟩
 ·intro g hg hh
  have h1:=hlt g hg
  have hh:T g∨g=h+1∨g=h+1+1:=hh
  rcases hh with hh | hh
  ·exact hfr g hg hh
  ·omega
 ·intro hh
  have hh:T h∨h=h+1∨h=h+1+1:=hh
  rcases hh with hh | hh
  ·exact hI.free hh
  ·omega
 ·have h1:=hown'.kept (grownBy_setCell' w1 h v') (.inr (hv1.not_row (by decide) hown').symm)
  rw [yy8]
  simpa [e8] using h1
 ·intro g hg ht
  rcases hat with e | e
  ·rw [e] at hg;exact hfr g hg ht
  ·rw [e] at hg
   obtain rfl:=Option.some.inj hg
   have:=hT _ ht
   simp at this;omega
 ·exact hI.low.trans ((key (fun k=>h≤k) (fun g hg=>by have:=hlt g hg;omega) (Nat.le_refl _)).below (Nat.le_of_lt hv.lt) (fun k hk=>by omega))
set_option maxRecDepth 100000 in
set_option maxHeartbeats 4000000 in
theorem yg4 {R:Value→Option (DataW Value × List MemPlace)} {gf:Nat} (KI:yg3 R gf) (kb b nn:Nat) (D:DataW Value) (w:World) (hkb:w.cell? ⟨kb,0,none⟩=some (.map (some b))) (hown:w.ownsMap Tryz.prog 36 R b nn D) (hnn:nn≤60000) :
 Calls Tryz.prog 241 #[.slice none 0 0,.func (.func gf) #[] #[.pointer (some ⟨kb,0,none⟩)]] w (fun e w' =>
  ∃ v L,e = .returned v∧d7 w' w.heap.size v L∧L.length≤nn∧(L.Nodup∧∀ x:Int,x ∈ L↔has D (.int .u64 x)=true)∧Below w.heap.size w w'):=by
 refine (callsIn_wide (n:=5)).1 ?_
 obtain ⟨i0,hi',hz0,hz1,hz2⟩:=info_parts yl2
 obtain ⟨h,hh⟩:∃ h,w.heap.size=h:=⟨_,rfl⟩
 have hbl:b<h:=by rw [← hh];exact hown.lt
 have hkl:kb<h:=by rw [← hh];exact World.block_lt_of_cell? w _ hkb
 have HM:=qh (And.intro hkb hown);clear hkb hown
 have HH:=qh hh;clear hh
 refine callsIn_of_wp_marks Tryz.func241 rfl trivial ?_ rfl
 simp only [Tryz.ntmps241,List.size_toArray,List.length_cons,List.length_nil,Nat.reduceAdd,Nat.reduceSub,Array.replicate_succ,Array.replicate_zero,List.push_toArray,List.append_toArray,List.nil_append,List.cons_append]
 gi_wp2
 have bL:=Boxed.new w 147 (.slice none 0 0)
 have hB0:=z8 w (.cells #[.slice none 0 0] 147)
 obtain ⟨w1,hw1⟩:∃ w1,w.alloc (.cells #[.slice none 0 0] 147)=w1:=⟨_,rfl⟩
 have hs1:w1.heap.size=h+1:=by rw [← hw1,← HH.out];simp
 rw [hw1] at bL hB0 ⊢
 rw [HH.out] at bL hB0 ⊢
 clear hw1
 have HM1:=qh (And.intro (z6 HM.out.1 (HH.out ▸ hB0)) (za7 HM.out.2 (y5.of_below (fun _=>False) (HH.out ▸ hB0)) id))
 have hwh:h≤w.heap.size:=Nat.le_of_eq HH.out.symm
 refine wo8 (n:=5) (by omega) (gf:=gf) (lb:=#[.pointer (some ⟨kb,0,none⟩)]) (encs:=xi5) (Q1:=fun front _=>front.length<nn) (Fin:=fun L=>L.Nodup∧∀ x:Int,x ∈ L↔has D (.int .u64 x)=true) (keep:=fun k=>k<h)
  rfl KI.eg (fun _=>rfl) (fun k hk=>by omega)
  (fun W hsW hb=>KI.it _ kb b nn _ D W _ (z6 HM1.out.1 hb) (za7 HM1.out.2 (y5.of_below (fun _=>False) hb) id) hbl (by omega))
  (KyI h w) (fun _=>False)
  (fun front T T' A B hI hx=>hI.ext hx)
  (fun front T A B hI hab=>hI.put (hab.mono fun k _ e=>by have e:k=w1.heap.size+1:=e;omega))
  (fun front T r A B hI hr hlo hab=>hI.mine hr (by omega) hab)
  (fun A B hI _=>hI)
  ⟨⟨_,bL,World.ownsRow_nil w1 (h+3) _ 1,fun g hg=>by cases hg⟩,Nat.lt_irrefl h,hB0⟩
  (fun x a' _=>a'={ tmps:=#[.slice none 0 0,.func (.func gf) #[] #[.pointer (some ⟨kb,0,none⟩)],.pointer (some ⟨h,0,none⟩),undef,.slice none 0 0,.int .u64 x,.func (.func gf) #[] #[.pointer (some ⟨kb,0,none⟩)],.int .u64 x,undef,undef,undef,undef,undef],defers := [] })
  (fun x a' A B hx _=>hx) ?assign ?body ?done ?stop
 case assign =>
  rintro l2 front x T W K _ _ hK
  unfold xi5
  gi_wp2
  exact hK _ _ (Below.refl _ _) rfl
 case body =>
  rintro l2 front x a' T W hI hT rfl hx hs
  obtain ⟨v,hv,hrow,hfr⟩:=hI.row
  have hcl:=hv.cell
  have hm:front.length+1≤maxLen:=by unfold maxLen;omega
  have hm2:(front.length+1)*8≤140737488355328:=by omega
  have hm3:h+3≤(W.alloc (.cells #[.int .u64 x] 36)).heap.size:=by simp;omega
  have HI:=qh hI;clear hI
  have HT:=qh hT;clear hT
  have HF:=qh hfr;clear hfr
  have HS1:=qh hs1;clear hs1
  clear hx
  gi_wp2_with (gi_at_builtin;go_loud (refine wpListIn_append_own_at _ rfl _ _ 147 rfl (h+3) 36 i0 (.int .u64 0) 1 8 Tryz.underlying147 hi' hz0 hz1 hz2 rfl (by decide) _ _ _ rfl (hrow.alloc _) ⟨W.heap.size,0,none⟩ 1 1 [.int .u64 x] rfl rfl (cell_one_new _ _ _) (by simp [Value.oneCell']) hm hm2 hm3 ?_;intro v' w1 hown' hgrow _ hat;obtain ⟨g',cap',rfl⟩:=ownsRow_succ hown';have hgr:(W.alloc (.cells #[.int .u64 x] 36)).grownBy w1 v.ownBlock:=hgrow;clear hgrow;have HG:=qh hgr;clear hgr;have HAT:=qh hat;clear hat;have hv1:Boxed w1 h 147 v:=(hv.alloc _).kept HG.out (fun e=>by have:=g7 hrow h e.symm;omega);have hc1:=hv1.cell;have hf1:=hv1.frozen;clear hv1))
  exact xi6 HI.out (fun k hk=>(HT.out k hk).1) hv hrow HF.out hown' HG.out HAT.out rfl rfl _ HS1.out
 case done =>
  rintro Dd L T W hD hfin hszW hI hK
  obtain ⟨v,hv,hrow,_⟩:=hI.row
  have hcl:=hv.cell
  obtain ⟨pp,cc,rfl,_⟩:=y8 hrow
  have hDh:h≤Dd:=by omega
  have hlen:L.length≤nn:=by
   have h1:y01 D (fun _=>false) L:=⟨hfin.1,fun x=>by rw [hfin.2 x];simp⟩
   exact Nat.le_trans h1.len HM.out.2.size_le
  have HFL:=qh (And.intro hlen hfin);clear hlen hfin
  have HLOW:=qh hI.low;clear hI
  have HS1:=qh hs1;clear hs1
  gi_wp2
  refine ⟨by simp,.inl ⟨_,_,rfl,run_takeDeferred hK,?_⟩⟩
  refine ⟨_,results_tmp rfl _ _ _,_,L,rfl,?_,HFL.out.1,HFL.out.2,?_⟩
  ·have hr:=p8 (B':=h) (ownsRow_putObj hrow (.deferred none) hK rfl) (by omega)
   unfold d7
   rw [HH.out]
   simpa using hr
  ·rw [HH.out]
   exact HLOW.out.trans (belowK_b (w:=w) hwh W Dd _ _ (by rw [HH.out];exact hDh) hK rfl rfl)
 case stop =>
  rintro Dd W _ hf _
  exact hf.elim
end
section
open Go.RowKit Go.Maps
open Go.Sort hiding Below
variable {w:World} {L:List Int} {d:Array Int} {gf:Nat}
theorem wy2 (p:Option Addr) (cap:Nat) (w:World):Calls Tryz.prog 258 #[.slice p 0 cap,.int .i64 0,.int .i64 0] w (fun e w'=>e = .returned (.tuple #[])∧w'=w):=by
 go_enter Tryz.func258,Tryz.ntmps258
 go_wp2_with fail
 go_loopw [6] (fun vi wr=>vi = .int .i64 1∧wr=w) (fun _ _=>0)
 case atStart=>exact ⟨rfl,rfl⟩
 case round =>
  obtain ⟨rfl,hw⟩:=hrel
  obtain rfl:=hw.symm
  go_wp2_with fail
  go_end0
  exact ⟨rfl,rfl⟩
theorem wy3 (p:Option Addr) (cap:Nat) (L:Int) (w:World):Calls Tryz.prog 242 #[.slice p 0 cap,.int .i64 0,.int .i64 0,.int .i64 L] w (fun e w'=>e = .returned (.tuple #[])∧w'=w):=by
 have KI:=qh wy2
 go_enter Tryz.func242,Tryz.ntmps242
 go_wp2_with fail
 go_loopw [1,2] (fun va vb wr=>va = .int .i64 0∧vb = .int .i64 0∧wr=w) (fun _ _ _=>0)
 case atStart=>exact ⟨rfl,rfl,rfl⟩
 case round =>
  obtain ⟨rfl,rfl,hw⟩:=hrel
  obtain rfl:=hw.symm
  go_wp2_with fail
  refine (KI.out _ _ _).mono ?_
  rintro e w1 ⟨rfl,hw1⟩
  obtain rfl:=hw1.symm
  go_wp2_with fail
  refine bodyPost_ret (results_none rfl _ _ _) rfl ?_
  exact ⟨rfl,rfl⟩
theorem wo9 (p:Option Addr) (cap:Nat) (w:World):Calls Tryz.prog 221 #[.slice p 0 cap] w (fun e w'=>e = .returned (.tuple #[])∧w'=w):=by
 have KB:=qh (zu7 0 w (by omega) (by omega))
 have K:=qh wy3
 go_enter Tryz.func221,Tryz.ntmps221
 go_wp2_with fail
 refine KB.out.mono ?_
 rintro e w' ⟨rfl,rfl⟩
 go_wp2_with fail
 refine (K.out _ _ _ _).mono ?_
 rintro e w2 ⟨rfl,h⟩
 obtain rfl:=h.symm
 go_wp2_with fail
 go_end0
 exact ⟨rfl,rfl⟩
theorem wb0 {B:Nat} {v:Value} (h:d7 w B v L) (hne:L ≠ []):∃ g cap,v = .slice (some ⟨g,0,none⟩) L.length cap∧B≤g∧z74 w g 0 L.toArray:=by
 have hrow:w.ownsRow B 36 1 v L.length (e8 L):=h
 have h3:=hrow
 rcases hrow.2 with ⟨_,h0⟩ | ⟨g,cap,cur,rfl,hbg,hg,_⟩
 ·exact absurd (List.eq_nil_of_length_eq_zero h0) hne
 ·refine ⟨g,cap,rfl,hbg,fun j hj=>⟨?_,?_⟩⟩
  ·have hj':j<L.length:=by simpa using hj
   rw [Nat.zero_add,h3.cellAt j (by omega),getElem!_pos L.toArray j hj]
   rw [show L.toArray[j]=L[j] from by simp]
   exact xs9 (by simp [hj'])
  ·simp [World.frozen?,hg]
theorem xi7 (hn:L.Nodup) (hp:PermIn 0 L.toArray.size L.toArray d) (hs:SortedIn ltInt 0 L.toArray.size d):d.toList.Pairwise (· < ·)∧(∀ x,x ∈ d.toList↔x ∈ L)∧d.size=L.length:=by
 have hsz:d.size=L.length:=by have:=hp.1;simpa using this
 have hperm:d.toList.Perm L:=by
  have:=hp.2.2
  simpa [Array.extract_eq_self_of_le,hsz] using this
 refine ⟨?_,fun x=>hperm.mem_iff,hsz⟩
 have hnd:=List.pairwise_iff_getElem.1 (show d.toList.Pairwise (· ≠ ·) from hperm.nodup_iff.2 hn)
 refine List.pairwise_iff_getElem.2 fun i j hi hj hij => ?_
 have h1:=hs i j (Nat.zero_le _) hij (by simp at hj ⊢;omega)
 have h2:=hnd i j hi hj hij
 simp only [Array.length_toList] at hi hj
 rw [getElem!_pos d i hi,getElem!_pos d j hj] at h1
 unfold ltInt at h1
 simp only [decide_eq_false_iff_not] at h1
 simp only [Array.getElem_toList] at h2 ⊢
 omega
theorem wb1 {g cap n:Nat} (h:z74 w g 0 d) (hn:d.size=n) (hm:n≤maxLen):yy5 w (.slice (some ⟨g,0,none⟩) n cap) d.toList:=by
 subst hn
 refine ⟨_,cap,by rw [Array.length_toList],by rw [Array.length_toList];exact hm,fun _=>⟨g,0,rfl,fun i x hx => ?_⟩⟩
 have hi:i<d.size:=by have:=(List.getElem?_eq_some_iff.1 hx).1;simpa using this
 have:=h.cell hi
 rw [getElem!_pos d i hi] at this
 rw [this]
 have e:d[i]=x:=by have:=(List.getElem?_eq_some_iff.1 hx).2;simpa using this
 rw [e]
def wy4 (D:DataW Value) (w:World) (e:Ending) (w':World):Prop:=∃ v ks,e = .returned v∧yy5 w' v ks∧ks.Pairwise (· < ·)∧(∀ x:Int,x ∈ ks↔has D (.int .u64 x)=true)∧Below w.heap.size w w'
def wp0 (D:DataW Value) (w:World) (e:Ending) (w':World):Prop:=∃ v ks,e = .returned v∧yy5 w' v ks∧ks.Pairwise (· < ·)∧(∀ x:Int,x ∈ ks↔has D (.int .u64 x)=true)∧Below w.heap.size w w'∧∀ b,v.ownBlock=some b→w.heap.size≤b
abbrev zq1 (gf kb:Nat):Value := .func (.func gf) #[] #[.pointer (some ⟨kb,0,none⟩)]
set_option maxRecDepth 100000 in
theorem yc2 {R:Value→Option (DataW Value × List MemPlace)} (KI:yg3 R gf) (kb b nn:Nat) (D:DataW Value) (w:World) (hkb:w.cell? ⟨kb,0,none⟩=some (.map (some b))) (hown:w.ownsMap Tryz.prog 36 R b nn D) (hnn:nn≤60000) :
 Calls Tryz.prog 220 #[zq1 gf kb] w (fun e w' =>
  ∃ v L,e = .returned v∧d7 w' w.heap.size v L∧L.length≤nn∧(L.Nodup∧∀ x:Int,x ∈ L↔has D (.int .u64 x)=true)∧Below w.heap.size w w'):=by
 have K:=qh (yg4 KI kb b nn D w hkb hown hnn);clear hkb hown
 unfold zq1
 go_enter Tryz.func220,Tryz.ntmps220
 go_wp2_with fail
 refine K.out.mono ?_
 rintro e w1 ⟨v,L,rfl,h1,h2,h3,h4⟩
 obtain ⟨pp,cc,rfl,_⟩:=y8 h1
 have H:=qh (And.intro h1 (And.intro h2 (And.intro h3 h4)));clear h1 h2 h3 h4
 go_wp2_with fail
 go_ret
 exact ⟨_,L,rfl,H.out⟩
set_option maxRecDepth 100000 in
theorem zq2 {R:Value→Option (DataW Value × List MemPlace)} (KI:yg3 R gf) (kb b nn:Nat) (D:DataW Value) (w:World) (hkb:w.cell? ⟨kb,0,none⟩=some (.map (some b))) (hown:w.ownsMap Tryz.prog 36 R b nn D) (hnn:nn≤60000) :
 Calls Tryz.prog 178 #[zq1 gf kb] w (wp0 D w):=by
 have K:=qh (yc2 KI kb b nn D w hkb hown hnn);clear hkb hown
 have K0:=qh wo9
 have KS:=qh v12
 unfold zq1 at K ⊢
 go_enter Tryz.func178,Tryz.ntmps178
 go_wp2_with fail
 refine K.out.mono ?_
 rintro e w1 ⟨v,L,rfl,h1,h2,h3,h4⟩
 have H:=qh (And.intro h2 (And.intro h3 h4));clear h2 h3 h4
 by_cases hL:L = []
 ·subst hL
  obtain ⟨pp,cc,rfl,_⟩:=y8 h1
  have HO:=qh (x96 h1)
  have HOB:=qh (fun b hb=>(g7 h1 b hb).1);clear h1
  go_wp2_with fail
  refine (K0.out _ _ _).mono ?_
  rintro e w2 ⟨rfl,hw2⟩
  obtain rfl:=hw2.symm
  go_wp2_with fail
  go_ret
  exact ⟨_,[],rfl,HO.out,List.Pairwise.nil,H.out.2.1.2,H.out.2.2,HOB.out⟩
 ·obtain ⟨g,cap,rfl,hBg,hR⟩:=wb0 h1 hL
  have KK:=qh (KS.out g 0 cap L.length L.toArray (by simp) w1 hR (by have:=H.out.1;simp;omega));clear hR h1
  have HBG:=qh hBg;clear hBg hL
  have hlen:=H.out.1
  obtain ⟨n,hn⟩:∃ n,L.length=n:=⟨_,rfl⟩
  rw [hn] at KK ⊢
  have HN:=qh hn;clear hn
  go_wp2_with fail
  refine KK.out.mono ?_
  rintro e w2 ⟨rfl,d',⟨hp,hs⟩,hr⟩
  obtain ⟨h5,h6,h7⟩:=xi7 H.out.2.1.1 hp hs
  have HF:=qh (And.intro h5 (And.intro h6 (And.intro h7 hr)));clear h5 h6 h7 hr hp hs
  go_wp2_with fail
  go_ret
  obtain ⟨h5,h6,h7,hr⟩:=HF.out
  refine ⟨_,d'.toList,rfl,wb1 hr.row (h7.trans HN.out) (by unfold maxLen;have:=HN.out;omega),h5,fun x=>(h6 x).trans (H.out.2.1.2 x),?_⟩
  have hb:=H.out.2.2
  exact ⟨hb.trans (hr.apart.below hb.size fun k hk e=>by have:=HBG.out;omega),fun b hb=>by
   have e:g=b:=Option.some.inj hb
   have:=HBG.out
   omega⟩
set_option maxRecDepth 100000 in
theorem yx0 (mb:Option Nat) (w:World):Calls Tryz.prog 267 #[.map mb] w (fun e w'=>e = .returned (zq1 279 w.heap.size)∧w'=w.alloc (.cells #[.map mb] 271)):=by
 go_enter Tryz.func267,Tryz.ntmps267
 go_wp2_with fail
 go_ret
 exact ⟨rfl,rfl⟩
set_option maxRecDepth 100000 in
theorem xz1 (b nn:Nat) (D:DataW Value) (w:World) (hown:zm7 w b nn D) (hnn:nn≤60000):Calls Tryz.prog 244 #[.map (some b)] w (wy4 D w):=by
 have hbn:=z8 w (.cells #[.map (some b)] 271)
 obtain ⟨w1,hw1⟩:∃ w1,w.alloc (.cells #[.map (some b)] 271)=w1:=⟨_,rfl⟩
 have hc:w1.cell? ⟨w.heap.size,0,none⟩=some (.map (some b)):=by rw [← hw1];simp
 rw [hw1] at hbn
 have K:=qh (zq2 wa9 w.heap.size b nn D w1 hc (za7 hown (y5.of_below (fun _=>False) hbn) id) hnn);clear hown hc
 have KM:=qh yx0
 have HB:=qh (And.intro hbn hw1);clear hbn hw1
 unfold zq1 at K KM
 go_enter Tryz.func244,Tryz.ntmps244
 go_wp2_with fail
 refine (KM.out _ _).mono ?_
 rintro e w2 ⟨rfl,hw2⟩
 rw [HB.out.2] at hw2
 obtain rfl:=hw2
 go_wp2_with fail
 refine K.out.mono ?_
 rintro e w3 ⟨v,ks,rfl,h1,h2,h3,h4,_⟩
 obtain ⟨p,cap,rfl,_⟩:=id h1
 have H:=qh (And.intro h1 (And.intro h2 (And.intro h3 (z7 HB.out.1 h4))));clear h1 h2 h3 h4
 go_wp2_with fail
 go_ret
 exact ⟨_,ks,rfl,H.out⟩
end
end Go.Proofs.YtchndljcahjldaaGreatDoor
