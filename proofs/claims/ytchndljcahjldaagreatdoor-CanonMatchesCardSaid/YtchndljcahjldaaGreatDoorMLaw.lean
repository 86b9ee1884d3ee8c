/- A law's row follows from one contract: the call returns true, and below the heap's old size nothing has changed. Conditions: the parameters' types can be read as data. -/
import Derived.Test.YtchndljcahjldaaGreatDoorProg
import Derived.WalkKit
import Derived.Carry
import Derived.ChangeSame
import Derived.ChangeVars
import Derived.JoinedOf
import Derived.RowKit
import Derived.RowKitTokens
import Derived.LaidLaws
import Derived.LaidHandle
import Derived.Stop.Joined
import Derived.Lib.Hide
import Derived.Deep.RegionHeld3
import Derived.LaidEql
import Derived.Stop.Asserts
import Derived.WalkSpells
import Derived.Deep.LoopGhost
import Derived.Deep.DeepFit
import Derived.Deep.DeepCutAuto
namespace Go.Proofs.YtchndljcahjldaaGreatDoor
theorem qh {p:Prop} (h:p):Go.RowKit.Hid p:=h
theorem o6 {α:Type} (l:List α) (i:Nat) (a:α):l.toArray.setIfInBounds i a=(l.set i a).toArray:=List.setIfInBounds_toArray ..
theorem o7 {α:Type} (x a:α) (l:List α):(x :: l).set 0 a=a :: l:=rfl
theorem o8 {α:Type} (x a:α) (l:List α) (n:Nat):(x :: l).set (n+1) a=x :: l.set n a:=rfl
section
open Go.ChangeShapes Go.WideShapes Go.RowKit
section
variable {H:Type} {enc:TypeId × Value→H} {P:Program}
theorem xz7 (hl:laidOutB P=true) {W W':World} (hb:Below W.heap.size W W'):∀ (ts:List TypeId) (vs:List Value) (ds:List (DataW H)) (ps:List MemPlace),
 (∀ t ∈ ts,P.readableRec t=true∧t<P.types.size)→DataW.TrodAll enc P W 0 (fun _=>true) true ts vs ds ps→(∀ x ∈ ps,x.block<W.heap.size) →
 DataW.TrodAll enc P W' 0 (fun b=>decide (b<W.heap.size)) true ts vs ds ps:=by
 intro ts
 induction ts with
 | nil =>
   intro vs ds ps _ h _
   cases vs with
   | nil=>cases ds with
     | nil=>exact h
     | cons _ _=>exact absurd h (by intro h;cases h)
   | cons _ _=>exact absurd h (by intro h;cases h)
 | cons t ts ih =>
   intro vs ds ps hp h hlt
   cases vs with
   | nil=>exact absurd h (by intro h;cases h)
   | cons v vs =>
     cases ds with
     | nil=>exact absurd h (by intro h;cases h)
     | cons d ds =>
       obtain ⟨p,q,h1,h2,rfl⟩:=h
       exact ⟨p,q,Below.trod hl (hp t (List.mem_cons_self ..)).1 (hp t (List.mem_cons_self ..)).2 h1 hb (fun x hx=>hlt x (List.mem_append_left _ hx)),
        ih vs ds q (fun t' ht=>hp t' (List.mem_cons_of_mem _ ht)) h2 (fun x hx=>hlt x (List.mem_append_right _ hx)),rfl⟩
theorem wc6 {f:Func} {s:ChangeSpec} {apart:Bool} {W W':World} {args:Array Value} {ds:List (DataW H)} {before:List MemPlace} {tb:TypeId}
 (hl:laidOutB P=true) (hsv:s.vars = []) (hpar:∀ t ∈ f.params.toList,P.readableRec t=true∧t<P.types.size)
 (hres:f.resultTypes=#[tb]) (hbool:P.underlying tb=some .bool)
 (hW:DataW.Whole enc P f.params.toList s.vars apart W args.toList ds [] before)
 (hfn:s.fn H (ds ++ [])={ results := [.lit (.bool true)],args:=ds })
 (hb:Below W.heap.size W W'):s.post enc P f apart true false false W args (.bool true) W':=by
 have hlt:=hW.lt
 have hW':=hW
 obtain ⟨p,q,hA,hV,rfl,hfz,hnd⟩:=hW
 refine ⟨ds,[],p++q,[],p,[],hW',?_,?_,?_,hb.frame _,fun h=>by cases h⟩
 ·rw [hfn,hres];exact trodAll_mk1 (shut_bool hbool true)
 ·rw [hfn];exact xz7 hl hb _ _ _ _ hpar hA (fun x hx=>hlt x (List.mem_append_left _ hx))
 ·rw [hfn,hsv];rfl
end
theorem z6 {w w':World} {p:Addr} {v:Value} (h:w.cell? p=some v) (hb:Below w.heap.size w w'):w'.cell? p=some v:=by
 rw [hb.cell (World.block_lt_of_cell? w _ h)];exact h
theorem zx0 {w0 w w':World} {B:Nat} (h:Below B w0 w) (hB:B≤w0.heap.size) (hb:Below w.heap.size w w'):Below B w0 w':=
 h.trans (hb.mono (Nat.le_trans hB h.size))
end
section
open Go.RowKit
variable {w w' wi:World} {l:List (Nat × Nat × Value)}
theorem y7 {a:World} (h:Below a.heap.size a w) (o:Obj):Below a.heap.size a (w.alloc o):=h.alloc h.size o
theorem z8 (w:World) (o:Obj):Below w.heap.size w (w.alloc o):=(Below.refl _ _).alloc (Nat.le_refl _) o
theorem j7 {B:Nat} (h:Below B w w') {k:Nat} (hk:B≤k) (o:Nat) (v:Value):Below B w (w'.setCell ⟨k,o,none⟩ v):=h.setCell (p:=⟨k,o,none⟩) hk v
theorem z7 {w0:World} (h:Below w0.heap.size w0 w) (hb:Below w.heap.size w w'):Below w0.heap.size w0 w':=zx0 h (Nat.le_refl _) hb
theorem x6 {p:Addr} (h:w.frozen? p=false) (hp:p.block<w.heap.size) (hb:Below w.heap.size w w'):w'.frozen? p=false:=by
 rw [hb.frozen hp];exact h
def At (w:World):List (Nat × Nat × Value)→Prop
 | []=>True
 | (k,o,v) :: l=>w.cell? ⟨k,o,none⟩=some v∧At w l
theorem At.call (hb:Below w.heap.size w w'):∀ {l:List (Nat × Nat × Value)},At w l→At w' l:=by
 intro l
 induction l with
 | nil=>intro h;exact h
 | cons x l ih=>intro h;exact ⟨z6 h.1 hb,ih h.2⟩
theorem At.alloc (h:At w l) (o:Obj):At (w.alloc o) l:=h.call (z8 w o)
theorem At.drew (h:At w l):At w.drew l:=h.call (Below.refl _ _).drew
theorem At.new1 (h:At w l) (v0:Value) (t:TypeId) (k:Nat) (hk:k=w.heap.size) :
 At (w.alloc (.cells #[v0] t)) ((k,0,v0) :: l):=by
 subst hk;exact ⟨by simp,h.alloc _⟩
theorem At.new2 (h:At w l) (v0 v1:Value) (t:TypeId) (k:Nat) (hk:k=w.heap.size) :
 At (w.alloc (.cells #[v0,v1] t)) ((k,0,v0) :: (k,1,v1) :: l):=by
 subst hk;exact ⟨by simp,by simp,h.alloc _⟩
theorem At.set2 {b:Nat} {u0 u1:Value} (h0:w.cell? ⟨b,0,none⟩=some u0) (h1:w.cell? ⟨b,1,none⟩=some u1) (h:At w l) (hl:∀ x ∈ l,x.1≠b) (v0 v1:Value) :
 At ((w.setCell ⟨b,0,none⟩ v0).setCell ⟨b,1,none⟩ v1) ((b,0,v0) :: (b,1,v1) :: l):=by
 refine ⟨?_,?_,?_⟩
 ·rw [World.cell?_setCell_other _ _ _ _ (by simp)];exact World.cell?_setCell_same' _ _ _ (by rw [h0];rfl)
 ·exact World.cell?_setCell_same' _ _ _ (by rw [World.cell?_setCell_other _ _ _ _ (by simp),h1];rfl)
 ·clear h0 h1
  induction l with
  | nil=>exact h
  | cons x l ih =>
    obtain ⟨k,o,v⟩:=x
    refine ⟨?_,ih h.2 fun y hy=>hl y (List.mem_cons_of_mem _ hy)⟩
    have hk:k≠b:=hl _ (List.mem_cons_self ..)
    rw [World.cell?_setCell_other _ _ _ _ (fun e=>hk (congrArg Addr.block e).symm),World.cell?_setCell_other _ _ _ _ (fun e=>hk (congrArg Addr.block e).symm)]
    exact h.1
def zq6 (w:World):List (Nat × Nat)→Prop
 | []=>True
 | (k,o) :: l=>(w.frozen? ⟨k,o,none⟩=false∧k<w.heap.size)∧zq6 w l
theorem zq6.call (hb:Below w.heap.size w w'):∀ {l:List (Nat × Nat)},zq6 w l→zq6 w' l:=by
 intro l
 induction l with
 | nil=>intro h;exact h
 | cons x l ih=>intro h;exact ⟨⟨x6 h.1.1 h.1.2 hb,Nat.lt_of_lt_of_le h.1.2 hb.size⟩,ih h.2⟩
theorem zq6.alloc {l:List (Nat × Nat)} (h:zq6 w l) (o:Obj):zq6 (w.alloc o) l:=h.call (z8 w o)
theorem zq6.new1 {l:List (Nat × Nat)} (h:zq6 w l) (v0:Value) (t:TypeId) (k:Nat) (hk:k=w.heap.size) :
 zq6 (w.alloc (.cells #[v0] t)) ((k,0) :: l):=by
 subst hk;exact ⟨⟨by simp,by simp⟩,h.alloc _⟩
theorem zq6.new2 {l:List (Nat × Nat)} (h:zq6 w l) (v0 v1:Value) (t:TypeId) (k:Nat) (hk:k=w.heap.size) :
 zq6 (w.alloc (.cells #[v0,v1] t)) ((k,0) :: (k,1) :: l):=by
 subst hk;exact ⟨⟨by simp,by simp⟩,⟨by simp,by simp⟩,h.alloc _⟩
def Kp (w wi:World) (l:List (Nat × Nat × Value)):Prop:=Below w.heap.size w wi∧At wi l
theorem Kp.start (w:World):Kp w w []:=⟨Below.refl _ _,trivial⟩
theorem Kp.call (h:Kp w wi l) (hb:Below wi.heap.size wi w'):Kp w w' l:=⟨z7 h.1 hb,h.2.call hb⟩
theorem Kp.alloc (h:Kp w wi l) (o:Obj):Kp w (wi.alloc o) l:=h.call (z8 wi o)
theorem Kp.drew (h:Kp w wi l):Kp w wi.drew l:=h.call (Below.refl _ _).drew
theorem Kp.new1 (h:Kp w wi l) (v0:Value) (t:TypeId) (k:Nat) (hk:k=wi.heap.size):Kp w (wi.alloc (.cells #[v0] t)) ((k,0,v0) :: l):=
 ⟨y7 h.1 _,h.2.new1 v0 t k hk⟩
theorem Kp.new2 (h:Kp w wi l) (v0 v1:Value) (t:TypeId) (k:Nat) (hk:k=wi.heap.size):Kp w (wi.alloc (.cells #[v0,v1] t)) ((k,0,v0) :: (k,1,v1) :: l):=
 ⟨y7 h.1 _,h.2.new2 v0 v1 t k hk⟩
theorem Kp.two (w:World) (v0 v1 u0 u1:Value) (t u:TypeId):Kp w ((w.alloc (.cells #[v0,v1] t)).alloc (.cells #[u0,u1] u)) [(w.heap.size+1,0,u0),(w.heap.size+1,1,u1),(w.heap.size,0,v0),(w.heap.size,1,v1)]:=
 ((Kp.start w).new2 v0 v1 t _ rfl).new2 u0 u1 u (w.heap.size+1) (by simp)
theorem b9 {a b:Bool} (h:a=b):Ending.returned (.bool a) = .returned (.bool b):=by rw [h]
theorem z62 {k:IntKind} {a b:Int} (h:a=b):Ending.returned (.int k a) = .returned (.int k b):=by rw [h]
def q8 (b:Bool) (w:World) (e:Ending) (w':World):Prop:=e = .returned (.bool b)∧Below w.heap.size w w'
end
section
open Go.RowKit
section
variable {P:Program} {ops:Array Oper} {Q:Exit→Act→World→Prop} {md:Region.Mode} {S:World→Prop}
theorem v61 {i:Nat} (oi:Oper) {v:Value} {fuel:Nat} {listed:Array Bool} {a:Act} {w:World} (hi:ops[i]? = some oi)
 (hs:Region.noSelect ops=true) (hf:Region.free md ops listed i=true) (hr:(Region.ready md ops listed).contains i=true)
 (hQ:∀ c a w,Q (.panic c) (a.put oi.dst v) w→Q (.panic c) a w) (hw:Region.wanted oi (yielded ops a.tmps)=true) (hS:S w)
 (hy:∀ w,S w→(execOp a.eval oi).run P w = .ok (.value v) w)
 (h:wpAnyH P md ops Q S fuel (listed.setIfInBounds i true) (a.put oi.dst v) w):wpAnyH P md ops Q S (fuel+1) listed a w:=
 wpAnyH_take hi hs hf hr hQ (Or.inl ⟨hw,hy⟩) hS h
theorem v62 {i:Nat} (oi:Oper) {fuel:Nat} {listed:Array Bool} {a:Act} {w:World} (hi:ops[i]? = some oi)
 (hs:Region.noSelect ops=true) (hf:Region.free md ops listed i=true) (hr:(Region.ready md ops listed).contains i=true)
 (hQ:∀ c a w,Q (.panic c) (a.put oi.dst undef) w→Q (.panic c) a w) (hw:Region.wanted oi (yielded ops a.tmps)=false) (hS:S w)
 (h:wpAnyH P md ops Q S fuel (listed.setIfInBounds i true) (a.put oi.dst undef) w):wpAnyH P md ops Q S (fuel+1) listed a w:=
 wpAnyH_take hi hs hf hr hQ (Or.inr ⟨hw,rfl⟩) hS h
end
end
section
open Go.RowKit Go.Extern.Stop Go.Stop Go.Extern
variable {w w':World}
def zo8 (c:Int):Option Int→Value
 | none => .iface 31 (.int .i64 c)
 | some a => .iface 76 (.agg #[.int .i64 c,.int .i64 a])
theorem yx2 (c a:Int) (w:World) :
 Calls Tryz.prog 309 #[.agg #[.int .i64 c,.int .i64 a]] w fun e w'=>e = .returned (zo8 c none)∧w'=w.alloc (.cells #[.int .i64 c,.int .i64 a] 76):=by
 go_enter Tryz.func309,Tryz.ntmps309
 go_wp2
 go_ret
 exact ⟨rfl,rfl⟩
theorem xj2 (v:Value) (xT:TypeId) (w:World):(Instr.typeAssert (.iface 76 v) xT 203 true).run Tryz.prog w = .ok (.tuple #[.nilIface,.bool false]) w:=run_typeAssert_lacksB Tryz.underlying203 (by kernel_rfl) (by kernel_rfl) v xT w
theorem x71 (v:Value) (xT:TypeId) (w:World):(Instr.typeAssert (.iface 76 v) xT 206 true).run Tryz.prog w = .ok (.tuple #[.iface 76 v,.bool true]) w:=run_typeAssert_hasB Tryz.underlying206 (by kernel_rfl) v xT w
theorem wc7 (n:Nat) (x:Array Value) (w:World):(Go.method (n+1) 76 (.agg x) "Unwrap").run Tryz.prog w = .ok (309,.agg x) w:=by kernel_rfl
theorem wp5 (n:Nat) (h:Value) (w:World):(Go.method (n+1) 198 (.agg #[h]) "Elem").run Tryz.prog w = .ok (316,.agg #[h]) w:=by kernel_rfl
theorem wp6 (n:Nat) (h:Value) (w:World):(Go.method (n+1) 198 (.agg #[h]) "Implements").run Tryz.prog w = .ok (317,.agg #[h]) w:=by kernel_rfl
theorem xz8 (n:Nat) (h:Value) (w:World):(Go.method (n+1) 198 (.agg #[h]) "AssignableTo").run Tryz.prog w = .ok (314,.agg #[h]) w:=by kernel_rfl
theorem wp7 (n:Nat) (h:Value) (w:World):(Go.method (n+1) 198 (.agg #[h]) "Kind").run Tryz.prog w = .ok (304,h) w:=by kernel_rfl
theorem x72 (c:Int) (w:World):(callFunc 164 #[.iface 31 (.int .i64 c)]).run Tryz.prog w = .ok (.value (.iface 198 (.agg #[.pointer (some ⟨3,31,none⟩)]))) w:=by kernel_rfl
theorem xz9 (w:World) :
 CallsD Tryz.prog 70 #[] .returning w fun e u' w'=>e = .returned (.tuple #[])∧u' = .returning∧w'=w:=by
 refine callsD_of_wpS Tryz.func70 rfl fun c₀ cs hu => ?_
 apply wpS_region
 cases c₀
 simp_all [wpOpsS,go_sem,recoverD,Tryz.ntmps70,bodyPostS,results,Tryz.results70]
def z82 (w:World):Prop:=w.cell? ⟨0,0,none⟩=some (.iface 198 (.agg #[.pointer (some ⟨3,27,none⟩)]))
theorem z82.lt (h:z82 w):0<w.heap.size:=World.block_lt_of_cell? w _ h
theorem z82.below {B:Nat} (h:z82 w) (hb:Below B w w') (hB:0<B):z82 w':=by
 unfold z82 at *;rw [hb.cell (p:=⟨0,0,none⟩) hB];exact h
theorem z82.here (h:z82 w) (hb:Below w.heap.size w w'):z82 w':=h.below hb h.lt
def zj1:Option (Int × Option Int)→Value
 | none => .nilIface
 | some (c,o)=>zo8 c o
def c5:Option (Int × Option Int)→Int
 | none=>0
 | some (c,_)=>c
def atE:Option (Int × Option Int)→Option Int
 | none=>none
 | some (_,o)=>o
def wc8 (r:Int) (w:World) (e:Ending) (w':World):Prop:=e = .returned (.int .i64 r)∧Below w.heap.size w w'
end
section
variable {P:Program} {ops:Array Oper} {Q:Exit→Act→World→Prop} {md:Region.Mode} {S:World→Prop}
theorem rt {i:Nat} (oi:Oper) {v:Value} {fuel:Nat} {listed:Array Bool} {a:Act} {w:World} (hS:S w) (hy:∀ w,S w→(execOp a.eval oi).run P w = .ok (.value v) w) (h:wpAnyH P md ops Q S fuel (listed.setIfInBounds i true) (a.put oi.dst v) w) (hi:ops[i]? = some oi:=by rfl)
 (hs:Region.noSelect ops=true:=by kernel_rfl) (hf:Region.free md ops listed i=true:=by kernel_rfl) (hr:(Region.ready md ops listed).contains i=true:=by kernel_rfl)
 (hQ:∀ c a w,Q (.panic c) (a.put oi.dst v) w→Q (.panic c) a w:=by exact fun _ _ _ h=>h) (hw:Region.wanted oi (yielded ops a.tmps)=true:=by rfl):wpAnyH P md ops Q S (fuel+1) listed a w:=
 v61 oi hi hs hf hr hQ hw hS hy h
theorem rk {i:Nat} (oi:Oper) {fuel:Nat} {listed:Array Bool} {a:Act} {w:World} (hS:S w) (h:wpAnyH P md ops Q S fuel (listed.setIfInBounds i true) (a.put oi.dst undef) w) (hi:ops[i]? = some oi:=by rfl)
 (hs:Region.noSelect ops=true:=by kernel_rfl) (hf:Region.free md ops listed i=true:=by kernel_rfl) (hr:(Region.ready md ops listed).contains i=true:=by kernel_rfl)
 (hQ:∀ c a w,Q (.panic c) (a.put oi.dst undef) w→Q (.panic c) a w:=by exact fun _ _ _ h=>h) (hw:Region.wanted oi (yielded ops a.tmps)=false:=by rfl):wpAnyH P md ops Q S (fuel+1) listed a w:=
 v62 oi hi hs hf hr hQ hw hS h
end
end Go.Proofs.YtchndljcahjldaaGreatDoor
