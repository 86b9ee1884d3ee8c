/- Closed facts on the entries for internal/reflectlite that errors.As comes to, at targets of type *api.Errno and *api.Fault. -/
import Derived.Test.YtchndljcahjldaaGreatDoorKLaw
namespace Go.Proofs.YtchndljcahjldaaGreatDoor
set_option maxRecDepth 100000
set_option maxHeartbeats 4000000
section
open Go.RowKit Go.Extern.Stop Go.Stop Go.Extern
theorem x49 (x:Array Value) (w:World):(callFunc 164 #[.iface 76 (.agg x)]).run Tryz.prog w = .ok (.value (.iface 198 (.agg #[.pointer (some ⟨3,76,none⟩)]))) w:=by kernel_rfl
theorem yx2 (t:Addr) (w:World):(callFunc 122 #[.iface 104 (.pointer (some t))]).run Tryz.prog w
 = .ok (.value (.agg #[.pointer (some ⟨3,104,none⟩),.pointer (some ⟨w.heap.size,0,none⟩),.int .u64 150])) (w.alloc (.cells #[.pointer (some t)] 104)):=by kernel_rfl
theorem xy5 (a:Addr) (w:World):(callFunc 123 #[.agg #[.pointer (some ⟨3,104,none⟩),.pointer (some a),.int .u64 150]]).run Tryz.prog w
 = .ok (.value (.iface 198 (.agg #[.pointer (some ⟨3,104,none⟩)]))) w:=by kernel_rfl
theorem xh6 (w:World):(callFunc 304 #[.pointer (some ⟨3,104,none⟩)]).run Tryz.prog w = .ok (.value (.int .u8 22)) w:=by kernel_rfl
theorem xh7 (w:World):(callFunc 304 #[.pointer (some ⟨3,31,none⟩)]).run Tryz.prog w = .ok (.value (.int .u8 2)) w:=by kernel_rfl
theorem xh8 (w:World):(callFunc 316 #[.agg #[.pointer (some ⟨3,104,none⟩)]]).run Tryz.prog w = .ok (.value (.iface 198 (.agg #[.pointer (some ⟨3,31,none⟩)]))) w:=by kernel_rfl
theorem xy6 (w:World):(callFunc 317 #[.agg #[.pointer (some ⟨3,31,none⟩)],.iface 198 (.agg #[.pointer (some ⟨3,27,none⟩)])]).run Tryz.prog w = .ok (.value (.bool true)) w:=by kernel_rfl
theorem yf9 (w:World):(callFunc 314 #[.agg #[.pointer (some ⟨3,76,none⟩)],.iface 198 (.agg #[.pointer (some ⟨3,31,none⟩)])]).run Tryz.prog w = .ok (.value (.bool false)) w:=by kernel_rfl
theorem yo5 (w:World):(callFunc 314 #[.agg #[.pointer (some ⟨3,31,none⟩)],.iface 198 (.agg #[.pointer (some ⟨3,31,none⟩)])]).run Tryz.prog w = .ok (.value (.bool true)) w:=by kernel_rfl
theorem y89 (a:Addr) (w:World):(ReflectliteValue.parts (.agg #[.pointer (some ⟨3,104,none⟩),.pointer (some a),.int .u64 150])).run Tryz.prog w = .ok (some (104,a,150)) w:=by kernel_rfl
theorem x50 (a:Addr) (w:World):(ReflectliteValue.parts (.agg #[.pointer (some ⟨3,31,none⟩),.pointer (some a),.int .u64 130])).run Tryz.prog w = .ok (some (31,a,130)) w:=by kernel_rfl
theorem x51 (a:Addr) (w:World):(ReflectliteValue.parts (.agg #[.pointer (some ⟨3,31,none⟩),.pointer (some a),.int .u64 386])).run Tryz.prog w = .ok (some (31,a,386)) w:=by kernel_rfl
theorem yx3 (w:World):(Rtype.elem? 104).run Tryz.prog w = .ok (some 31) w:=by kernel_rfl
theorem wb3 (p:Addr) (w:World):(ReflectliteValue.mk 31 p ReflectliteValue.flagAddr).run Tryz.prog w = .ok (.agg #[.pointer (some ⟨3,31,none⟩),.pointer (some p),.int .u64 386]) w:=by kernel_rfl
theorem x52 (w:World):(Rtype.directlyAssignable 31 31).run Tryz.prog w = .ok true w:=by kernel_rfl
theorem xh9 (a p:Addr) (W:World) (ha:W.cell? a=some (.pointer (some p))) :
 (callFunc 124 #[.agg #[.pointer (some ⟨3,104,none⟩),.pointer (some a),.int .u64 150]]).run Tryz.prog W = .ok (.value (.bool false)) W:=by
 have h:=@run_callFunc_extern Tryz.prog 124 _ (ReflectliteValue.method (ReflectliteValue.valueError "reflectlite.Value.IsNil" 0) ReflectliteValue.isNil) Tryz.func124 (by kernel_rfl) (by kernel_rfl) (by kernel_rfl) (by kernel_rfl)
 rw [h,show ReflectliteValue.method (ReflectliteValue.valueError "reflectlite.Value.IsNil" 0) ReflectliteValue.isNil #[.agg #[.pointer (some ⟨3,104,none⟩),.pointer (some a),.int .u64 150]]=(ReflectliteValue.parts (.agg #[.pointer (some ⟨3,104,none⟩),.pointer (some a),.int .u64 150]) >>= fun x=>_) from rfl]
 simp only [Sem.run_bind,y89,Result.andThen]
 simp [ReflectliteValue.isNil,loadVar,isAgg,underlying,Tryz.underlying104,ha,Result.andThen]
theorem xi0 (a p:Addr) (W:World) (ha:W.cell? a=some (.pointer (some p))) :
 (callFunc 165 #[.agg #[.pointer (some ⟨3,104,none⟩),.pointer (some a),.int .u64 150]]).run Tryz.prog W
   = .ok (.value (.agg #[.pointer (some ⟨3,31,none⟩),.pointer (some p),.int .u64 386])) W:=by
 have h:=@run_callFunc_extern Tryz.prog 165 _ (ReflectliteValue.method (ReflectliteValue.valueError "reflectlite.Value.Elem" 0) ReflectliteValue.elem) Tryz.func165 (by kernel_rfl) (by kernel_rfl) (by kernel_rfl) (by kernel_rfl)
 rw [h,show ReflectliteValue.method (ReflectliteValue.valueError "reflectlite.Value.Elem" 0) ReflectliteValue.elem #[.agg #[.pointer (some ⟨3,104,none⟩),.pointer (some a),.int .u64 150]]=(ReflectliteValue.parts (.agg #[.pointer (some ⟨3,104,none⟩),.pointer (some a),.int .u64 150]) >>= fun x=>_) from rfl]
 simp only [Sem.run_bind,y89,Result.andThen]
 simp [ReflectliteValue.elem,loadVar,isAgg,underlying,Tryz.underlying104,ha,Result.andThen,yx3,wb3]
theorem yo6 (c:Int) (w:World):(callFunc 122 #[.iface 31 (.int .i64 c)]).run Tryz.prog w
 = .ok (.value (.agg #[.pointer (some ⟨3,31,none⟩),.pointer (some ⟨w.heap.size,0,none⟩),.int .u64 130])) (w.alloc (.cells #[.int .i64 c] 31)):=by kernel_rfl
theorem wb4 (ta b:Addr) (c:Int) (old:Value) (W:World) (hb:W.cell? b=some (.int .i64 c)) (ht:W.cell? ta=some old) (hf:W.frozen? ta=false) :
 (callFunc 166 #[.agg #[.pointer (some ⟨3,31,none⟩),.pointer (some ta),.int .u64 386],.agg #[.pointer (some ⟨3,31,none⟩),.pointer (some b),.int .u64 130]]).run Tryz.prog W
   = .ok (.value (.tuple #[])) (W.setCell ta (.int .i64 c)):=by
 have h:=@run_callFunc_extern Tryz.prog 166 _ ReflectliteValue.set Tryz.func166 (by kernel_rfl) (by kernel_rfl) (by kernel_rfl) (by kernel_rfl)
 rw [h,show ReflectliteValue.set #[.agg #[.pointer (some ⟨3,31,none⟩),.pointer (some ta),.int .u64 386],.agg #[.pointer (some ⟨3,31,none⟩),.pointer (some b),.int .u64 130]]=(ReflectliteValue.parts (.agg #[.pointer (some ⟨3,31,none⟩),.pointer (some ta),.int .u64 386]) >>= fun x=>ReflectliteValue.parts (.agg #[.pointer (some ⟨3,31,none⟩),.pointer (some b),.int .u64 130]) >>= fun y=>_) from rfl]
 simp only [Sem.run_bind,x51,x50,Result.andThen]
 simp [ReflectliteValue.flagAddr,loadVar,isAgg,underlying,Tryz.underlying31,hb,Result.andThen,x52,storeVar,Value.cells,storeCells,Addr.add]
 rw [run_store Tryz.prog W ta _ _ (by rfl)]
 simp [ht,hf]
theorem yo7 (t:Addr) (w:World):(callFunc 122 #[.iface 105 (.pointer (some t))]).run Tryz.prog w
 = .ok (.value (.agg #[.pointer (some ⟨3,105,none⟩),.pointer (some ⟨w.heap.size,0,none⟩),.int .u64 150])) (w.alloc (.cells #[.pointer (some t)] 105)):=by kernel_rfl
theorem xi1 (a:Addr) (w:World):(callFunc 123 #[.agg #[.pointer (some ⟨3,105,none⟩),.pointer (some a),.int .u64 150]]).run Tryz.prog w
 = .ok (.value (.iface 198 (.agg #[.pointer (some ⟨3,105,none⟩)]))) w:=by kernel_rfl
theorem x53 (w:World):(callFunc 304 #[.pointer (some ⟨3,105,none⟩)]).run Tryz.prog w = .ok (.value (.int .u8 22)) w:=by kernel_rfl
theorem x54 (w:World):(callFunc 304 #[.pointer (some ⟨3,76,none⟩)]).run Tryz.prog w = .ok (.value (.int .u8 25)) w:=by kernel_rfl
theorem x55 (w:World):(callFunc 316 #[.agg #[.pointer (some ⟨3,105,none⟩)]]).run Tryz.prog w = .ok (.value (.iface 198 (.agg #[.pointer (some ⟨3,76,none⟩)]))) w:=by kernel_rfl
theorem xi2 (w:World):(callFunc 317 #[.agg #[.pointer (some ⟨3,76,none⟩)],.iface 198 (.agg #[.pointer (some ⟨3,27,none⟩)])]).run Tryz.prog w = .ok (.value (.bool true)) w:=by kernel_rfl
theorem yb7 (w:World):(callFunc 314 #[.agg #[.pointer (some ⟨3,76,none⟩)],.iface 198 (.agg #[.pointer (some ⟨3,76,none⟩)])]).run Tryz.prog w = .ok (.value (.bool true)) w:=by kernel_rfl
theorem yg0 (w:World):(callFunc 314 #[.agg #[.pointer (some ⟨3,31,none⟩)],.iface 198 (.agg #[.pointer (some ⟨3,76,none⟩)])]).run Tryz.prog w = .ok (.value (.bool false)) w:=by kernel_rfl
theorem zz9 (a:Addr) (w:World):(ReflectliteValue.parts (.agg #[.pointer (some ⟨3,105,none⟩),.pointer (some a),.int .u64 150])).run Tryz.prog w = .ok (some (105,a,150)) w:=by kernel_rfl
theorem yx4 (a:Addr) (w:World):(ReflectliteValue.parts (.agg #[.pointer (some ⟨3,76,none⟩),.pointer (some a),.int .u64 153])).run Tryz.prog w = .ok (some (76,a,153)) w:=by kernel_rfl
theorem yx5 (a:Addr) (w:World):(ReflectliteValue.parts (.agg #[.pointer (some ⟨3,76,none⟩),.pointer (some a),.int .u64 409])).run Tryz.prog w = .ok (some (76,a,409)) w:=by kernel_rfl
theorem yo8 (w:World):(Rtype.elem? 105).run Tryz.prog w = .ok (some 76) w:=by kernel_rfl
theorem xy7 (p:Addr) (w:World):(ReflectliteValue.mk 76 p ReflectliteValue.flagAddr).run Tryz.prog w = .ok (.agg #[.pointer (some ⟨3,76,none⟩),.pointer (some p),.int .u64 409]) w:=by kernel_rfl
theorem yx6 (w:World):(Rtype.directlyAssignable 76 76).run Tryz.prog w = .ok true w:=by kernel_rfl
theorem x56 (a p:Addr) (W:World) (ha:W.cell? a=some (.pointer (some p))) :
 (callFunc 124 #[.agg #[.pointer (some ⟨3,105,none⟩),.pointer (some a),.int .u64 150]]).run Tryz.prog W = .ok (.value (.bool false)) W:=by
 have h:=@run_callFunc_extern Tryz.prog 124 _ (ReflectliteValue.method (ReflectliteValue.valueError "reflectlite.Value.IsNil" 0) ReflectliteValue.isNil) Tryz.func124 (by kernel_rfl) (by kernel_rfl) (by kernel_rfl) (by kernel_rfl)
 rw [h,show ReflectliteValue.method (ReflectliteValue.valueError "reflectlite.Value.IsNil" 0) ReflectliteValue.isNil #[.agg #[.pointer (some ⟨3,105,none⟩),.pointer (some a),.int .u64 150]]=(ReflectliteValue.parts (.agg #[.pointer (some ⟨3,105,none⟩),.pointer (some a),.int .u64 150]) >>= fun x=>_) from rfl]
 simp only [Sem.run_bind,zz9,Result.andThen]
 simp [ReflectliteValue.isNil,loadVar,isAgg,underlying,Tryz.underlying105,ha,Result.andThen]
theorem x57 (a p:Addr) (W:World) (ha:W.cell? a=some (.pointer (some p))) :
 (callFunc 165 #[.agg #[.pointer (some ⟨3,105,none⟩),.pointer (some a),.int .u64 150]]).run Tryz.prog W
   = .ok (.value (.agg #[.pointer (some ⟨3,76,none⟩),.pointer (some p),.int .u64 409])) W:=by
 have h:=@run_callFunc_extern Tryz.prog 165 _ (ReflectliteValue.method (ReflectliteValue.valueError "reflectlite.Value.Elem" 0) ReflectliteValue.elem) Tryz.func165 (by kernel_rfl) (by kernel_rfl) (by kernel_rfl) (by kernel_rfl)
 rw [h,show ReflectliteValue.method (ReflectliteValue.valueError "reflectlite.Value.Elem" 0) ReflectliteValue.elem #[.agg #[.pointer (some ⟨3,105,none⟩),.pointer (some a),.int .u64 150]]=(ReflectliteValue.parts (.agg #[.pointer (some ⟨3,105,none⟩),.pointer (some a),.int .u64 150]) >>= fun x=>_) from rfl]
 simp only [Sem.run_bind,zz9,Result.andThen]
 simp [ReflectliteValue.elem,loadVar,isAgg,underlying,Tryz.underlying105,ha,Result.andThen,yo8,xy7]
theorem yg1 (c x:Int) (w:World):(callFunc 122 #[.iface 76 (.agg #[.int .i64 c,.int .i64 x])]).run Tryz.prog w
 = .ok (.value (.agg #[.pointer (some ⟨3,76,none⟩),.pointer (some ⟨w.heap.size,0,none⟩),.int .u64 153])) (w.alloc (.cells #[.int .i64 c,.int .i64 x] 76)):=by kernel_rfl
theorem xy8 (ta b:Nat) (c x:Int) (o1 o2:Value) (W:World) (hb:W.cell? ⟨b,0,none⟩=some (.int .i64 c)) (hb1:W.cell? ⟨b,1,none⟩=some (.int .i64 x))
 (ht:W.cell? ⟨ta,0,none⟩=some o1) (ht1:W.cell? ⟨ta,1,none⟩=some o2) (hf:W.frozen? ⟨ta,0,none⟩=false) (hf1:W.frozen? ⟨ta,1,none⟩=false) :
 (callFunc 166 #[.agg #[.pointer (some ⟨3,76,none⟩),.pointer (some ⟨ta,0,none⟩),.int .u64 409],.agg #[.pointer (some ⟨3,76,none⟩),.pointer (some ⟨b,0,none⟩),.int .u64 153]]).run Tryz.prog W
   = .ok (.value (.tuple #[])) ((W.setCell ⟨ta,0,none⟩ (.int .i64 c)).setCell ⟨ta,1,none⟩ (.int .i64 x)):=by
 have h:=@run_callFunc_extern Tryz.prog 166 _ ReflectliteValue.set Tryz.func166 (by kernel_rfl) (by kernel_rfl) (by kernel_rfl) (by kernel_rfl)
 have hs:∀ w,(sizeOf 76).run Tryz.prog w = .ok 2 w:=fun _=>by kernel_rfl
 have hsx:(W.setCell ⟨ta,0,none⟩ (.int .i64 c)).cell? ⟨ta,1,none⟩=some o2:=by
  rw [World.cell?_setCell_other _ _ _ _ (by simp)];exact ht1
 have hfx:(W.setCell ⟨ta,0,none⟩ (.int .i64 c)).frozen? ⟨ta,1,none⟩=false:=by simpa using hf1
 rw [h,show ReflectliteValue.set #[.agg #[.pointer (some ⟨3,76,none⟩),.pointer (some ⟨ta,0,none⟩),.int .u64 409],.agg #[.pointer (some ⟨3,76,none⟩),.pointer (some ⟨b,0,none⟩),.int .u64 153]]=(ReflectliteValue.parts (.agg #[.pointer (some ⟨3,76,none⟩),.pointer (some ⟨ta,0,none⟩),.int .u64 409]) >>= fun x=>ReflectliteValue.parts (.agg #[.pointer (some ⟨3,76,none⟩),.pointer (some ⟨b,0,none⟩),.int .u64 153]) >>= fun y=>_) from rfl]
 simp only [Sem.run_bind,yx5,yx4,Result.andThen]
 simp [ReflectliteValue.flagAddr,loadVar,isAgg,underlying,Tryz.underlying76,hb,hb1,loadCells,loadCellsFrom,hs,Result.andThen,yx6,storeVar,Value.cells,storeCells,Addr.add]
 rw [run_store Tryz.prog W ⟨ta,0,none⟩ _ _ (by rfl)]
 simp [ht,hf]
 rw [run_store Tryz.prog _ ⟨ta,1,none⟩ _ _ (by rfl)]
 simp [hsx,hfx]
end
section
open Go.RowKit Go.Extern.Stop Go.Stop Go.Extern
def wb5 (c:Int) (tb:Nat) (w:World) (e:Ending) (w':World):Prop:=
 e = .returned (.bool true)∧Below tb w w'∧w'.cell? ⟨tb,0,none⟩=some (.int .i64 c)
def x58 (P:TypeId) (k a tb:Nat) (old:Value) (wr:World):Prop:=
 wr.cell? ⟨k,0,none⟩=some (.pointer (some ⟨3,P,none⟩))∧wr.cell? ⟨k,1,none⟩=some (.pointer (some ⟨a,0,none⟩))∧wr.cell? ⟨k,2,none⟩=some (.int .u64 150) ∧
 wr.cell? ⟨a,0,none⟩=some (.pointer (some ⟨tb,0,none⟩))∧wr.cell? ⟨tb,0,none⟩=some old∧wr.frozen? ⟨tb,0,none⟩=false∧k<wr.heap.size∧a<wr.heap.size∧tb<wr.heap.size
theorem x58.alloc {P:TypeId} {k a tb:Nat} {old:Value} {wr:World} (h:x58 P k a tb old wr) (o:Obj):x58 P k a tb old (wr.alloc o):=by
 obtain ⟨h1,h2,h3,h4,h5,h6,h7,h8,h9⟩:=h
 refine ⟨?_,?_,?_,?_,?_,?_,?_,?_,?_⟩
 ·rw [World.cell?_alloc_lt _ _ ⟨k,0,none⟩ h7];exact h1
 ·rw [World.cell?_alloc_lt _ _ ⟨k,1,none⟩ h7];exact h2
 ·rw [World.cell?_alloc_lt _ _ ⟨k,2,none⟩ h7];exact h3
 ·rw [World.cell?_alloc_lt _ _ ⟨a,0,none⟩ h8];exact h4
 ·rw [World.cell?_alloc_lt _ _ ⟨tb,0,none⟩ h9];exact h5
 ·rw [World.frozen?_alloc_old _ _ ⟨tb,0,none⟩ (Nat.ne_of_lt h9)];exact h6
 ·simp;omega
 ·simp;omega
 ·simp;omega
def wv8 (c:Int) (o:Option Int) (k:Nat) (p:Value):Prop:=∃ o',p=z88 c o'∧(o'=o∨o'=none)∧(match o' with | some _=>2 | none=>1)≤k
theorem wo4 (c:Int) (o:Option Int) (a tb:Nat) (old:Value) (w:World)
 (ha:w.cell? ⟨a,0,none⟩=some (.pointer (some ⟨tb,0,none⟩))) (hal:a<w.heap.size) (ht:w.cell? ⟨tb,0,none⟩=some old) (hf:w.frozen? ⟨tb,0,none⟩=false) (htl:tb<w.heap.size) :
 Calls Tryz.prog 125 #[z88 c o,.iface 104 (.pointer (some ⟨tb,0,none⟩)),.agg #[.pointer (some ⟨3,104,none⟩),.pointer (some ⟨a,0,none⟩),.int .u64 150],.iface 198 (.agg #[.pointer (some ⟨3,31,none⟩)])] w (wb5 c tb w):=by
 have hH:x58 104 w.heap.size a tb old (w.alloc (.cells #[.pointer (some ⟨3,104,none⟩),.pointer (some ⟨a,0,none⟩),.int .u64 150] 152)):=by
  refine ⟨by simp,by simp,by simp,?_,?_,?_,by simp,by simp;omega,by simp;omega⟩
  ·rw [World.cell?_alloc_lt _ _ ⟨a,0,none⟩ hal];exact ha
  ·rw [World.cell?_alloc_lt _ _ ⟨tb,0,none⟩ htl];exact ht
  ·rw [World.frozen?_alloc_old _ _ ⟨tb,0,none⟩ (Nat.ne_of_lt htl)];exact hf
 have hB:Below tb w (w.alloc (.cells #[.pointer (some ⟨3,104,none⟩),.pointer (some ⟨a,0,none⟩),.int .u64 150] 152)):=(Below.refl _ _).alloc (Nat.le_of_lt htl) _
 have Ha:=qh ha;clear ha
 have Ht:=qh ht;clear ht
 have Hf:=qh hf;clear hf
 have HH:=qh hH;clear hH
 have HB:=qh hB;clear hB
 have y2:=x49
 have y4:=y95
 have z0:=ys5
 have z2:=yf9
 have z4:=yo5
 have m2:=wd3
 have i2:=xj2
 have g2:=x74
 have v1:=yo6
 obtain ⟨ty0,u0,hnn⟩:∃ t u,z88 c o = .iface t u:=by cases o <;> exact ⟨_,_,rfl⟩
 have Hs:wv8 c o 2 (.iface ty0 u0):=⟨o,hnn.symm,.inl rfl,by cases o <;> simp⟩
 have HS:=qh Hs;clear Hs
 rw [hnn]
 clear hnn
 go_enter Tryz.func125,Tryz.ntmps125
 go_wp2_with fail
 go_loopg [0] 2 (fun k p wr=>wv8 c o k p∧Below tb w wr∧x58 104 w.heap.size a tb old wr)
 case atStart=>exact ⟨HS.out,HB.out,HH.out⟩
 case round =>
  obtain ⟨⟨o',hv,ho,hk⟩,hb,hh⟩:=hrel
  have Hk:=qh hk;clear hk
  have Ho:=qh ho;clear ho
  have Hb:=qh hb;clear hb
  have Hh:=qh hh
  obtain ⟨c0,c1,c2,ca,ct,cf,l1,l2,l3⟩:=hh
  cases o' with
  | none =>
    obtain rfl:_=Value.iface 31 (.int .i64 c):=hv
    have e1:=xi0 ⟨a,0,none⟩ ⟨tb,0,none⟩ wr ca
    have e2:=wb4 ⟨tb,0,none⟩ ⟨wr.heap.size,0,none⟩ c old (wr.alloc (.cells #[.int .i64 c] 31)) (by simp)
     (by rw [World.cell?_alloc_lt _ _ ⟨tb,0,none⟩ l3];exact ct) (by rw [World.frozen?_alloc_old _ _ ⟨tb,0,none⟩ (Nat.ne_of_lt l3)];exact cf)
    go_wp2_with fail
    go_ret
    have hsz:(wr.setCell ⟨tb,0,none⟩ (.int .i64 c)).heap.size=wr.heap.size:=by simp [World.setCell]
    refine ⟨rfl,(Hb.out.setCell (p:=⟨tb,0,none⟩) (Nat.le_refl _) _).alloc (by rw [hsz];omega) _,?_⟩
    rw [World.cell?_alloc_lt _ _ ⟨tb,0,none⟩ (by rw [hsz];exact l3)]
    exact World.cell?_setCell_same' _ _ _ (by rw [ct];rfl)
  | some a0 =>
    obtain rfl:_=Value.iface 76 (.agg #[.int .i64 c,.int .i64 a0]):=hv
    go_wp2_with fail
    refine (yy2 c a0 _).mono ?_
    rintro e w' ⟨rfl,rfl⟩
    unfold z88
    go_wp2_with fail
    have Hk':2≤gk:=Hk.out
    go_roundg 1
    case measure=>omega
    case rel=>exact ⟨⟨none,rfl,.inr rfl,by simp⟩,Hb.out.alloc (Nat.le_of_lt l3) _,Hh.out.alloc _⟩
def xq3 (c:Int) (o:Option Int) (tb:Nat) (w:World) (e:Ending) (w':World):Prop:=
 match o with
 | some x=>e = .returned (.bool true)∧Below tb w w'∧w'.cell? ⟨tb,0,none⟩=some (.int .i64 c)∧w'.cell? ⟨tb,1,none⟩=some (.int .i64 x)
 | none=>e = .returned (.bool false)∧Below tb w w'
theorem y51 (w:World) (tb:Nat) (u v o1 o2:Value) (h0:w.cell? ⟨tb,0,none⟩=some o1) (h1:w.cell? ⟨tb,1,none⟩=some o2) :
 ((w.setCell ⟨tb,0,none⟩ u).setCell ⟨tb,1,none⟩ v).cell? ⟨tb,0,none⟩=some u∧((w.setCell ⟨tb,0,none⟩ u).setCell ⟨tb,1,none⟩ v).cell? ⟨tb,1,none⟩=some v:=by
 constructor
 ·rw [World.cell?_setCell_other _ _ _ _ (by simp)]
  exact World.cell?_setCell_same' _ _ _ (by rw [h0];rfl)
 ·exact World.cell?_setCell_same' _ _ _ (by rw [World.cell?_setCell_other _ _ _ _ (by simp),h1];rfl)
theorem wb6 (c:Int) (o:Option Int) (a tb:Nat) (o1 o2:Value) (w:World)
 (ha:w.cell? ⟨a,0,none⟩=some (.pointer (some ⟨tb,0,none⟩))) (hal:a<w.heap.size) (ht:w.cell? ⟨tb,0,none⟩=some o1) (hf:w.frozen? ⟨tb,0,none⟩=false)
 (ht1:w.cell? ⟨tb,1,none⟩=some o2) (hf1:w.frozen? ⟨tb,1,none⟩=false) (htl:tb<w.heap.size) :
 Calls Tryz.prog 125 #[z88 c o,.iface 105 (.pointer (some ⟨tb,0,none⟩)),.agg #[.pointer (some ⟨3,105,none⟩),.pointer (some ⟨a,0,none⟩),.int .u64 150],.iface 198 (.agg #[.pointer (some ⟨3,76,none⟩)])] w (xq3 c o tb w):=by
 have hH:x58 105 w.heap.size a tb o1 (w.alloc (.cells #[.pointer (some ⟨3,105,none⟩),.pointer (some ⟨a,0,none⟩),.int .u64 150] 152)):=by
  refine ⟨by simp,by simp,by simp,?_,?_,?_,by simp,by simp;omega,by simp;omega⟩
  ·rw [World.cell?_alloc_lt _ _ ⟨a,0,none⟩ hal];exact ha
  ·rw [World.cell?_alloc_lt _ _ ⟨tb,0,none⟩ htl];exact ht
  ·rw [World.frozen?_alloc_old _ _ ⟨tb,0,none⟩ (Nat.ne_of_lt htl)];exact hf
 have hT1:(w.alloc (.cells #[.pointer (some ⟨3,105,none⟩),.pointer (some ⟨a,0,none⟩),.int .u64 150] 152)).cell? ⟨tb,1,none⟩=some o2:=by
  rw [World.cell?_alloc_lt _ _ ⟨tb,1,none⟩ htl];exact ht1
 have hF1:(w.alloc (.cells #[.pointer (some ⟨3,105,none⟩),.pointer (some ⟨a,0,none⟩),.int .u64 150] 152)).frozen? ⟨tb,1,none⟩=false:=by
  rw [World.frozen?_alloc_old _ _ ⟨tb,1,none⟩ (Nat.ne_of_lt htl)];exact hf1
 have hB:Below tb w (w.alloc (.cells #[.pointer (some ⟨3,105,none⟩),.pointer (some ⟨a,0,none⟩),.int .u64 150] 152)):=(Below.refl _ _).alloc (Nat.le_of_lt htl) _
 have Ha:=qh ha;clear ha
 have Ht:=qh ht;clear ht
 have Hf:=qh hf;clear hf
 have Ht1:=qh ht1;clear ht1
 have Hf1:=qh hf1;clear hf1
 have HT1:=qh hT1;clear hT1
 have HF1:=qh hF1;clear hF1
 have HH:=qh hH;clear hH
 have HB:=qh hB;clear hB
 have y2:=x49
 have y4:=y95
 have z0:=ys5
 have z2:=yb7
 have z4:=yg0
 have i4:=xz8
 have g4:=xz9
 have g6:=xj3
 have v1:=yg1
 cases o with
 | none =>
   unfold z88
   go_enter Tryz.func125,Tryz.ntmps125
   go_wp2_with fail
   go_loopg [0] 1 (fun k p wr=>k=1∧p = .iface 31 (.int .i64 c)∧Below tb w wr∧x58 105 w.heap.size a tb o1 wr)
   case atStart=>exact ⟨rfl,rfl,HB.out,HH.out⟩
   case round =>
    obtain ⟨hk,rfl,hb,hh⟩:=hrel
    have Hk:=qh hk;clear hk
    have Hb:=qh hb;clear hb
    obtain ⟨c0,c1,c2,ca,ct,cf,l1,l2,l3⟩:=hh
    go_wp2_with fail
    go_ret
    exact ⟨rfl,Hb.out⟩
 | some a0 =>
   unfold z88
   go_enter Tryz.func125,Tryz.ntmps125
   go_wp2_with fail
   go_loopg [0] 1 (fun k p wr=>k=1∧p = .iface 76 (.agg #[.int .i64 c,.int .i64 a0])∧Below tb w wr∧x58 105 w.heap.size a tb o1 wr∧wr.cell? ⟨tb,1,none⟩=some o2∧wr.frozen? ⟨tb,1,none⟩=false)
   case atStart=>exact ⟨rfl,rfl,HB.out,HH.out,HT1.out,HF1.out⟩
   case round =>
    obtain ⟨hk,rfl,hb,hh,ct1,cf1⟩:=hrel
    have Hk:=qh hk;clear hk
    have Hb:=qh hb;clear hb
    have Ct1:=qh ct1
    obtain ⟨c0,c1,c2,ca,ct,cf,l1,l2,l3⟩:=hh
    have e1:=x57 ⟨a,0,none⟩ ⟨tb,0,none⟩ wr ca
    have e2:=xy8 tb wr.heap.size c a0 o1 o2 (wr.alloc (.cells #[.int .i64 c,.int .i64 a0] 76)) (by simp) (by simp)
     (by rw [World.cell?_alloc_lt _ _ ⟨tb,0,none⟩ l3];exact ct) (by rw [World.cell?_alloc_lt _ _ ⟨tb,1,none⟩ l3];exact ct1)
     (by rw [World.frozen?_alloc_old _ _ ⟨tb,0,none⟩ (Nat.ne_of_lt l3)];exact cf) (by rw [World.frozen?_alloc_old _ _ ⟨tb,1,none⟩ (Nat.ne_of_lt l3)];exact cf1)
    go_wp2_with fail
    go_ret
    have hsz:((wr.setCell ⟨tb,0,none⟩ (.int .i64 c)).setCell ⟨tb,1,none⟩ (.int .i64 a0)).heap.size=wr.heap.size:=by simp [World.setCell]
    have hcs:=y51 wr tb (.int .i64 c) (.int .i64 a0) o1 o2 ct Ct1.out
    refine ⟨rfl,(((Hb.out.setCell (p:=⟨tb,0,none⟩) (Nat.le_refl _) _).setCell (p:=⟨tb,1,none⟩) (Nat.le_refl _) _).alloc (by rw [hsz];omega) _),?_,?_⟩
    ·rw [World.cell?_alloc_lt _ _ ⟨tb,0,none⟩ (by rw [hsz];exact l3)];exact hcs.1
    ·rw [World.cell?_alloc_lt _ _ ⟨tb,1,none⟩ (by rw [hsz];exact l3)];exact hcs.2
end
section
open Go.RowKit Go.Extern.Stop Go.Stop Go.Extern
theorem wx5 (t:Value) (w:World) :
 Calls Tryz.prog 71 #[.nilIface,t] w fun e w'=>e = .returned (.bool false)∧w=w':=by
 go_enter Tryz.func71,Tryz.ntmps71
 go_wp2
 go_ret
 exact ⟨rfl,rfl⟩
theorem wo5 (c:Int) (o:Option Int) (tb:Nat) (old:Value) (w:World) (hg:z43 w)
 (ht:w.cell? ⟨tb,0,none⟩=some old) (hf:w.frozen? ⟨tb,0,none⟩=false) (hgt:0<tb) :
 Calls Tryz.prog 71 #[z88 c o,.iface 104 (.pointer (some ⟨tb,0,none⟩))] w (wb5 c tb w):=by
 have htl:tb<w.heap.size:=World.block_lt_of_cell? w _ ht
 have hB:Below tb w ((w.alloc (.cells #[.pointer (some ⟨tb,0,none⟩)] 104)).alloc (.cells #[.pointer (some ⟨3,104,none⟩),.pointer (some ⟨w.heap.size,0,none⟩),.int .u64 150] 152)):=
  ((Below.refl _ _).alloc (Nat.le_of_lt htl) _).alloc (by simp;omega) _
 have e0:((w.alloc (.cells #[.pointer (some ⟨tb,0,none⟩)] 104)).alloc (.cells #[.pointer (some ⟨3,104,none⟩),.pointer (some ⟨w.heap.size,0,none⟩),.int .u64 150] 152)).cell? ⟨w.heap.size,0,none⟩=some (.pointer (some ⟨tb,0,none⟩)):=by
  rw [World.cell?_alloc_lt _ _ ⟨w.heap.size,0,none⟩ (by simp)];simp
 have hg2:((w.alloc (.cells #[.pointer (some ⟨tb,0,none⟩)] 104)).alloc (.cells #[.pointer (some ⟨3,104,none⟩),.pointer (some ⟨w.heap.size,0,none⟩),.int .u64 150] 152)).cell? ⟨0,0,none⟩=some (.iface 198 (.agg #[.pointer (some ⟨3,27,none⟩)])):=
  hg.below hB hgt
 have n8:=xh9 ⟨w.heap.size,0,none⟩ ⟨tb,0,none⟩ ((w.alloc (.cells #[.pointer (some ⟨tb,0,none⟩)] 104)).alloc (.cells #[.pointer (some ⟨3,104,none⟩),.pointer (some ⟨w.heap.size,0,none⟩),.int .u64 150] 152)) e0
 have k:=wo4 c o w.heap.size tb old ((w.alloc (.cells #[.pointer (some ⟨tb,0,none⟩)] 104)).alloc (.cells #[.pointer (some ⟨3,104,none⟩),.pointer (some ⟨w.heap.size,0,none⟩),.int .u64 150] 152))
  e0 (by simp;omega) (by rw [World.cell?_alloc_lt _ _ ⟨tb,0,none⟩ (by simp;omega),World.cell?_alloc_lt _ _ ⟨tb,0,none⟩ htl];exact ht)
  (by rw [World.frozen?_alloc_old _ _ ⟨tb,0,none⟩ (by simp;omega),World.frozen?_alloc_old _ _ ⟨tb,0,none⟩ (Nat.ne_of_lt htl)];exact hf) (by simp;omega)
 have K:=qh k;clear k
 have HB:=qh hB;clear hB
 have Ht:=qh ht;clear ht
 have Hf:=qh hf;clear hf
 have Hg:=qh hg;clear hg
 have E0:=qh e0;clear e0
 obtain ⟨ty0,u0,hnn⟩:∃ t u,z88 c o = .iface t u:=by cases o <;> exact ⟨_,_,rfl⟩
 rw [hnn] at K ⊢
 clear hnn
 have f1:=yx2
 have f2:=xy5
 have f3:=xr3
 have f4:=xh6
 have f5:=xh7
 have f6:=xr1
 have f7:=xh8
 have f8:=xr2
 have f9:=xy6
 go_enter Tryz.func71,Tryz.ntmps71
 go_wp2_with fail
 refine K.out.mono ?_
 intro e w' he
 obtain ⟨rfl,hb,hc⟩:=he
 have Hb:=qh hb;clear hb
 have Hc:=qh hc;clear hc
 go_wp2_with fail
 go_ret
 exact ⟨rfl,HB.out.trans Hb.out,Hc.out⟩
theorem wb7 (c:Int) (o:Option Int) (tb:Nat) (old o2:Value) (w:World) (hg:z43 w)
 (ht:w.cell? ⟨tb,0,none⟩=some old) (hf:w.frozen? ⟨tb,0,none⟩=false) (ht1:w.cell? ⟨tb,1,none⟩=some o2) (hf1:w.frozen? ⟨tb,1,none⟩=false) (hgt:0<tb) :
 Calls Tryz.prog 71 #[z88 c o,.iface 105 (.pointer (some ⟨tb,0,none⟩))] w (xq3 c o tb w):=by
 have htl:tb<w.heap.size:=World.block_lt_of_cell? w _ ht
 have hB:Below tb w ((w.alloc (.cells #[.pointer (some ⟨tb,0,none⟩)] 105)).alloc (.cells #[.pointer (some ⟨3,105,none⟩),.pointer (some ⟨w.heap.size,0,none⟩),.int .u64 150] 152)):=
  ((Below.refl _ _).alloc (Nat.le_of_lt htl) _).alloc (by simp;omega) _
 have e0:((w.alloc (.cells #[.pointer (some ⟨tb,0,none⟩)] 105)).alloc (.cells #[.pointer (some ⟨3,105,none⟩),.pointer (some ⟨w.heap.size,0,none⟩),.int .u64 150] 152)).cell? ⟨w.heap.size,0,none⟩=some (.pointer (some ⟨tb,0,none⟩)):=by
  rw [World.cell?_alloc_lt _ _ ⟨w.heap.size,0,none⟩ (by simp)];simp
 have hg2:((w.alloc (.cells #[.pointer (some ⟨tb,0,none⟩)] 105)).alloc (.cells #[.pointer (some ⟨3,105,none⟩),.pointer (some ⟨w.heap.size,0,none⟩),.int .u64 150] 152)).cell? ⟨0,0,none⟩=some (.iface 198 (.agg #[.pointer (some ⟨3,27,none⟩)])):=
  hg.below hB hgt
 have n8:=x56 ⟨w.heap.size,0,none⟩ ⟨tb,0,none⟩ ((w.alloc (.cells #[.pointer (some ⟨tb,0,none⟩)] 105)).alloc (.cells #[.pointer (some ⟨3,105,none⟩),.pointer (some ⟨w.heap.size,0,none⟩),.int .u64 150] 152)) e0
 have k:=wb6 c o w.heap.size tb old o2 ((w.alloc (.cells #[.pointer (some ⟨tb,0,none⟩)] 105)).alloc (.cells #[.pointer (some ⟨3,105,none⟩),.pointer (some ⟨w.heap.size,0,none⟩),.int .u64 150] 152))
  e0 (by simp;omega) (by rw [World.cell?_alloc_lt _ _ ⟨tb,0,none⟩ (by simp;omega),World.cell?_alloc_lt _ _ ⟨tb,0,none⟩ htl];exact ht)
  (by rw [World.frozen?_alloc_old _ _ ⟨tb,0,none⟩ (by simp;omega),World.frozen?_alloc_old _ _ ⟨tb,0,none⟩ (Nat.ne_of_lt htl)];exact hf) (by rw [World.cell?_alloc_lt _ _ ⟨tb,1,none⟩ (by simp;omega),World.cell?_alloc_lt _ _ ⟨tb,1,none⟩ htl];exact ht1)
  (by rw [World.frozen?_alloc_old _ _ ⟨tb,1,none⟩ (by simp;omega),World.frozen?_alloc_old _ _ ⟨tb,1,none⟩ (Nat.ne_of_lt htl)];exact hf1) (by simp;omega)
 have K:=qh k;clear k
 have HB:=qh hB;clear hB
 have Ht:=qh ht;clear ht
 have Hf:=qh hf;clear hf
 have Ht1:=qh ht1;clear ht1
 have Hf1:=qh hf1;clear hf1
 have Hg:=qh hg;clear hg
 have E0:=qh e0;clear e0
 obtain ⟨ty0,u0,hnn⟩:∃ t u,z88 c o = .iface t u:=by cases o <;> exact ⟨_,_,rfl⟩
 rw [hnn] at K ⊢
 clear hnn
 have f1:=yo7
 have f2:=xi1
 have f3:=xr3
 have f4:=x53
 have f5:=x54
 have f6:=xr1
 have f7:=x55
 have f8:=xr2
 have f9:=xi2
 go_enter Tryz.func71,Tryz.ntmps71
 go_wp2_with fail
 refine K.out.mono ?_
 intro e w' he
 cases o with
 | none =>
   obtain ⟨rfl,hb⟩:=he
   have Hb:=qh hb;clear hb
   go_wp2_with fail
   go_ret
   exact ⟨rfl,HB.out.trans Hb.out⟩
 | some o =>
   obtain ⟨rfl,hb,hc0,hc1⟩:=he
   have Hb:=qh hb;clear hb
   have Hc0:=qh hc0;clear hc0
   have Hc1:=qh hc1;clear hc1
   go_wp2_with fail
   go_ret
   exact ⟨rfl,HB.out.trans Hb.out,Hc0.out,Hc1.out⟩
theorem xi3 (c:Int) (o:Option Int) (w:World) (hg:z43 w) :
 Calls Tryz.prog 38 #[z88 c o] w fun e w'=>e = .returned (.tuple #[.int .i64 c,.bool true])∧Below w.heap.size w w':=by
 have hB:Below w.heap.size w (w.alloc (.cells #[.int .i64 0] 31)):=(Below.refl _ _).alloc (Nat.le_refl _) _
 have k:=wo5 c o w.heap.size (.int .i64 0) (w.alloc (.cells #[.int .i64 0] 31)) (hg.here hB) (by simp) (by simp) hg.lt
 have K:=qh k;clear k
 have HB:=qh hB;clear hB
 have Hg:=qh hg;clear hg
 obtain ⟨ty0,u0,hnn⟩:∃ t u,z88 c o = .iface t u:=by cases o <;> exact ⟨_,_,rfl⟩
 rw [hnn] at K ⊢
 clear hnn
 go_enter_defers Tryz.func38,Tryz.ntmps38
 go_wp2_with fail
 refine K.out.mono ?_
 rintro e w' ⟨rfl,hb,hc⟩
 have Hb:=qh hb;clear hb
 go_wp2_with fail
 refine leaves_cons (f:=70) (args:=#[]) (by simp) (by simp [go_sem]) ?_
 refine (w00 _).mono ?_
 rintro e u' w'' ⟨rfl,rfl,rfl⟩
 exact ⟨.tuple #[.int .i64 c,.bool true],by simp [results,Tryz.results38,go_sem],rfl,HB.out.trans Hb.out⟩
def yg2 (b:Option (Int × Option Int)) (w:World) (e:Ending) (w':World):Prop:=
 Below w.heap.size w w'∧match b with
  | some (c,some x)=>e = .returned (.tuple #[.agg #[.int .i64 c,.int .i64 x],.bool true])
  | _=>e = .returned (.tuple #[.agg #[.int .i64 0,.int .i64 0],.bool false])
theorem yb8 (w:World):Calls Tryz.prog 39 #[.nilIface] w (yg2 none w):=by
 go_enter_defers Tryz.func39,Tryz.ntmps39
 go_wp2_with fail
 refine (wx5 _ _).mono ?_
 rintro e w' ⟨rfl,rfl⟩
 go_wp2_with fail
 refine leaves_cons (f:=72) (args:=#[]) (by simp) (by simp [go_sem]) ?_
 refine (zx9 _).mono ?_
 rintro e u' w'' ⟨rfl,rfl,rfl⟩
 refine ⟨.tuple #[.agg #[.int .i64 0,.int .i64 0],.bool false],by simp [results,Tryz.results39,go_sem],?_,rfl⟩
 exact ((Below.refl _ _).alloc (Nat.le_refl _) _).alloc (by simp) _
theorem y90 (c:Int) (o:Option Int) (w:World) (hg:z43 w) :
 Calls Tryz.prog 39 #[z88 c o] w (yg2 (some (c,o)) w):=by
 have hB1:Below w.heap.size w (w.alloc (.cells #[.int .i64 0,.int .i64 0] 76)):=(Below.refl _ _).alloc (Nat.le_refl _) _
 have hB:Below w.heap.size w ((w.alloc (.cells #[.int .i64 0,.int .i64 0] 76)).alloc (.cells #[.int .i64 0,.int .i64 0] 76)):=hB1.alloc (by simp) _
 have k:=wb7 c o (w.heap.size+1) (.int .i64 0) (.int .i64 0) ((w.alloc (.cells #[.int .i64 0,.int .i64 0] 76)).alloc (.cells #[.int .i64 0,.int .i64 0] 76)) (hg.here hB) (by simp) (by simp) (by simp) (by simp) (by have:=hg.lt;omega)
 have K:=qh k;clear k
 have HB:=qh hB;clear hB
 have HB1:=qh hB1;clear hB1
 obtain ⟨ty0,u0,hnn⟩:∃ t u,z88 c o = .iface t u:=by cases o <;> exact ⟨_,_,rfl⟩
 rw [hnn] at K ⊢
 clear hnn
 have Hg:=qh hg;clear hg
 go_enter_defers Tryz.func39,Tryz.ntmps39
 go_wp2_with fail
 refine K.out.mono ?_
 intro e w' he
 have old:∀ (w':World),Below (w.heap.size+1) ((w.alloc (.cells #[.int .i64 0,.int .i64 0] 76)).alloc (.cells #[.int .i64 0,.int .i64 0] 76)) w' →
  w'.cell? ⟨w.heap.size,0,none⟩=some (.int .i64 0)∧w'.cell? ⟨w.heap.size,1,none⟩=some (.int .i64 0)∧w'.frozen? ⟨w.heap.size,0,none⟩=false∧w'.frozen? ⟨w.heap.size,1,none⟩=false:=by
  intro w' hb
  refine ⟨?_,?_,?_,?_⟩
  ·rw [hb.cell (p:=⟨w.heap.size,0,none⟩) (by simp)];simp
  ·rw [hb.cell (p:=⟨w.heap.size,1,none⟩) (by simp)];simp
  ·rw [hb.frozen (p:=⟨w.heap.size,0,none⟩) (by simp)];simp
  ·rw [hb.frozen (p:=⟨w.heap.size,1,none⟩) (by simp)];simp
 rcases o with _ | o
 ·obtain ⟨rfl,hb⟩:=he
  obtain ⟨o0,o1,o2,o3⟩:=old _ hb
  clear old
  have Hb:=qh hb;clear hb
  go_wp2_with fail
  refine leaves_cons (f:=72) (args:=#[]) (by simp) (by simp [go_sem]) ?_
  refine (zx9 _).mono ?_
  rintro e u' w'' ⟨rfl,rfl,rfl⟩
  have hcs:=y51 w' w.heap.size (.int .i64 0) (.int .i64 0) _ _ o0 o1
  exact ⟨.tuple #[.agg #[.int .i64 0,.int .i64 0],.bool false],by simp [results,Tryz.results39,go_sem,hcs.1,hcs.2],
   ((HB.out.trans (Hb.out.mono (Nat.le_succ _))).setCell (p:=⟨w.heap.size,0,none⟩) (Nat.le_refl _) _).setCell (p:=⟨w.heap.size,1,none⟩) (Nat.le_refl _) _,rfl⟩
 ·obtain ⟨rfl,hb,hc0,hc1⟩:=he
  obtain ⟨o0,o1,o2,o3⟩:=old _ hb
  clear old
  have Hb:=qh hb;clear hb
  go_wp2_with fail
  refine leaves_cons (f:=72) (args:=#[]) (by simp) (by simp [go_sem]) ?_
  refine (zx9 _).mono ?_
  rintro e u' w'' ⟨rfl,rfl,rfl⟩
  have hcs:=y51 w' w.heap.size (.int .i64 c) (.int .i64 o) _ _ o0 o1
  exact ⟨.tuple #[.agg #[.int .i64 c,.int .i64 o],.bool true],by simp [results,Tryz.results39,go_sem,hcs.1,hcs.2],
   ((HB.out.trans (Hb.out.mono (Nat.le_succ _))).setCell (p:=⟨w.heap.size,0,none⟩) (Nat.le_refl _) _).setCell (p:=⟨w.heap.size,1,none⟩) (Nat.le_refl _) _,rfl⟩
theorem zo5 (e:Option (Int × Option Int)) (w:World) (hg:z43 w) :
 Calls Tryz.prog 13 #[za0 e] w (yh1 (o9 e) w):=by
 cases e with
 | none =>
   unfold za0
   go_enter Tryz.func13,Tryz.ntmps13
   go_wp2_with fail
   go_ret
   exact ⟨rfl,Below.refl _ _⟩
 | some b =>
   obtain ⟨c,o⟩:=b
   have k:=xi3 c o w hg
   have K:=qh k;clear k
   have Hg:=qh hg;clear hg
   show Calls Tryz.prog 13 #[z88 c o] w _
   obtain ⟨ty0,u0,hnn⟩:∃ t u,z88 c o = .iface t u:=by cases o <;> exact ⟨_,_,rfl⟩
   rw [hnn] at K ⊢
   clear hnn
   go_enter Tryz.func13,Tryz.ntmps13
   go_wp2_with fail
   refine K.out.mono ?_
   rintro e w' ⟨rfl,hb⟩
   have Hb:=qh hb;clear hb
   go_wp2_with fail
   go_ret
   exact ⟨rfl,Hb.out⟩
theorem xy9 (e:Option (Int × Option Int)) (w:World) (hg:z43 w) :
 Calls Tryz.prog 39 #[za0 e] w (fun en w'=>Below w.heap.size w w'∧en = .returned (match atE e with
  | some a => .tuple #[.agg #[.int .i64 (o9 e),.int .i64 a],.bool true]
  | none => .tuple #[.agg #[.int .i64 0,.int .i64 0],.bool false])):=by
 rcases e with _ | ⟨c,_ | o⟩
 ·exact (yb8 w).mono fun en w' he=>he
 ·exact (y90 c none w hg).mono fun en w' he=>he
 ·exact (y90 c (some o) w hg).mono fun en w' he=>he
theorem wx6 (e:Option (Int × Option Int)) (w:World) (hg:z43 w) :
 Calls Tryz.prog 14 #[za0 e] w (yh1 ((atE e).getD (-1)) w):=by
 have k:=xy9 e w hg
 have K:=qh k;clear k
 have Hg:=qh hg;clear hg
 go_enter Tryz.func14,Tryz.ntmps14
 go_wp2_with fail
 refine K.out.mono ?_
 intro en w' ⟨hb,he⟩
 have Hb:=qh hb;clear hb
 cases ha:atE e with
 | none =>
   rw [ha] at he
   subst he
   have Ha:=qh ha;clear ha
   go_wp2_with fail
   go_ret
   exact ⟨by simp [Ha.out],Hb.out.trans (((Below.refl _ _).alloc (Nat.le_refl _) _).mono Hb.out.size)⟩
 | some a =>
   rw [ha] at he
   subst he
   have Ha:=qh ha;clear ha
   go_wp2_with fail
   go_ret
   exact ⟨by simp [Ha.out],Hb.out.trans (((Below.refl _ _).alloc (Nat.le_refl _) _).mono Hb.out.size)⟩
end
end Go.Proofs.YtchndljcahjldaaGreatDoor
