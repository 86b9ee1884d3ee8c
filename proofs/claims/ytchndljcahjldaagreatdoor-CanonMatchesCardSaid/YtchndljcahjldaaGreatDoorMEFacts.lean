/- Closed facts on the entries for internal/reflectlite that errors.As comes to, at targets of type *api.Errno and *api.Fault. -/
import Derived.Test.YtchndljcahjldaaGreatDoorMLaw
namespace Go.Proofs.YtchndljcahjldaaGreatDoor
set_option maxRecDepth 100000
set_option maxHeartbeats 4000000
section
open Go.RowKit Go.Extern.Stop Go.Stop Go.Extern
theorem w94 (x:Array Value) (w:World):(callFunc 164 #[.iface 76 (.agg x)]).run Tryz.prog w = .ok (.value (.iface 198 (.agg #[.pointer (some ⟨3,76,none⟩)]))) w:=by kernel_rfl
theorem yw2 (t:Addr) (w:World):(callFunc 122 #[.iface 104 (.pointer (some t))]).run Tryz.prog w
 = .ok (.value (.agg #[.pointer (some ⟨3,104,none⟩),.pointer (some ⟨w.heap.size,0,none⟩),.int .u64 150])) (w.alloc (.cells #[.pointer (some t)] 104)):=by kernel_rfl
theorem xy4 (a:Addr) (w:World):(callFunc 123 #[.agg #[.pointer (some ⟨3,104,none⟩),.pointer (some a),.int .u64 150]]).run Tryz.prog w
 = .ok (.value (.iface 198 (.agg #[.pointer (some ⟨3,104,none⟩)]))) w:=by kernel_rfl
theorem xh4 (w:World):(callFunc 304 #[.pointer (some ⟨3,104,none⟩)]).run Tryz.prog w = .ok (.value (.int .u8 22)) w:=by kernel_rfl
theorem xh5 (w:World):(callFunc 304 #[.pointer (some ⟨3,31,none⟩)]).run Tryz.prog w = .ok (.value (.int .u8 2)) w:=by kernel_rfl
theorem xh6 (w:World):(callFunc 316 #[.agg #[.pointer (some ⟨3,104,none⟩)]]).run Tryz.prog w = .ok (.value (.iface 198 (.agg #[.pointer (some ⟨3,31,none⟩)]))) w:=by kernel_rfl
theorem xy5 (w:World):(callFunc 317 #[.agg #[.pointer (some ⟨3,31,none⟩)],.iface 198 (.agg #[.pointer (some ⟨3,27,none⟩)])]).run Tryz.prog w = .ok (.value (.bool true)) w:=by kernel_rfl
theorem yf8 (w:World):(callFunc 314 #[.agg #[.pointer (some ⟨3,76,none⟩)],.iface 198 (.agg #[.pointer (some ⟨3,31,none⟩)])]).run Tryz.prog w = .ok (.value (.bool false)) w:=by kernel_rfl
theorem yo0 (w:World):(callFunc 314 #[.agg #[.pointer (some ⟨3,31,none⟩)],.iface 198 (.agg #[.pointer (some ⟨3,31,none⟩)])]).run Tryz.prog w = .ok (.value (.bool true)) w:=by kernel_rfl
theorem y88 (a:Addr) (w:World):(ReflectliteValue.parts (.agg #[.pointer (some ⟨3,104,none⟩),.pointer (some a),.int .u64 150])).run Tryz.prog w = .ok (some (104,a,150)) w:=by kernel_rfl
theorem x45 (a:Addr) (w:World):(ReflectliteValue.parts (.agg #[.pointer (some ⟨3,31,none⟩),.pointer (some a),.int .u64 130])).run Tryz.prog w = .ok (some (31,a,130)) w:=by kernel_rfl
theorem x46 (a:Addr) (w:World):(ReflectliteValue.parts (.agg #[.pointer (some ⟨3,31,none⟩),.pointer (some a),.int .u64 386])).run Tryz.prog w = .ok (some (31,a,386)) w:=by kernel_rfl
theorem yw3 (w:World):(Rtype.elem? 104).run Tryz.prog w = .ok (some 31) w:=by kernel_rfl
theorem w95 (p:Addr) (w:World):(ReflectliteValue.mk 31 p ReflectliteValue.flagAddr).run Tryz.prog w = .ok (.agg #[.pointer (some ⟨3,31,none⟩),.pointer (some p),.int .u64 386]) w:=by kernel_rfl
theorem x47 (w:World):(Rtype.directlyAssignable 31 31).run Tryz.prog w = .ok true w:=by kernel_rfl
theorem xh7 (a p:Addr) (W:World) (ha:W.cell? a=some (.pointer (some p))) :
 (callFunc 124 #[.agg #[.pointer (some ⟨3,104,none⟩),.pointer (some a),.int .u64 150]]).run Tryz.prog W = .ok (.value (.bool false)) W:=by
 have h:=@run_callFunc_extern Tryz.prog 124 _ (ReflectliteValue.method (ReflectliteValue.valueError "reflectlite.Value.IsNil" 0) ReflectliteValue.isNil) Tryz.func124 (by kernel_rfl) (by kernel_rfl) (by kernel_rfl) (by kernel_rfl)
 rw [h,show ReflectliteValue.method (ReflectliteValue.valueError "reflectlite.Value.IsNil" 0) ReflectliteValue.isNil #[.agg #[.pointer (some ⟨3,104,none⟩),.pointer (some a),.int .u64 150]]=(ReflectliteValue.parts (.agg #[.pointer (some ⟨3,104,none⟩),.pointer (some a),.int .u64 150]) >>= fun x=>_) from rfl]
 simp only [Sem.run_bind,y88,Result.andThen]
 simp [ReflectliteValue.isNil,loadVar,isAgg,underlying,Tryz.underlying104,ha,Result.andThen]
theorem xh8 (a p:Addr) (W:World) (ha:W.cell? a=some (.pointer (some p))) :
 (callFunc 165 #[.agg #[.pointer (some ⟨3,104,none⟩),.pointer (some a),.int .u64 150]]).run Tryz.prog W
   = .ok (.value (.agg #[.pointer (some ⟨3,31,none⟩),.pointer (some p),.int .u64 386])) W:=by
 have h:=@run_callFunc_extern Tryz.prog 165 _ (ReflectliteValue.method (ReflectliteValue.valueError "reflectlite.Value.Elem" 0) ReflectliteValue.elem) Tryz.func165 (by kernel_rfl) (by kernel_rfl) (by kernel_rfl) (by kernel_rfl)
 rw [h,show ReflectliteValue.method (ReflectliteValue.valueError "reflectlite.Value.Elem" 0) ReflectliteValue.elem #[.agg #[.pointer (some ⟨3,104,none⟩),.pointer (some a),.int .u64 150]]=(ReflectliteValue.parts (.agg #[.pointer (some ⟨3,104,none⟩),.pointer (some a),.int .u64 150]) >>= fun x=>_) from rfl]
 simp only [Sem.run_bind,y88,Result.andThen]
 simp [ReflectliteValue.elem,loadVar,isAgg,underlying,Tryz.underlying104,ha,Result.andThen,yw3,w95]
theorem yo1 (c:Int) (w:World):(callFunc 122 #[.iface 31 (.int .i64 c)]).run Tryz.prog w
 = .ok (.value (.agg #[.pointer (some ⟨3,31,none⟩),.pointer (some ⟨w.heap.size,0,none⟩),.int .u64 130])) (w.alloc (.cells #[.int .i64 c] 31)):=by kernel_rfl
theorem w96 (ta b:Addr) (c:Int) (old:Value) (W:World) (hb:W.cell? b=some (.int .i64 c)) (ht:W.cell? ta=some old) (hf:W.frozen? ta=false) :
 (callFunc 166 #[.agg #[.pointer (some ⟨3,31,none⟩),.pointer (some ta),.int .u64 386],.agg #[.pointer (some ⟨3,31,none⟩),.pointer (some b),.int .u64 130]]).run Tryz.prog W
   = .ok (.value (.tuple #[])) (W.setCell ta (.int .i64 c)):=by
 have h:=@run_callFunc_extern Tryz.prog 166 _ ReflectliteValue.set Tryz.func166 (by kernel_rfl) (by kernel_rfl) (by kernel_rfl) (by kernel_rfl)
 rw [h,show ReflectliteValue.set #[.agg #[.pointer (some ⟨3,31,none⟩),.pointer (some ta),.int .u64 386],.agg #[.pointer (some ⟨3,31,none⟩),.pointer (some b),.int .u64 130]]=(ReflectliteValue.parts (.agg #[.pointer (some ⟨3,31,none⟩),.pointer (some ta),.int .u64 386]) >>= fun x=>ReflectliteValue.parts (.agg #[.pointer (some ⟨3,31,none⟩),.pointer (some b),.int .u64 130]) >>= fun y=>_) from rfl]
 simp only [Sem.run_bind,x46,x45,Result.andThen]
 simp [ReflectliteValue.flagAddr,loadVar,isAgg,underlying,Tryz.underlying31,hb,Result.andThen,x47,storeVar,Value.cells,storeCells,Addr.add]
 rw [run_store Tryz.prog W ta _ _ (by rfl)]
 simp [ht,hf]
def w97 (c:Int) (tb:Nat) (w:World) (e:Ending) (w':World):Prop:=
 e = .returned (.bool true)∧Below tb w w'∧w'.cell? ⟨tb,0,none⟩=some (.int .i64 c)
def w98 (P:TypeId) (k a tb:Nat) (old:Value) (wr:World):Prop:=
 wr.cell? ⟨k,0,none⟩=some (.pointer (some ⟨3,P,none⟩))∧wr.cell? ⟨k,1,none⟩=some (.pointer (some ⟨a,0,none⟩))∧wr.cell? ⟨k,2,none⟩=some (.int .u64 150) ∧
 wr.cell? ⟨a,0,none⟩=some (.pointer (some ⟨tb,0,none⟩))∧wr.cell? ⟨tb,0,none⟩=some old∧wr.frozen? ⟨tb,0,none⟩=false∧k<wr.heap.size∧a<wr.heap.size∧tb<wr.heap.size
theorem w98.alloc {P:TypeId} {k a tb:Nat} {old:Value} {wr:World} (h:w98 P k a tb old wr) (o:Obj):w98 P k a tb old (wr.alloc o):=by
 obtain ⟨h1,h2,h3,h4,h5,h6,h7,h8,h9⟩:=h
 refine ⟨?_,?_,?_,?_,?_,?_,?_,?_,?_⟩
 ·rw [World.cell?_alloc_lt _ _ ⟨k,0,none⟩ h7];exact h1
 ·rw [World.cell?_alloc_lt _ _ ⟨k,1,none⟩ h7];exact h2
 ·rw [World.cell?_alloc_lt _ _ ⟨k,2,none⟩ h7];exact h3
 ·rw [World.cell?_alloc_lt _ _ ⟨a,0,none⟩ h8];exact h4
 ·rw [World.cell?_alloc_lt _ _ ⟨tb,0,none⟩ h9];exact h5
 ·rw [World.frozen?_alloc_old _ _ ⟨tb,0,none⟩ (Nat.ne_of_lt h9)];exact h6
 ·simp;omega
 ·simp;omega
 ·simp;omega
def ww1 (c:Int) (o:Option Int) (k:Nat) (p:Value):Prop:=∃ o',p=zo8 c o'∧(o'=o∨o'=none)∧(match o' with | some _=>2 | none=>1)≤k
theorem wo0 (c:Int) (o:Option Int) (a tb:Nat) (old:Value) (w:World)
 (ha:w.cell? ⟨a,0,none⟩=some (.pointer (some ⟨tb,0,none⟩))) (hal:a<w.heap.size) (ht:w.cell? ⟨tb,0,none⟩=some old) (hf:w.frozen? ⟨tb,0,none⟩=false) (htl:tb<w.heap.size) :
 Calls Tryz.prog 125 #[zo8 c o,.iface 104 (.pointer (some ⟨tb,0,none⟩)),.agg #[.pointer (some ⟨3,104,none⟩),.pointer (some ⟨a,0,none⟩),.int .u64 150],.iface 198 (.agg #[.pointer (some ⟨3,31,none⟩)])] w (w97 c tb w):=by
 have hH:w98 104 w.heap.size a tb old (w.alloc (.cells #[.pointer (some ⟨3,104,none⟩),.pointer (some ⟨a,0,none⟩),.int .u64 150] 152)):=by
  refine ⟨by simp,by simp,by simp,?_,?_,?_,by simp,by simp;omega,by simp;omega⟩
  ·rw [World.cell?_alloc_lt _ _ ⟨a,0,none⟩ hal];exact ha
  ·rw [World.cell?_alloc_lt _ _ ⟨tb,0,none⟩ htl];exact ht
  ·rw [World.frozen?_alloc_old _ _ ⟨tb,0,none⟩ (Nat.ne_of_lt htl)];exact hf
 have hB:Below tb w (w.alloc (.cells #[.pointer (some ⟨3,104,none⟩),.pointer (some ⟨a,0,none⟩),.int .u64 150] 152)):=(Below.refl _ _).alloc (Nat.le_of_lt htl) _
 have Ha:=qh ha;clear ha
 have Ht:=qh ht;clear ht
 have Hf:=qh hf;clear hf
 have HH:=qh hH;clear hH
 have HB:=qh hB;clear hB
 have y2:=w94
 have y4:=x72
 have z0:=xz8
 have z2:=yf8
 have z4:=yo0
 have m2:=wc7
 have i2:=xj2
 have g2:=x71
 have v1:=yo1
 obtain ⟨ty0,u0,hnn⟩:∃ t u,zo8 c o = .iface t u:=by cases o <;> exact ⟨_,_,rfl⟩
 have Hs:ww1 c o 2 (.iface ty0 u0):=⟨o,hnn.symm,.inl rfl,by cases o <;> simp⟩
 have HS:=qh Hs;clear Hs
 rw [hnn]
 clear hnn
 go_enter Tryz.func125,Tryz.ntmps125
 go_wp2_with fail
 go_loopg [0] 2 (fun k p wr=>ww1 c o k p∧Below tb w wr∧w98 104 w.heap.size a tb old wr)
 case atStart=>exact ⟨HS.out,HB.out,HH.out⟩
 case round =>
  obtain ⟨⟨o',hv,ho,hk⟩,hb,hh⟩:=hrel
  have Hk:=qh hk;clear hk
  have Ho:=qh ho;clear ho
  have Hb:=qh hb;clear hb
  have Hh:=qh hh
  obtain ⟨c0,c1,c2,ca,ct,cf,l1,l2,l3⟩:=hh
  cases o' with
  | none =>
    obtain rfl:_=Value.iface 31 (.int .i64 c):=hv
    have e1:=xh8 ⟨a,0,none⟩ ⟨tb,0,none⟩ wr ca
    have e2:=w96 ⟨tb,0,none⟩ ⟨wr.heap.size,0,none⟩ c old (wr.alloc (.cells #[.int .i64 c] 31)) (by simp)
     (by rw [World.cell?_alloc_lt _ _ ⟨tb,0,none⟩ l3];exact ct) (by rw [World.frozen?_alloc_old _ _ ⟨tb,0,none⟩ (Nat.ne_of_lt l3)];exact cf)
    go_wp2_with fail
    go_ret
    have hsz:(wr.setCell ⟨tb,0,none⟩ (.int .i64 c)).heap.size=wr.heap.size:=by simp [World.setCell]
    refine ⟨rfl,(Hb.out.setCell (p:=⟨tb,0,none⟩) (Nat.le_refl _) _).alloc (by rw [hsz];omega) _,?_⟩
    rw [World.cell?_alloc_lt _ _ ⟨tb,0,none⟩ (by rw [hsz];exact l3)]
    exact World.cell?_setCell_same' _ _ _ (by rw [ct];rfl)
  | some a0 =>
    obtain rfl:_=Value.iface 76 (.agg #[.int .i64 c,.int .i64 a0]):=hv
    go_wp2_with fail
    refine (yx2 c a0 _).mono ?_
    rintro e w' ⟨rfl,rfl⟩
    unfold zo8
    go_wp2_with fail
    have Hk':2≤gk:=Hk.out
    go_roundg 1
    case measure=>omega
    case rel=>exact ⟨⟨none,rfl,.inr rfl,by simp⟩,Hb.out.alloc (Nat.le_of_lt l3) _,Hh.out.alloc _⟩
theorem wo1 (c:Int) (o:Option Int) (tb:Nat) (old:Value) (w:World) (hg:z82 w)
 (ht:w.cell? ⟨tb,0,none⟩=some old) (hf:w.frozen? ⟨tb,0,none⟩=false) (hgt:0<tb) :
 Calls Tryz.prog 71 #[zo8 c o,.iface 104 (.pointer (some ⟨tb,0,none⟩))] w (w97 c tb w):=by
 have htl:tb<w.heap.size:=World.block_lt_of_cell? w _ ht
 have hB:Below tb w ((w.alloc (.cells #[.pointer (some ⟨tb,0,none⟩)] 104)).alloc (.cells #[.pointer (some ⟨3,104,none⟩),.pointer (some ⟨w.heap.size,0,none⟩),.int .u64 150] 152)):=
  ((Below.refl _ _).alloc (Nat.le_of_lt htl) _).alloc (by simp;omega) _
 have e0:((w.alloc (.cells #[.pointer (some ⟨tb,0,none⟩)] 104)).alloc (.cells #[.pointer (some ⟨3,104,none⟩),.pointer (some ⟨w.heap.size,0,none⟩),.int .u64 150] 152)).cell? ⟨w.heap.size,0,none⟩=some (.pointer (some ⟨tb,0,none⟩)):=by
  rw [World.cell?_alloc_lt _ _ ⟨w.heap.size,0,none⟩ (by simp)];simp
 have hg2:((w.alloc (.cells #[.pointer (some ⟨tb,0,none⟩)] 104)).alloc (.cells #[.pointer (some ⟨3,104,none⟩),.pointer (some ⟨w.heap.size,0,none⟩),.int .u64 150] 152)).cell? ⟨0,0,none⟩=some (.iface 198 (.agg #[.pointer (some ⟨3,27,none⟩)])):=
  hg.below hB hgt
 have n8:=xh7 ⟨w.heap.size,0,none⟩ ⟨tb,0,none⟩ ((w.alloc (.cells #[.pointer (some ⟨tb,0,none⟩)] 104)).alloc (.cells #[.pointer (some ⟨3,104,none⟩),.pointer (some ⟨w.heap.size,0,none⟩),.int .u64 150] 152)) e0
 have k:=wo0 c o w.heap.size tb old ((w.alloc (.cells #[.pointer (some ⟨tb,0,none⟩)] 104)).alloc (.cells #[.pointer (some ⟨3,104,none⟩),.pointer (some ⟨w.heap.size,0,none⟩),.int .u64 150] 152))
  e0 (by simp;omega) (by rw [World.cell?_alloc_lt _ _ ⟨tb,0,none⟩ (by simp;omega),World.cell?_alloc_lt _ _ ⟨tb,0,none⟩ htl];exact ht)
  (by rw [World.frozen?_alloc_old _ _ ⟨tb,0,none⟩ (by simp;omega),World.frozen?_alloc_old _ _ ⟨tb,0,none⟩ (Nat.ne_of_lt htl)];exact hf) (by simp;omega)
 have K:=qh k;clear k
 have HB:=qh hB;clear hB
 have Ht:=qh ht;clear ht
 have Hf:=qh hf;clear hf
 have Hg:=qh hg;clear hg
 have E0:=qh e0;clear e0
 obtain ⟨ty0,u0,hnn⟩:∃ t u,zo8 c o = .iface t u:=by cases o <;> exact ⟨_,_,rfl⟩
 rw [hnn] at K ⊢
 clear hnn
 have f1:=yw2
 have f2:=xy4
 have f3:=wp7
 have f4:=xh4
 have f5:=xh5
 have f6:=wp5
 have f7:=xh6
 have f8:=wp6
 have f9:=xy5
 go_enter Tryz.func71,Tryz.ntmps71
 go_wp2_with fail
 refine K.out.mono ?_
 intro e w' he
 obtain ⟨rfl,hb,hc⟩:=he
 have Hb:=qh hb;clear hb
 have Hc:=qh hc;clear hc
 go_wp2_with fail
 go_ret
 exact ⟨rfl,HB.out.trans Hb.out,Hc.out⟩
theorem xh9 (c:Int) (o:Option Int) (w:World) (hg:z82 w) :
 Calls Tryz.prog 38 #[zo8 c o] w fun e w'=>e = .returned (.tuple #[.int .i64 c,.bool true])∧Below w.heap.size w w':=by
 have hB:Below w.heap.size w (w.alloc (.cells #[.int .i64 0] 31)):=(Below.refl _ _).alloc (Nat.le_refl _) _
 have k:=wo1 c o w.heap.size (.int .i64 0) (w.alloc (.cells #[.int .i64 0] 31)) (hg.here hB) (by simp) (by simp) hg.lt
 have K:=qh k;clear k
 have HB:=qh hB;clear hB
 have Hg:=qh hg;clear hg
 obtain ⟨ty0,u0,hnn⟩:∃ t u,zo8 c o = .iface t u:=by cases o <;> exact ⟨_,_,rfl⟩
 rw [hnn] at K ⊢
 clear hnn
 go_enter_defers Tryz.func38,Tryz.ntmps38
 go_wp2_with fail
 refine K.out.mono ?_
 rintro e w' ⟨rfl,hb,hc⟩
 have Hb:=qh hb;clear hb
 go_wp2_with fail
 refine leaves_cons (f:=70) (args:=#[]) (by simp) (by simp [go_sem]) ?_
 refine (xz9 _).mono ?_
 rintro e u' w'' ⟨rfl,rfl,rfl⟩
 exact ⟨.tuple #[.int .i64 c,.bool true],by simp [results,Tryz.results38,go_sem],rfl,HB.out.trans Hb.out⟩
theorem zz2 (e:Option (Int × Option Int)) (w:World) (hg:z82 w) :
 Calls Tryz.prog 13 #[zj1 e] w (wc8 (c5 e) w):=by
 cases e with
 | none =>
   unfold zj1
   go_enter Tryz.func13,Tryz.ntmps13
   go_wp2_with fail
   go_ret
   exact ⟨rfl,Below.refl _ _⟩
 | some b =>
   obtain ⟨c,o⟩:=b
   have k:=xh9 c o w hg
   have K:=qh k;clear k
   have Hg:=qh hg;clear hg
   show Calls Tryz.prog 13 #[zo8 c o] w _
   obtain ⟨ty0,u0,hnn⟩:∃ t u,zo8 c o = .iface t u:=by cases o <;> exact ⟨_,_,rfl⟩
   rw [hnn] at K ⊢
   clear hnn
   go_enter Tryz.func13,Tryz.ntmps13
   go_wp2_with fail
   refine K.out.mono ?_
   rintro e w' ⟨rfl,hb⟩
   have Hb:=qh hb;clear hb
   go_wp2_with fail
   go_ret
   exact ⟨rfl,Hb.out⟩
end
end Go.Proofs.YtchndljcahjldaaGreatDoor
