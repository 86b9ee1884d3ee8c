/- The example of chapter 12, in every state. Conditions: the fixed table of package math/bits. -/
import Derived.Test.YtchndljcahjldaaGreatDoorMZGrpM
import Derived.Test.YtchndljcahjldaaGreatDoorRows
import Derived.Test.YtchndljcahjldaaGreatDoorCards
import Derived.Test.YtchndljcahjldaaGreatDoorTie
import Derived.SevenTiedAt
import Derived.ChangeCalls
import Derived.LaidSub
import Derived.Lay
namespace Go.Proofs.YtchndljcahjldaaGreatDoor
section
open Go.RowKit
theorem zy3 {F:t8} (hs:z58 F):midI (s5 F):=by
 have h1:=y91 F
 have h2:=ze4 (n:=20) F fun x hx=>(hs.2 x hx).1
 have h3:=hs.1
 have h4:(flatK (s5 F)).length=(r7 F).length:=by
  unfold s5 flatK
  induction r7 F with
  | nil=>rfl
  | cons p P ih=>rw [List.map_cons,List.flatMap_cons,List.length_append,ih,List.length_cons];simp;omega
 refine ⟨by unfold s5;rw [List.length_map];omega,by omega⟩
theorem xv0 {t:Int}:∀ {l:List Iv},l.Pairwise (fun a b=>a.2<b.1)→(l.filter fun s=>inI s t).length=if y9 l t=true then 1 else 0
 | [],_=>rfl
 | s :: l,h=>by
   obtain ⟨h1,h2⟩:=List.pairwise_cons.1 h
   have ih:=xv0 (t:=t) h2
   have e:y9 (s :: l) t=(inI s t || y9 l t):=rfl
   rw [List.filter_cons,e]
   cases hs:inI s t with
   | false=>rw [if_neg (by simp),ih];rfl
   | true =>
     have h0:y9 l t=false:=by
      cases hh:y9 l t with
      | false=>rfl
      | true =>
        obtain ⟨y,hy,k1,k2⟩:=(t7 l t).1 hh
        have:=h1 y hy
        unfold inI at hs
        grind
     grind
end
section
open Go.ChangeShapes Go.WideShapes Go.RowKit
variable {W:World} {n:String}
theorem own:ownKnob Tryz.prog.godebug=none:=by kernel_rfl
theorem et:Tryz.prog.globalNamed "errors.errorType" = some 0:=by kernel_rfl
theorem wu4:laidOutB Tryz.prog=true:=by kernel_rfl
noncomputable def zl8:List (String × DataW Unit):=Rows.canonDenotesRow.laid
noncomputable def zp3:List (String × DataW Unit):=zl8.filter fun x=>x.2.handleName?.isNone
theorem v21 {P:Program} {g:Nat} {cs:Array Value} (hg:P.globalNamed n=some g) (h:W.var? P n=some cs):g<W.heap.size:=by
 unfold World.var? at h
 simp only [hg,Option.bind_some] at h
 rcases Nat.lt_or_ge g W.heap.size with h' | h'
 ·exact h'
 ·simp [Array.getElem?_eq_none h'] at h
theorem wj2 {d:DataW Unit} (h:laidMet Tryz.prog zp3 W) (hd:(zp3.filter fun x=>x.1 == n) = [(n,d)]):laidMet Tryz.prog [(n,d)] W:=by
 have h':=h.filter (fun x=>x.1 == n)
 rw [hd] at h'
 exact h'
theorem xd5 (h:laidMetH Tryz.prog zl8 W):zz9 W:=by
 obtain ⟨h1,_⟩:=laidMetH_iff.1 h
 have h1':laidMet Tryz.prog zp3 W:=h1
 intro W' hb
 have hp:Deb W:=Lib.tabIs_of_head (k := .u8) (zs:=yw8) (rest := []) wo3 (by kernel_rfl) Tryz.underlying284 Tryz.underlying5 (by kernel_rfl) (by kernel_rfl)
  (wj2 h1' (d:=Lib.tabData .u8 yw8) (by kernel_rfl))
 exact var?_below hb wo3 (v21 wo3 hp) hp
noncomputable def yb3 (os:Os):World:=
 let w0:=World.holding Tryz.prog os ⟨#[],#[],[]⟩
 { w0 with heap:=w0.heap.modify 0 fun
  | .cells _ t frozen => .cells #[.iface 198 (.agg #[.pointer (some ⟨3,27,none⟩)])] t frozen
  | o=>o }
noncomputable def ze6 (os:Os):World:=(yb3 os).layVars Tryz.prog zp3
theorem x18 (os:Os):(ze6 os).os=os:=by
 unfold ze6
 rw [World.layVars_os]
 rfl
theorem yp1 (os:Os) (args:Array Value):laidMetH Tryz.prog zl8 ((ze6 os).forCall (fun _ _=>0) ⟨#[],args,[]⟩).memory:=by
 refine laidMetH_of_parts ?_ (by kernel_rfl)
 show laidMet Tryz.prog zp3 _
 have e1:(zp3.filter fun x=>(zp3.map (·.1)).contains x.1)=zp3:=List.filter_eq_self.2 fun x hx=>List.contains_iff_mem.2 (List.mem_map.2 ⟨x,hx,rfl⟩)
 have e2:(zp3.filter fun x => !(zp3.map (·.1)).contains x.1) = []:=List.filter_eq_nil_iff.2 fun x hx=>by rw [List.contains_iff_mem.2 (List.mem_map.2 ⟨x,hx,rfl⟩)];simp
 have h:laidMet Tryz.prog zp3 (ze6 os):=laidMet_layVars (w0:=yb3 os) (zp3.map (·.1)) [] (by rw [e1];rfl) (by rw [e1];kernel_rfl) (by rw [e1];kernel_rfl) (by rw [e2];exact LaidIn.none)
 exact h.of_heap (by simp [World.memory,World.forCall,Input.heap])
theorem y78 (os:Os) (args:Array Value):((ze6 os).forCall (fun _ _=>0) ⟨#[],args,[]⟩).Shaped Tryz.prog:=World.shaped_of_ZipB (by kernel_rfl) (by kernel_rfl)
set_option maxRecDepth 100000 in
theorem wj3 {G:World→Prop} (hG:∀ W,laidMetH Tryz.prog zl8 W→G W) {f:FuncId} {fn:Func} {s:ChangeSpec} {tb:TypeId} (os:Os) (started:os.Started) (H:Type) (enc:TypeId × Value→H)
 (hfn:Tryz.prog.funcs[f]? = some fn) (noInit:Tryz.prog.inits.idxOf? f=none) (hsv:s.vars = [])
 (hpar:∀ t ∈ fn.params.toList,Tryz.prog.readableRec t=true∧t<Tryz.prog.types.size) (hres:fn.resultTypes=#[tb]) (hbool:Tryz.prog.underlying tb=some .bool)
 (hspec:∀ ds:List (DataW H),ds.length=fn.params.toList.length→s.fn H (ds ++ [])={ results := [.lit (.bool true)],args:=ds })
 (witness:∃ (w:World) (tape:Tape) (i:Input),w.os=os∧(w.forCall tape i).Shaped Tryz.prog∧i.vars = []∧Input.okWide Tryz.prog (w.forCall tape i) .any w.heap.size f i ∧
   ((s.pre enc Tryz.prog fn [] false (w.forCall tape i).memory i.args∧laidMetH Tryz.prog zl8 (w.forCall tape i).memory)∧sizedMet enc Tryz.prog fn (OpenSpec.ofChange s) false (w.forCall tape i).memory i.args)∧({}:Assume).holds Tryz.prog (lone (Frame.enter Tryz.prog f i.args .normal) [] (w.forCall tape i)))
 (walk:∀ (W:World) (base:Nat) (args:Array Value) (ds:List (DataW H)) (p:List MemPlace),G W →
   (∀ (j:Nat) t v,fn.params[j]? = some t→args[j]? = some v→Value.okWide Tryz.prog W .any base t v) →
   DataW.TrodAll enc Tryz.prog W 0 (fun _=>true) true fn.params.toList args.toList ds p→(∀ x ∈ p,x.block<W.heap.size) →
   Calls Tryz.prog f args W (q8 true W)) :
 ReturnsInHanded {} Tryz.checked os f .any (fun w args=>(s.pre enc Tryz.prog fn [] false w args∧laidMetH Tryz.prog zl8 w)∧sizedMet enc Tryz.prog fn (OpenSpec.ofChange s) false w args)
  (s.post enc Tryz.prog fn false true false false):=by
 refine returnsInHanded_of_change_and (C:=Tryz.checked) (X:=fun w _=>laidMetH Tryz.prog zl8 w) (fun _ _ _ hh h=>h.of_heap hh) own started noInit hfn witness ?_
 intro W base args ds gs before hval hW _ _ hL _
 have hval':∀ (j:Nat) t v,fn.params[j]? = some t→args[j]? = some v→Value.okWide Tryz.prog W .any base t v:=hval
 have hW1:DataW.Whole enc Tryz.prog fn.params.toList s.vars false W args.toList ds gs before:=hW
 obtain ⟨p,q,hA,hV,rfl,hfz,hnd⟩:=hW1
 have hA':DataW.TrodAll enc Tryz.prog W 0 (fun _=>true) true fn.params.toList args.toList ds p:=hA
 have hV':DataW.TrodVars enc Tryz.prog W (fun _=>true) s.vars gs q:=hV
 rw [hsv] at hV'
 obtain ⟨rfl,rfl⟩:gs = []∧q = []:=by
  cases gs with
  | nil=>exact ⟨rfl,hV'⟩
  | cons g r=>exact absurd hV' (by intro h;cases h)
 have hlt:=hW.lt
 have hlen:ds.length=fn.params.toList.length:=(trodAll_length hA').2
 refine (walk W base args ds p (hG _ hL) hval' hA' (fun x hx=>hlt x (List.mem_append_left _ hx))).mono fun e W' he => ?_
 obtain ⟨he1,he2⟩:=he
 exact ⟨.bool true,he1,wc6 wu4 hsv hpar hres hbool hW (hspec ds hlen) he2⟩
theorem rtE:(Tryz.prog.cutTypes.find? (·.1 == "internal/reflectlite.rtype")).map (·.2)=some 198:=by kernel_rfl
theorem v23:((List.range Tryz.prog.types.size).filter fun t=>Tryz.prog.rowNamed t [101,114,114,111,114]) = [27]:=by kernel_rfl
theorem x19 (h:laidMetH Tryz.prog zl8 W):z82 W:=by
 obtain ⟨_,h2⟩:=laidMetH_iff.1 h
 have hm:("errors.errorType",Rows.laid_errors_errorType) ∈ zl8.filter fun x=>x.2.handleName?.isSome:=List.mem_filter.2 ⟨by simp [zl8,Rows.canonDenotesRow],by kernel_rfl⟩
 obtain ⟨name,u,ty,e1,e2,e3,e4,e5⟩:=h2 _ hm
 have en:name = [101,114,114,111,114]:=(Option.some.inj e1).symm
 subst en
 obtain rfl:=Option.some.inj (rtE.symm.trans e2)
 have hm:ty ∈ (List.range Tryz.prog.types.size).filter fun t=>Tryz.prog.rowNamed t [101,114,114,111,114]:=List.mem_filter.2 ⟨List.mem_range.2 e3,e4⟩
 rw [v23] at hm
 obtain rfl:=List.mem_singleton.1 hm
 have hh:typeHandle Tryz.prog 27 = .pointer (some ⟨3,27,none⟩):=by kernel_rfl
 rw [hh] at e5
 unfold z82
 simpa using World.var?_cell et e5 0
theorem x20 (h:laidMetH Tryz.prog zl8 W):zh3 W:=⟨x19 h,xd5 h⟩
end
end Go.Proofs.YtchndljcahjldaaGreatDoor
