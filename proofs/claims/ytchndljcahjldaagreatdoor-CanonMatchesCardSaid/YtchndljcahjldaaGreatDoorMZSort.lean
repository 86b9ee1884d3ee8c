/- sort.Slice on a list of up to twelve fragments: by a comparison that makes blocks. -/
import Derived.Lib.ReflectliteSwap
import Derived.Test.YtchndljcahjldaaGreatDoorMZSpread
namespace Go.Proofs.YtchndljcahjldaaGreatDoor
section
open Go.RowKit Go.Lib
open Go.Sort hiding Below
variable {sl:Value} {k n T c:Nat} {p:Option Addr}
noncomputable abbrev g6 (sl:Value):Value := .func (.func 83) #[sl] #[]
noncomputable abbrev b6 (sl:Value):Value := .func (.func 193) #[] #[sl,typeHandle Tryz.prog 46]
structure z26 (sl:Value) (k n T:Nat) (S:Array Int→World→Prop):Prop where
 keep:∀ d W W',S d W→y5 (fun j=>T≤j) W W'→S d W'
 size:∀ d W,S d W→d.size=n∧k<T∧T≤W.heap.size
 less:∀ d W (i j:Nat),S d W→i<n→j<n→Calls Tryz.prog 83 #[sl,.int .i64 i,.int .i64 j] W (q8 (ltInt d[i]! d[j]!) W)
 swap:∀ d W (i j:Nat),S d W→i<n→j<n→∃ W',(callFunc 193 #[.int .i64 i,.int .i64 j,sl,typeHandle Tryz.prog 46]).run Tryz.prog W = .ok (.value (.tuple #[])) W'∧S (swp d i j) W'∧y5 (fun j=>j=k) W W'
theorem z26.below {S:Array Int→World→Prop} (C:z26 sl k n T S) (d:Array Int) (W W':World) (h:S d W) (hb:Below W.heap.size W W'):S d W':=C.keep d W W' h (y5.of_below _ hb)
def zw1 (k:Nat) (S:Array Int→World→Prop) (R:Array Int→Prop) (w:World) (e:Ending) (w':World):Prop:=e = .returned (.tuple #[])∧∃ d',R d'∧S d' w'∧y5 (fun j=>j=k) w w'
set_option maxRecDepth 100000 in
set_option maxHeartbeats 4000000 in
theorem xe9 {S:Array Int→World→Prop} (C:z26 sl k n T S) (d:Array Int) (a b:Nat) (w:World) (hS:S d w) (hab:a≤b) (hb:b≤n) (hn:n≤1000000) :
 Calls Tryz.prog 194 #[.agg #[g6 sl,b6 sl],.int .i64 a,.int .i64 b] w (zw1 k S (fun d'=>PermIn a b d d'∧SortedIn ltInt a b d') w):=by
 obtain ⟨hsz,hk,hkT⟩:=C.size _ _ hS
 have HFIN:Hid (PermIn a b d (insertionSort ltInt d a b)∧SortedIn ltInt a b (insertionSort ltInt d a b)):=qh (insertionSort_holds swo_ltInt d a b hab (hsz ▸ hb))
 obtain ⟨X,hX⟩:∃ X,w.heap.size=X:=⟨_,rfl⟩
 obtain ⟨W0,hW0⟩:∃ W0,w.alloc (.cells #[g6 sl,b6 sl] 174)=W0:=⟨_,rfl⟩
 have hb0:Below w.heap.size w W0:=hW0 ▸ z8 w _
 have x0:W0.cell? ⟨X,0,none⟩=some (g6 sl):=by rw [← hW0,← hX];simp
 have x1:W0.cell? ⟨X,1,none⟩=some (b6 sl):=by rw [← hW0,← hX];simp
 have HX:=qh (And.intro x0 (And.intro x1 (And.intro (show ¬ X=k by omega) (C.below _ _ _ hS hb0))))
 have HC:=qh C
 have HB:=qh (y5.of_below (fun j=>j=k) hb0)
 have HSZ:=qh hsz
 clear hS hk hkT hb0 x0 x1 hsz C
 go_enter Tryz.func194,Tryz.ntmps194
 go_wp2_with fail
 go_loopw [6] (fun vi wr=>∃ (i:Nat) (dk:Array Int),vi = .int .i64 i∧a<i∧i≤b+1∧S dk wr∧y5 (fun j=>j=k) W0 wr∧insOuter ltInt a b i dk=insertionSort ltInt d a b) (fun vi _=>b+1 - (intOf vi).toNat)
 case atStart=>exact ⟨a+1,d,by go_num,by omega,by omega,HX.out.2.2.2,y5.refl _ _,rfl⟩
 case round =>
  obtain ⟨i,dk,rfl,h1,h2,hs,hap,he⟩:=hrel
  have HE:=qh he;clear he
  by_cases hlt:i<b
  ·go_wp2_with fail
   go_loopw [7] (fun vj wr=>∃ (j:Nat) (dj:Array Int),vj = .int .i64 j∧a≤j∧j≤i∧S dj wr∧y5 (fun j=>j=k) W0 wr∧insInner ltInt a j dj=insInner ltInt a i dk) (fun vj _=>(intOf vj).toNat)
   case atStart=>exact ⟨i,dk,rfl,by omega,Nat.le_refl _,hs,hap,rfl⟩
   case round =>
    clear hs hap
    obtain ⟨j,dj,rfl,k1,k2,hs,hap,hi⟩:=hrel
    have x0:=hap.cell HX.out.1 HX.out.2.2.1
    have HI:=qh hi;clear hi
    have OUT:Hid (∀ wr',S dj wr'→y5 (fun j=>j=k) W0 wr'→(j≤a∨ltInt dj[j]! dj[j - 1]! = false)→∃ (i':Nat) (dk':Array Int),Value.int .i64 ((i:Int)+1) = .int .i64 i'∧a<i'∧i'≤b+1∧S dk' wr'∧y5 (fun j=>j=k) W0 wr'∧insOuter ltInt a b i' dk'=insertionSort ltInt d a b):=
     qh fun wr' q1 q2 hst=>⟨i+1,dj,by go_num,by omega,by omega,q1,q2,by
      rw [← HE.out,insOuter.eq_def ltInt a b i dk,if_pos hlt,← HI.out,xc2 a j dj hst]⟩
    have HS:=qh hs
    have HAP:=qh hap
    clear hs hap
    by_cases hja:a<j
    ·obtain ⟨j1,hj1⟩:∃ j1,j - 1=j1:=⟨_,rfl⟩
     have ej:(j:Int) - 1=(j1:Int):=by omega
     have hjb:j≤1000000:=by omega
     have hjc:j1≤1000000:=by omega
     have K:=qh (HC.out.less dj wr j j1 HS.out (by omega) (by omega))
     go_wp2_with (first | (go_at_call 83;refine K.out.mono ?_;rintro e w1 ⟨rfl,h1⟩;have HS1:=qh (HC.out.below _ _ _ HS.out h1);have HAP1:=qh (HAP.out.trans (y5.of_below (fun j=>j=k) h1));clear h1;have x1:=HAP1.out.cell HX.out.2.1 HX.out.2.2.1;obtain ⟨w2,hsw,hs2,ha2⟩:=HC.out.swap dj w1 j j1 HS1.out (by omega) (by omega);have HS2:=qh hs2;have HAP2:=qh (HAP1.out.trans ha2);clear hs2 ha2;cases hl:ltInt dj[j]! dj[j1]!))
     ·go_roundw
      case rel=>exact OUT.out _ HS1.out HAP1.out (Or.inr (by rw [hj1];exact hl))
      case measure=>simp [intOf] <;> omega
     ·go_roundw
      case rel=>exact ⟨j1,swp dj j j1,by congr 1,by omega,by omega,HS2.out,HAP2.out,by rw [← HI.out,wi6 a j dj hja (by rw [hj1];exact hl),hj1]⟩
      case measure=>simp [intOf] <;> omega
    ·go_wp2_with fail
     go_roundw
     case rel=>exact OUT.out _ HS.out HAP.out (Or.inl (by omega))
     case measure=>simp [intOf] <;> omega
  ·have HS:=qh hs
   have HAP:=qh hap
   clear hs hap
   go_wp2_with fail
   go_end0
   have e:dk=insertionSort ltInt d a b:=by rw [← HE.out,insOuter.eq_def,if_neg hlt]
   subst e
   exact ⟨rfl,_,HFIN.out,HS.out,HB.out.trans HAP.out⟩
def wl1 (n:Nat):Prop:=∀ (sl:Value) (k T:Nat) (S:Array Int→World→Prop),z26 sl k n T S→∀ (d:Array Int) (w:World),S d w →
 Calls Tryz.prog 139 #[.agg #[g6 sl,b6 sl],.int .i64 0,.int .i64 n,.int .i64 (Lib.bitLen n)] w (zw1 k S (fun d'=>PermIn 0 n d d'∧SortedIn ltInt 0 n d') w)
theorem wl2:Tryz.prog.packed 116=false:=by kernel_rfl
theorem v29:(Tryz.prog.info? 22).map (·.desc)=some (.slice 46):=by kernel_rfl
theorem v30:(Tryz.prog.info? 116).map (·.desc)=some (.named "kenning/atoms.list" 22):=by kernel_rfl
theorem wv0:∃ i,i.desc = .slice 46∧∀ w,∃ u,(Extern.Rtype.under 116).run Tryz.prog w = .ok (u,i) w:=by
 obtain ⟨i,hi,hd⟩:=Option.map_eq_some_iff.1 v29
 obtain ⟨j,hj,he⟩:=Option.map_eq_some_iff.1 v30
 refine ⟨i,hd,fun w=>⟨22,?_⟩⟩
 simp [Extern.Rtype.under,rl_info _ j hj,he,rl_info _ i hi,Result.andThen]
theorem wl3 (a:Addr) (p:Option Addr) (n c:Nat) (w:World) (ha:w.cell? a=some (.slice p n c)) :
 (Extern.ReflectliteValue.method (Extern.ReflectliteValue.valueError "reflectlite.Value.Len" 0) Extern.ReflectliteValue.len #[.agg #[typeHandle Tryz.prog 116,.pointer (some a),.int .u64 151]]).run Tryz.prog w = .ok (.int .i64 n) w:=by
 have hu:=Tryz.underlying116
 obtain ⟨i,hd,h⟩:=wv0
 obtain ⟨u,h⟩:=h w
 rw [rl_method]
 simp only [Sem.run_bind,run_parts 116 a wl2 w,Result.andThen]
 simp [Extern.ReflectliteValue.len,h,hd,loadVar,isAgg,underlying,hu,ha,Builtin.len_,goInt,Result.andThen]
theorem xo7 (p:Option Addr) (n c:Nat) (w:World):(Extern.ReflectliteValue.unpack (.iface 116 (.slice p n c))).run Tryz.prog w = .ok (.agg #[typeHandle Tryz.prog 116,.pointer (some ⟨w.heap.size,0,none⟩),.int .u64 151]) (w.alloc (.cells #[.slice p n c] 116)):=by kernel_rfl
theorem x27 (p:Option Addr) (k c:Nat) (w:World):(Extern.ReflectliteSwapper.swapper "internal/reflectlite" (Extern.ReflectliteValue.valueError "Swapper") #[.iface 116 (.slice p (k+2) c)]).run Tryz.prog w = .ok (.func (.func 193) #[] #[.slice p (k+2) c,typeHandle Tryz.prog 46]) w:=by kernel_rfl
theorem ym8 (p:Option Addr) (n c:Nat) (w:World):(callFunc 122 #[.iface 116 (.slice p n c)]).run Tryz.prog w = .ok (.value (.agg #[typeHandle Tryz.prog 116,.pointer (some ⟨w.heap.size,0,none⟩),.int .u64 151])) (w.alloc (.cells #[.slice p n c] 116)):=by
 rw [run_callFunc_extern Tryz.func122 (by kernel_rfl) (by kernel_rfl) (by kernel_rfl) (e:=fun args=>Extern.ReflectliteValue.unpack (args.getD 0 (.tuple #[]))) (by kernel_rfl),show Sem.run Tryz.prog ((fun args:Array Value=>Extern.ReflectliteValue.unpack (args.getD 0 (.tuple #[]))) #[.iface 116 (.slice p n c)]) w=_ from xo7 p n c w]
 rfl
theorem x28 (p:Option Addr) (k c:Nat) (w:World):(callFunc 137 #[.iface 116 (.slice p (k+2) c)]).run Tryz.prog w = .ok (.value (b6 (.slice p (k+2) c))) w:=by
 rw [run_callFunc_extern Tryz.func137 (by kernel_rfl) (by kernel_rfl) (by kernel_rfl) (e:=Extern.ReflectliteSwapper.swapper "internal/reflectlite" (Extern.ReflectliteValue.valueError "Swapper")) (by kernel_rfl),x27]
 rfl
theorem xf0 (a:Addr) (p:Option Addr) (n c:Nat) (w:World) (ha:w.cell? a=some (.slice p n c)):(callFunc 138 #[.agg #[typeHandle Tryz.prog 116,.pointer (some a),.int .u64 151]]).run Tryz.prog w = .ok (.value (.int .i64 n)) w:=by
 rw [run_callFunc_extern Tryz.func138 (by kernel_rfl) (by kernel_rfl) (by kernel_rfl) (e:=Extern.ReflectliteValue.method (Extern.ReflectliteValue.valueError "reflectlite.Value.Len" 0) Extern.ReflectliteValue.len) (by kernel_rfl),wl3 a p n c w ha]
 rfl
set_option maxRecDepth 100000 in
set_option maxHeartbeats 4000000 in
theorem wv1 {m:Nat} {S:Array Int→World→Prop} (hm:m+2=n) (C:z26 (.slice p n c) k n T S) (d:Array Int) (w:World) (hS:S d w) (hn:n≤100000) (hp:wl1 n) :
 Calls Tryz.prog 82 #[.iface 116 (.slice p n c),g6 (.slice p n c)] w (zw1 k S (fun d'=>PermIn 0 n d d'∧SortedIn ltInt 0 n d') w):=by
 obtain ⟨hdl,hhdl⟩:∃ h,typeHandle Tryz.prog 116 = .pointer (some h):=⟨_,rfl⟩
 have hv:=ym8 p n c w
 have hs:=fun w=>x28 p m c w
 have hl:=fun a w ha=>xf0 a p n c w ha
 rw [hhdl] at hv
 simp only [hhdl] at hl
 rw [hm] at hs
 have hb:=fun w=>Tryz.bits_Len (n:Int) w (by omega) (by omega)
 have K:=qh (fun W (hb:Below w.heap.size w W)=>hp _ _ _ _ C d W (C.below _ _ _ hS hb))
 clear hS C hp
 go_enter Tryz.func82,Tryz.ntmps82
 go_wp2_with (first | (go_at_call 128;refine (hb _).mono ?_;rintro e w' ⟨rfl,rfl⟩) | (go_at_call 139;refine (K.out _ (z7 (z8 _ _) (z8 _ _))).mono ?_;rintro e w' ⟨rfl,d',h1,h2,h3⟩))
 go_end0
 exact ⟨rfl,d',h1,h2,((y5.alloc (fun j=>j=k) w _).trans (y5.alloc _ _ _)).trans h3⟩
set_option maxRecDepth 100000 in
theorem va2 {q:Nat} (n:Nat) (L:Int) (w:World) (hn:n≤1):Calls Tryz.prog 139 #[.agg #[g6 sl,.func (.func q) #[] #[]],.int .i64 0,.int .i64 n,.int .i64 L] w (fun e w'=>e = .returned (.tuple #[])∧Below w.heap.size w w'):=by
 obtain ⟨X,hX⟩:∃ X,w.heap.size=X:=⟨_,rfl⟩
 obtain ⟨W0,hW0⟩:∃ W0,w.alloc (.cells #[g6 sl,.func (.func q) #[] #[]] 174)=W0:=⟨_,rfl⟩
 have hb0:Below w.heap.size w W0:=hW0 ▸ z8 w _
 have x0:W0.cell? ⟨X,0,none⟩=some (g6 sl):=by rw [← hW0,← hX];simp
 have x1:W0.cell? ⟨X,1,none⟩=some (.func (.func q) #[] #[]):=by rw [← hW0,← hX];simp
 have K:Calls Tryz.prog 194 #[.agg #[g6 sl,.func (.func q) #[] #[]],.int .i64 0,.int .i64 n] W0 (fun e w'=>e = .returned (.tuple #[])∧Below W0.heap.size W0 w'):=by
  have i1:¬ (1:Int)<(n:Int):=by omega
  clear x0 x1 hW0
  go_enter Tryz.func194,Tryz.ntmps194
  go_wp2_with fail
  go_loopw [6] (fun vi wr=>vi = .int .i64 1∧Below W0.heap.size W0 wr) (fun _ _=>0)
  case atStart=>exact ⟨rfl,z8 _ _⟩
  case round =>
   obtain ⟨rfl,hb⟩:=hrel
   go_wp2_with fail
   go_end0
   exact ⟨rfl,hb⟩
 have K:=qh K
 have HB:=qh hb0
 have hag:=Tryz.isAgg174
 have i1:(n:Int)≤12:=by omega
 clear hb0
 go_enter Tryz.func139,Tryz.ntmps139
 go_wp2_with fail
 go_loopw [1,2,3,8,9] (fun va vb _ _ _ wr=>va = .int .i64 0∧vb = .int .i64 n∧wr=W0) (fun _ _ _ _ _ _=>0)
 case atStart=>exact ⟨rfl,rfl,rfl⟩
 case round =>
  obtain ⟨rfl,rfl,rfl⟩:=hrel
  go_wp2_with (first | (go_at_call 194;refine K.out.mono ?_;rintro e w' ⟨rfl,h3⟩))
  refine bodyPost_ret (results_none rfl _ _ _) rfl ?_
  exact ⟨rfl,z7 HB.out h3⟩
theorem yp3 (p:Option Addr) (c:Nat) (w:World):(Extern.ReflectliteSwapper.swapper "internal/reflectlite" (Extern.ReflectliteValue.valueError "Swapper") #[.iface 116 (.slice p 0 c)]).run Tryz.prog w = .ok (.func (.func 185) #[] #[]) w:=by kernel_rfl
theorem yp4 (p:Option Addr) (c:Nat) (w:World):(Extern.ReflectliteSwapper.swapper "internal/reflectlite" (Extern.ReflectliteValue.valueError "Swapper") #[.iface 116 (.slice p 1 c)]).run Tryz.prog w = .ok (.func (.func 186) #[] #[]) w:=by kernel_rfl
theorem yp5 (p:Option Addr) (n c:Nat) (hn:n≤1):∃ q,∀ w,(callFunc 137 #[.iface 116 (.slice p n c)]).run Tryz.prog w = .ok (.value (.func (.func q) #[] #[])) w:=by
 have he:n=0∨n=1:=by omega
 rcases he with rfl | rfl
 ·refine ⟨185,fun w => ?_⟩
  rw [run_callFunc_extern Tryz.func137 (by kernel_rfl) (by kernel_rfl) (by kernel_rfl) (e:=Extern.ReflectliteSwapper.swapper "internal/reflectlite" (Extern.ReflectliteValue.valueError "Swapper")) (by kernel_rfl),yp3]
  rfl
 ·refine ⟨186,fun w => ?_⟩
  rw [run_callFunc_extern Tryz.func137 (by kernel_rfl) (by kernel_rfl) (by kernel_rfl) (e:=Extern.ReflectliteSwapper.swapper "internal/reflectlite" (Extern.ReflectliteValue.valueError "Swapper")) (by kernel_rfl),yp4]
  rfl
set_option maxRecDepth 100000 in
set_option maxHeartbeats 4000000 in
theorem xf1 (w:World) (hn:n≤1):Calls Tryz.prog 82 #[.iface 116 (.slice p n c),g6 (.slice p n c)] w (fun e w'=>e = .returned (.tuple #[])∧Below w.heap.size w w'):=by
 obtain ⟨hdl,hhdl⟩:∃ h,typeHandle Tryz.prog 116 = .pointer (some h):=⟨_,rfl⟩
 have hv:=ym8 p n c w
 obtain ⟨q,hs⟩:=yp5 p n c hn
 have hl:=fun a w ha=>xf0 a p n c w ha
 rw [hhdl] at hv
 simp only [hhdl] at hl
 have hb:=fun w=>Tryz.bits_Len (n:Int) w (by omega) (by omega)
 have K:=qh (fun W=>va2 (sl := .slice p n c) (q:=q) n (Lib.bitLen n) W hn)
 go_enter Tryz.func82,Tryz.ntmps82
 go_wp2_with (first | (go_at_call 128;refine (hb _).mono ?_;rintro e w' ⟨rfl,rfl⟩) | (go_at_call 139;refine (K.out _).mono ?_;rintro e w' ⟨rfl,h3⟩))
 go_end0
 exact ⟨rfl,z7 (z7 (z8 _ _) (z8 _ _)) h3⟩
end
section
open Go.RowKit Go.Lib
open Go.Sort hiding Below
abbrev El:=(Value × Value) × (List Iv × v6)
def vlt (a b:El):Bool:=decide (g9 (r3 a.2.2) (r3 b.2.2)<0)
def y32 (es0:List El) (e:El):Int:=((es0.countP fun x=>vlt x e:Nat):Int)
theorem yb5 {α:Type} {p q:α→Bool}:∀ {l:List α},(∀ x ∈ l,p x=true→q x=true)→∀ {a:α},a ∈ l→q a=true→p a=false→l.countP p<l.countP q
 | x :: l,h,a,ha,hq,hp=>by
   have hm:l.countP p≤l.countP q:=List.countP_mono_left fun y hy=>h y (List.mem_cons_of_mem _ hy)
   rw [List.countP_cons,List.countP_cons]
   rcases List.mem_cons.1 ha with rfl | ha
   ·rw [hq,hp];simp;omega
   ·have:=yb5 (fun y hy=>h y (List.mem_cons_of_mem _ hy)) ha hq hp
    have hx:=h x (by simp)
    cases h1:p x <;> cases h2:q x <;> simp_all <;> omega
theorem w67 {a b c:El} (h1:vlt a b=true) (h2:vlt b c=true):vlt a c=true:=decide_eq_true (xi1 (of_decide_eq_true h1) (of_decide_eq_true h2))
theorem x29 (a:El):vlt a a=false:=decide_eq_false (by rw [zk4];omega)
theorem xv9 {a b c:El} (h1:vlt a b=false) (h2:vlt b c=false):vlt a c=false:=by
 have k1:=of_decide_eq_false h1
 have k2:=of_decide_eq_false h2
 have n1:=zf5 (r3 a.2.2) (r3 b.2.2)
 have n2:=zf5 (r3 b.2.2) (r3 c.2.2)
 have n3:=zf5 (r3 a.2.2) (r3 c.2.2)
 have:=zx4 (A:=r3 c.2.2) (B:=r3 b.2.2) (C:=r3 a.2.2) (by omega) (by omega)
 exact decide_eq_false (by omega)
theorem wl4 {es0:List El} {a:El} (b:El) (ha:a ∈ es0):ltInt (y32 es0 a) (y32 es0 b)=vlt a b:=by
 unfold y32 ltInt
 cases h:vlt a b with
 | true =>
   have:=yb5 (l:=es0) (p:=fun x=>vlt x a) (q:=fun x=>vlt x b) (fun x _ hx=>w67 hx h) ha h (x29 a)
   exact decide_eq_true (by omega)
 | false =>
   have:es0.countP (fun x=>vlt x b)≤es0.countP (fun x=>vlt x a):=List.countP_mono_left fun x _ hx=>by
    cases hxa:vlt x a with
    | true=>rfl
    | false=>rw [xv9 hxa h] at hx;cases hx
   exact decide_eq_false (by omega)
def FrE (B:Nat) (e:El) (W:World):Prop:=v7 W e.1.1 e.2.1∧m9 e.2.1∧z02 e.1.1∧z30 W e.1.2 e.2.2∧z05 W B e.1.2 (nsV e.2.2)
structure zo6 (g B:Nat) (av:Nat→Prop) (es:List El) (W:World):Prop where
 cell:∀ (i:Nat) e,es[i]? = some e→W.cell? ⟨g,i*2,none⟩=some e.1.1∧W.cell? ⟨g,i*2+1,none⟩=some e.1.2
 free:∀ i,W.frozen? ⟨g,i,none⟩=false
 el:∀ e ∈ es,j9 W av (FrE B e)
 ag:av g
 lt:g<W.heap.size
section
variable {g B:Nat} {av:Nat→Prop} {es:List El} {W W1:World}
theorem zo6.below (h:zo6 g B av es W) (hb:Below W.heap.size W W1):zo6 g B av es W1:=
 ⟨fun i e he=>⟨z6 (h.cell i e he).1 hb,z6 (h.cell i e he).2 hb⟩,fun i=>x6 (h.free i) h.lt hb,fun e he=>o3 (h.el e he) hb,h.ag,Nat.lt_of_lt_of_le h.lt hb.size⟩
theorem zo6.swap (h:zo6 g B av es W) {i j:Nat} {x y:El} (hx:es[i]? = some x) (hy:es[j]? = some y) :
 zo6 g B av ((es.set i y).set j x) ((((W.setCell ⟨g,i*2,none⟩ y.1.1).setCell ⟨g,i*2+1,none⟩ y.1.2).setCell ⟨g,j*2,none⟩ x.1.1).setCell ⟨g,j*2+1,none⟩ x.1.2):=by
 have hi:=(List.getElem?_eq_some_iff.1 hx).1
 have hj:=(List.getElem?_eq_some_iff.1 hy).1
 have hap:y5 (fun k=>k=g) W ((((W.setCell ⟨g,i*2,none⟩ y.1.1).setCell ⟨g,i*2+1,none⟩ y.1.2).setCell ⟨g,j*2,none⟩ x.1.1).setCell ⟨g,j*2+1,none⟩ x.1.2):=(((z36 _ _ _ _).trans (z36 _ _ _ _)).trans (z36 _ _ _ _)).trans (z36 _ _ _ _)
 have sm:∀ (W:World) (o:Nat) (v:Value),(∃ u,W.cell? ⟨g,o,none⟩=some u)→(W.setCell ⟨g,o,none⟩ v).cell? ⟨g,o,none⟩=some v:=fun W o v ⟨u,hu⟩=>World.cell?_setCell_same _ _ _ hu
 have ot:∀ (W:World) (o o':Nat) (v:Value),o≠o'→(W.setCell ⟨g,o,none⟩ v).cell? ⟨g,o',none⟩=W.cell? ⟨g,o',none⟩:=fun W o o' v hne=>World.cell?_setCell_other _ _ _ _ (by intro e;have:=congrArg Addr.off e;exact hne this)
 have ex:∀ (W:World) (o o':Nat) (v:Value),(∃ u,W.cell? ⟨g,o',none⟩=some u)→∃ u,(W.setCell ⟨g,o,none⟩ v).cell? ⟨g,o',none⟩=some u:=fun W o o' v h=>by
  by_cases e:o=o'
  ·subst e;exact ⟨v,sm W o v h⟩
  ·rw [ot W o o' v e];exact h
 have c0:=h.cell i x hx
 have c1:=h.cell j y hy
 refine ⟨fun k e he => ?_,fun k=>by rw [World.frozen?_setCell,World.frozen?_setCell,World.frozen?_setCell,World.frozen?_setCell];exact h.free k,fun e he => ?_,h.ag,Nat.lt_of_lt_of_le h.lt hap.size⟩
 ·by_cases e1:k=j
  ·subst e1
   rw [List.getElem?_set_self (by rw [List.length_set];exact hj)] at he
   obtain rfl:=Option.some.inj he
   refine ⟨?_,?_⟩
   ·rw [ot _ _ _ _ (by omega)]
    exact sm _ _ _ (ex _ _ _ _ (ex _ _ _ _ ⟨_,c1.1⟩))
   ·exact sm _ _ _ (ex _ _ _ _ (ex _ _ _ _ (ex _ _ _ _ ⟨_,c1.2⟩)))
  ·rw [List.getElem?_set_ne (Ne.symm e1)] at he
   by_cases e2:k=i
   ·subst e2
    rw [List.getElem?_set_self hi] at he
    obtain rfl:=Option.some.inj he
    refine ⟨?_,?_⟩
    ·rw [ot _ _ _ _ (by omega),ot _ _ _ _ (by omega),ot _ _ _ _ (by omega)]
     exact sm _ _ _ ⟨_,c0.1⟩
    ·rw [ot _ _ _ _ (by omega),ot _ _ _ _ (by omega)]
     exact sm _ _ _ (ex _ _ _ _ ⟨_,c0.2⟩)
   ·rw [List.getElem?_set_ne (Ne.symm e2)] at he
    have:=h.cell k e he
    refine ⟨?_,?_⟩
    ·rw [ot _ _ _ _ (by omega),ot _ _ _ _ (by omega),ot _ _ _ _ (by omega),ot _ _ _ _ (by omega)]
     exact this.1
    ·rw [ot _ _ _ _ (by omega),ot _ _ _ _ (by omega),ot _ _ _ _ (by omega),ot _ _ _ _ (by omega)]
     exact this.2
 ·have hm:e ∈ es:=by
   rcases List.mem_or_eq_of_mem_set he with he | he
   ·rcases List.mem_or_eq_of_mem_set he with he | he
    ·exact he
    ·rw [he];exact List.mem_of_getElem? hy
   ·rw [he];exact List.mem_of_getElem? hx
  exact (h.el e hm).mv hap (fun _ _ e=>e ▸ h.ag) fun _ h => .inl h
end
def xf2 (g B:Nat) (es:List El) (W:World):Prop:=(∀ (i:Nat) e,es[i]? = some e→W.cell? ⟨g,i*2,none⟩=some e.1.1∧W.cell? ⟨g,i*2+1,none⟩=some e.1.2)∧∀ e ∈ es,FrE B e W
theorem zo6.r {g B:Nat} {av:Nat→Prop} {es:List El} {W:World} (h:zo6 g B av es W):xf2 g B es W:=⟨h.cell,fun e he=>(h.el e he).now⟩
set_option maxRecDepth 100000 in
set_option maxHeartbeats 4000000 in
theorem xf3 {g B:Nat} {es:List El} {W:World} (hL:xf2 g B es W) {q o m c i j:Nat} (hq:q=o*2) {x y:El} (hx:es[o+i]? = some x) (hy:es[o+j]? = some y) (hi:i<m) (hj:j<m) :
 Calls Tryz.prog 83 #[.slice (some ⟨g,q,none⟩) m c,.int .i64 i,.int .i64 j] W (q8 (vlt x y) W):=by
 have ex:=(hL.2 x (List.mem_of_getElem? hx)).2.2.2.1
 have ey:=(hL.2 y (List.mem_of_getElem? hy)).2.2.2.1
 have cx:=(hL.1 _ _ hx).2
 have cy:=(hL.1 _ _ hy).2
 rw [show (o+i)*2+1=q+i*2+1 by omega] at cx
 rw [show (o+j)*2+1=q+j*2+1 by omega] at cy
 have K:=qh (fun W' (hb:Below W.heap.size W W')=>y11 x.2.2 y.2.2 _ _ W' (ex.call hb).m (ey.call hb).m)
 obtain ⟨px,kx,e1⟩:=ex.m.shape
 obtain ⟨py,ky,e2⟩:=ey.m.shape
 rw [e1,e2] at K
 rw [e1] at cx
 rw [e2] at cy
 have i1:(0:Int)≤(i:Int):=by omega
 have i2:(i:Int)<(m:Int):=by omega
 have j1:(0:Int)≤(j:Int):=by omega
 have j2:(j:Int)<(m:Int):=by omega
 unfold vlt
 generalize g9 (r3 x.2.2) (r3 y.2.2)=z at *
 generalize x.2.2.length=lx at *
 generalize y.2.2.length=ly at *
 clear ex ey e1 e2 hL hx hy hq
 go_enter Tryz.func83,Tryz.ntmps83
 go_wp2_with fail
 go_region_with (first | (go_at_call 64;refine (K.out _ (by first | exact Below.refl _ _ | exact (Below.refl _ _).drew)).mono ?_;rintro e WA ⟨rfl,hA⟩;have HA:Hid (Below W.heap.size W WA):=qh (by first | exact hA | exact z7 (Below.refl _ _).drew hA);clear hA))
 all_goals
  go_wp2_with fail
  go_ret
  exact ⟨rfl,HA.out⟩
theorem w68 (g n c:Nat) {B:Nat} {av:Nat→Prop} {es:List El} {W:World} (hL:zo6 g B av es W) {i j:Nat} {x y:El} (hx:es[i]? = some x) (hy:es[j]? = some y) (hi:i<n) (hj:j<n) :
 (callFunc 193 #[.int .i64 i,.int .i64 j,.slice (some ⟨g,0,none⟩) n c,typeHandle Tryz.prog 46]).run Tryz.prog W = .ok (.value (.tuple #[])) ((((W.setCell ⟨g,i*2,none⟩ y.1.1).setCell ⟨g,i*2+1,none⟩ y.1.2).setCell ⟨g,j*2,none⟩ x.1.1).setCell ⟨g,j*2+1,none⟩ x.1.2):=by
 obtain ⟨ie,hie,hz0,hz1,hz2⟩:=info_parts zw9
 have ex:=(hL.el x (List.mem_of_getElem? hx)).now
 have ey:=(hL.el y (List.mem_of_getElem? hy)).now
 obtain ⟨_,_,a1,_⟩:=ex.1
 obtain ⟨_,_,a2⟩:=ex.2.2.2.1.m.shape
 obtain ⟨_,_,a3,_⟩:=ey.1
 obtain ⟨_,_,a4⟩:=ey.2.2.2.1.m.shape
 have two:∀ (u v:Value) (k:Nat) (z:Value),[u,v][k]? = some z→(k=0∧z=u)∨(k=1∧z=v):=fun u v k z h=>by
  match k,h with
  | 0,h=>exact .inl ⟨rfl,(Option.some.inj h).symm⟩
  | 1,h=>exact .inr ⟨rfl,(Option.some.inj h).symm⟩
 have key:=run_swap_cells (P:=Tryz.prog) false 46 ie hie Tryz.isAgg46 g 0 n c i j hi hj [x.1.1,x.1.2] [y.1.1,y.1.2] (by rw [hz1];rfl) (by rw [hz1];rfl)
  (fun v hv=>by rcases List.mem_cons.1 hv with rfl | hv;· rw [a1];rfl
                ·obtain rfl:=List.mem_singleton.1 hv;rw [a2];rfl)
  (fun v hv=>by rcases List.mem_cons.1 hv with rfl | hv;· rw [a3];rfl
                ·obtain rfl:=List.mem_singleton.1 hv;rw [a4];rfl) W
  (fun k v hk=>by
    rw [hz1,Nat.zero_add]
    rcases two _ _ k v hk with ⟨rfl,rfl⟩ | ⟨rfl,rfl⟩
    ·exact (hL.cell i x hx).1
    ·exact (hL.cell i x hx).2)
  (fun k v hk=>by
    rw [hz1,Nat.zero_add]
    rcases two _ _ k v hk with ⟨rfl,rfl⟩ | ⟨rfl,rfl⟩
    ·exact (hL.cell j y hy).1
    ·exact (hL.cell j y hy).2)
  (fun k _=>hL.free _) (fun k _=>hL.free _)
 rw [run_callFunc_extern Tryz.func193 (by kernel_rfl) (by kernel_rfl) (by kernel_rfl) (e:=Extern.ReflectliteSwapper.swap false) (by kernel_rfl),key,hz1]
 simp only [World.setCells,Nat.zero_add]
 rfl
theorem xf4 {α:Type} [Inhabited α] (l:List α) {i j:Nat} {x y:α} (hx:l[i]? = some x) (hy:l[j]? = some y):swp l.toArray i j=((l.set i y).set j x).toArray:=by
 have h1:l.toArray[i]! = x:=by simp [hx]
 have h2:l.toArray[j]! = y:=by simp [hy]
 unfold swp
 rw [h1,h2]
 simp
theorem wl5 {l:List El} {i j:Nat} {x y:El} (hx:l[i]? = some x) (hy:l[j]? = some y):((l.set i y).set j x).Perm l:=by
 have hi:=(List.getElem?_eq_some_iff.1 hx).1
 have hj:=(List.getElem?_eq_some_iff.1 hy).1
 letI:Inhabited El:=⟨x⟩
 have h:=(swp_permIn l.toArray 0 l.length i j (Nat.zero_le _) hi (Nat.zero_le _) hj (by simp)).2.2
 rw [xf4 l hx hy] at h
 have e:List.take l.length ((l.set i y).set j x)=(l.set i y).set j x:=List.take_of_length_le (by simp)
 simpa [e] using h
def vb9 (g B:Nat) (av:Nat→Prop) (es0:List El) (d:Array Int) (W:World):Prop:=∃ es,es.Perm es0∧d=(es.map (y32 es0)).toArray∧zo6 g B av es W
theorem v32 {g B n c T:Nat} {av:Nat→Prop} {es0:List El} (hn:es0.length=n) (hg:g<T) (hav:∀ j,T≤j→av j):z26 (.slice (some ⟨g,0,none⟩) n c) g n T (fun d W=>T≤W.heap.size∧vb9 g B av es0 d W):=by
 refine ⟨fun d W W' ⟨hT,es,h1,h2,h3⟩ hb=>⟨Nat.le_trans hT hb.size,es,h1,h2,⟨fun i e he=>⟨hb.cell (h3.cell i e he).1 (show ¬ T≤g by omega),hb.cell (h3.cell i e he).2 (show ¬ T≤g by omega)⟩,fun i=>hb.free (h3.free i) h3.lt (show ¬ T≤g by omega),fun e he=>(h3.el e he).mv hb (fun j _ hj=>hav j hj) fun _ hk => .inl hk,h3.ag,Nat.lt_of_lt_of_le h3.lt hb.size⟩⟩,fun d W ⟨hT,es,h1,h2,h3⟩=>⟨by rw [h2];simp [h1.length_eq,hn],hg,hT⟩,fun d W i j ⟨hT,es,h1,h2,h3⟩ hi hj => ?_,fun d W i j ⟨hT,es,h1,h2,h3⟩ hi hj => ?_⟩
 ·have hl:=h1.length_eq
  obtain ⟨x,hx⟩:∃ x,es[i]? = some x:=⟨es[i]'(by omega),by simp [show i<es.length by omega]⟩
  obtain ⟨y,hy⟩:∃ y,es[j]? = some y:=⟨es[j]'(by omega),by simp [show j<es.length by omega]⟩
  have e1:d[i]! = y32 es0 x:=by rw [h2];simp [hx]
  have e2:d[j]! = y32 es0 y:=by rw [h2];simp [hy]
  rw [e1,e2,wl4 y (h1.mem_iff.1 (List.mem_of_getElem? hx))]
  exact xf3 h3.r (o:=0) (by omega) (by rw [Nat.zero_add];exact hx) (by rw [Nat.zero_add];exact hy) hi hj
 ·have hl:=h1.length_eq
  obtain ⟨x,hx⟩:∃ x,es[i]? = some x:=⟨es[i]'(by omega),by simp [show i<es.length by omega]⟩
  obtain ⟨y,hy⟩:∃ y,es[j]? = some y:=⟨es[j]'(by omega),by simp [show j<es.length by omega]⟩
  refine ⟨_,w68 g n c h3 hx hy hi hj,⟨Nat.le_trans hT ((((z36 _ _ _ _).trans (z36 _ _ _ _)).trans (z36 _ _ _ _)).trans (z36 _ _ _ _)).size,(es.set i y).set j x,(wl5 hx hy).trans h1,?_,h3.swap hx hy⟩,(((z36 _ _ _ _).trans (z36 _ _ _ _)).trans (z36 _ _ _ _)).trans (z36 _ _ _ _)⟩
  rw [h2,xf4 (es.map (y32 es0)) (x:=y32 es0 x) (y:=y32 es0 y) (by rw [List.getElem?_map,hx];rfl) (by rw [List.getElem?_map,hy];rfl),List.map_set,List.map_set]
def v33 (g B:Nat) (av:Nat→Prop) (es0:List El) (w:World) (e:Ending) (w':World):Prop:=e = .returned (.tuple #[])∧∃ es,es.Perm es0∧es.Pairwise (fun a b=>vlt b a=false)∧zo6 g B av es w'∧y5 (fun j=>j=g) w w'
theorem zo6.wide {g B:Nat} {av av':Nat→Prop} {es:List El} {W:World} (h:zo6 g B av es W) (hw:∀ j,av' j→av j∨W.heap.size≤j) (hg:av' g):zo6 g B av' es W:=
 ⟨h.cell,h.free,fun e he=>(h.el e he).mv (y5.refl (fun _=>False) W) (fun _ _ hf=>hf.elim) hw,hg,h.lt⟩
theorem x30 {g B n c:Nat} {av:Nat→Prop} {es0:List El} {w:World} (hn:es0.length=n) (hm:n≤100000) (hp:wl1 n) (hL:zo6 g B av es0 w):Calls Tryz.prog 82 #[.iface 116 (.slice (some ⟨g,0,none⟩) n c),g6 (.slice (some ⟨g,0,none⟩) n c)] w (v33 g B av es0 w):=by
 by_cases h1:n≤1
 ·refine (xf1 w h1).mono ?_
  rintro e w' ⟨rfl,hb⟩
  refine ⟨rfl,es0,List.Perm.refl _,?_,hL.below hb,y5.of_below _ hb⟩
  match es0,hn with
  | [],_=>exact List.Pairwise.nil
  | [a],_=>exact List.pairwise_singleton _ _
  | _ :: _ :: _,hn=>simp at hn;omega
 ·obtain ⟨m,hm2⟩:∃ m,m+2=n:=⟨n - 2,by omega⟩
  refine (wv1 hm2 (v32 (B:=B) (av:=fun j=>av j∨w.heap.size≤j) hn hL.lt fun j hj => .inr hj) (es0.map (y32 es0)).toArray w ⟨Nat.le_refl _,es0,List.Perm.refl _,rfl,hL.wide (fun j hj=>hj) (.inl hL.ag)⟩ hm hp).mono ?_
  rintro e w' ⟨rfl,d',⟨_,hs⟩,⟨_,es,k1,k2,k3⟩,k4⟩
  refine ⟨rfl,es,k1,?_,k3.wide (fun j hj => .inl (.inl hj)) hL.ag,k4⟩
  have hl:=k1.length_eq
  refine List.pairwise_iff_getElem.2 fun i j hi hj hij => ?_
  have:=hs i j (Nat.zero_le _) hij (by omega)
  rw [k2] at this
  have e1:(es.map (y32 es0)).toArray[i]! = y32 es0 es[i]:=by simp [hi]
  have e2:(es.map (y32 es0)).toArray[j]! = y32 es0 es[j]:=by simp [hj]
  rw [e1,e2,wl4 _ (k1.mem_iff.1 (List.getElem_mem hj))] at this
  exact this
end
section
open Go.RowKit
structure o4 (w:World) (av0:Nat→Prop) (Q:El→World→Prop) (v:Value) (es:List El) (W:World):Prop where
 row:W.ownsRow w.heap.size 46 2 v es.length (frC (es.map (·.1)))
 el:∀ e ∈ es,j9 W (fun j=>av0 j∨v.ownBlock=some j) (Q e)
 low:Below w.heap.size w W
section
variable {w W W1:World} {av0:Nat→Prop} {Q:El→World→Prop} {v:Value} {es:List El}
theorem o4.below (h:o4 w av0 Q v es W) (hb:Below W.heap.size W W1):o4 w av0 Q v es W1:=⟨y6 h.row hb,fun e he=>o3 (h.el e he) hb,h.low.trans (hb.mono h.low.size)⟩
theorem o4.nil (hb:Below w.heap.size w W):o4 w av0 Q (.slice none 0 0) [] W:=⟨World.ownsRow_nil _ _ _ _,fun _ he=>(nomatch he),hb⟩
theorem o4.shape (h:o4 w av0 Q v es W):∃ p c,v = .slice p es.length c:=by
 obtain ⟨p,c,e,_⟩:=y8 h.row
 exact ⟨p,c,e⟩
theorem o4.push (h:o4 w av0 Q v es W) {e:El} (he:j9 W (fun j=>av0 j∨v.ownBlock=some j) (Q e)) (ho:e.1.1.oneCell'=true∧e.1.2.oneCell'=true) (hl:es.length≤100000) {T:TypeId} (hT:Tryz.prog.underlying T=some (.slice 46)) (ty:TypeId) :
 ∃ v' W1,(Builtin.append_ #[T,T] ty #[v,.slice (some ⟨W.heap.size,0,none⟩) 1 1]).run Tryz.prog (W.alloc (.cells #[e.1.1,e.1.2] 46)) = .ok v' W1∧(∃ g' c',v' = .slice (some ⟨g',0,none⟩) (es.length+1) c')∧o4 w av0 Q v' (es ++ [e]) W1 ∧
  y5 (fun j=>v.ownBlock=some j) W W1∧(∀ P,j9 W (fun j=>av0 j∨v.ownBlock=some j) P→j9 W1 (fun j=>av0 j∨v'.ownBlock=some j) P)∧∀ j,v'.ownBlock=some j→v.ownBlock=some j∨W.heap.size≤j:=by
 obtain ⟨i0,hi',hz0,hz1,hz2⟩:=info_parts zw9
 have hbn:=z8 W (.cells #[e.1.1,e.1.2] 46)
 obtain ⟨v',W1,hr,h1,h2,_,h3⟩:=run_append_own_at (P:=Tryz.prog) (W.alloc (.cells #[e.1.1,e.1.2] 46)) w.heap.size T ty 46 i0 (.agg #[.slice none 0 0,.slice none 0 0]) 2 48 hT hi' hz0 hz1 hz2 rfl (by decide) v es.length (frC (es.map (·.1))) (y6 h.row hbn) ⟨W.heap.size,0,none⟩ 1 1 [e.1.1,e.1.2] rfl (za6 _ _ _ _) (fun x hx=>by
  rcases List.mem_cons.1 hx with rfl | hx
  ·exact ho.1
  ·obtain rfl:=List.mem_singleton.1 hx;exact ho.2) (by unfold maxLen;omega) (by omega) (Nat.le_trans h.low.size hbn.size)
 have k1:y5 (fun j=>v.ownBlock=some j) W W1:=(y5.alloc _ W _).trans (y5.of_grown h2 fun r hr=>hr)
 have mv:∀ P,j9 W (fun j=>av0 j∨v.ownBlock=some j) P→j9 W1 (fun j=>av0 j∨v'.ownBlock=some j) P:=fun P hP=>hP.mv k1 (fun j _ hj => .inr hj) fun j hj=>by
  rcases hj with hj | hj
  ·exact .inl (.inl hj)
  ·rcases h3 with e' | e'
   ·exact .inl (.inr (e' ▸ hj))
   ·rw [e'] at hj
    have:=Option.some.inj hj
    simp at this
    exact .inr (by omega)
 refine ⟨v',W1,hr,ownsRow_succ h1,⟨?_,fun x hx => ?_,h.low.trans (k1.below h.low.size fun j hj hj2=>by have:=(g7 h.row j hj2).1;omega)⟩,k1,mv,fun j hj=>by
  rcases h3 with e' | e'
  ·exact .inl (e' ▸ hj)
  ·rw [e'] at hj
   have:=Option.some.inj hj
   simp at this
   exact .inr (by omega)⟩
 ·rw [List.length_append,List.map_append]
  simpa [frC] using h1
 ·rcases List.mem_append.1 hx with hx | hx
  ·exact mv _ (h.el x hx)
  ·obtain rfl:=List.mem_singleton.1 hx
   exact mv _ he
end
def zc9 (F:t8):t8:=(F.filter fun x=>decide (j8 x.2 ≠ []) && decide (x.1 ≠ [])).map fun x=>(x.1,j8 x.2)
theorem w69 {F:t8} {k:Nat} {x:List Iv × v6} (h:F[k]? = some x):zc9 (F.take (k+1))=if j8 x.2 ≠ []∧x.1 ≠ [] then zc9 (F.take k) ++ [(x.1,j8 x.2)] else zc9 (F.take k):=by
 unfold zc9
 rw [List.take_add_one,h,List.filter_append,List.map_append]
 grind
def va3 (F:t8) (w:World) (e:Ending) (w':World):Prop:=∃ u es,e = .returned u∧o4 w (fun _=>False) (FrE w.heap.size) u es w'∧es.map (·.2)=zc9 F
attribute [-go_sem] Builtin.append_
set_option maxRecDepth 100000 in
set_option maxHeartbeats 8000000 in
theorem yp6 (F:t8) (v:Value) (w:World) (hv:z08 w v F) (hF:x9 F) (hl:F.length≤100000):Calls Tryz.prog 81 #[v] w (va3 F w):=by
 obtain ⟨p,cap,rfl⟩:=hv.m.shape
 have HV:=qh hv.m
 have HF:=qh hF
 clear hv hF
 go_enter Tryz.func81,Tryz.ntmps81
 go_wp2_with fail
 go_loopw [3,9] (fun u i wr=>∃ (k:Nat) (es:List El),i = .int .i64 k∧k≤F.length∧o4 w (fun _=>False) (FrE w.heap.size) u es wr∧es.map (·.2)=zc9 (F.take k)) (fun _ i _=>F.length - (intOf i).toNat)
 case atStart=>exact ⟨0,[],rfl,Nat.zero_le _,o4.nil (Below.refl _ _),rfl⟩
 case round =>
  obtain ⟨k,es,rfl,hk,hR,hes⟩:=hrel
  obtain ⟨pr,cr,hu⟩:=hR.shape
  subst hu
  by_cases hlt:k<F.length
  ·obtain ⟨⟨L,V⟩,hx⟩:∃ x,F[k]? = some x:=⟨F[k],by simp [hlt]⟩
   obtain ⟨b,o,cap',p1,c1,q1,d1,e,c0,c1',hf⟩:=HV.out.elem hx
   cases e
   have t0:=z6 c0 hR.low
   have t1:=z6 c1' hR.low
   have hg:=(HF.out _ (List.mem_of_getElem? hx)).2
   obtain ⟨wE,hwE⟩:∃ wE,wr.alloc (.cells #[.slice p1 L.length c1,.slice q1 V.length d1] 46)=wE:=⟨_,rfl⟩
   obtain ⟨fb,hfb⟩:∃ fb,wr.heap.size=fb:=⟨_,rfl⟩
   have hbE:Below wr.heap.size wr wE:=hwE ▸ z8 wr _
   have z0:wE.cell? ⟨fb,0,none⟩=some (.slice p1 L.length c1):=by rw [← hwE,← hfb];simp
   have z1:wE.cell? ⟨fb,1,none⟩=some (.slice q1 V.length d1):=by rw [← hwE,← hfb];simp
   have hRE:=hR.below hbE
   have K:=qh (xk4 V _ wE (hf.vec.call hRE.low) hg)
   have HX:=qh (w69 hx)
   have HR:=qh hRE
   have HFR:=qh hf
   have HES:=qh hes
   have hel:es.length≤100000:=by
    have h1:es.length=(zc9 (F.take k)).length:=by rw [← hes,List.length_map]
    have h2:(zc9 (F.take k)).length≤(F.take k).length:=by unfold zc9;rw [List.length_map];exact List.length_filter_le _ _
    rw [List.length_take] at h2
    omega
   have HEL:=qh hel
   have i1:(0:Int)≤(k:Int):=by omega
   have i2:(k:Int)<(F.length:Int):=by omega
   clear hf hx c0 c1' hR hRE hg hbE hes hel
   dsimp only at HX K
   generalize j8 V=CV at *
   go_wp2_with fail
   refine K.out.mono ?_
   rintro e w1 ⟨u,rfl,hu,hsu,h1⟩
   obtain ⟨pV,cV,rfl⟩:=hu.m.shape
   have y0:=z6 z0 h1
   have hR1:=HR.out.below h1
   have HR1:=qh hR1
   have HU:=qh (And.intro hu (And.intro hsu h1))
   clear z0 z1 h1 hu hsu t0 t1 hwE
   by_cases hcv:CV = []
   ·subst hcv
    go_wp2_with fail
    go_roundw
    case rel=>exact ⟨k+1,es,by go_num,by omega,HR1.out,by rw [HX.out,if_neg (fun h=>h.1 rfl)];exact HES.out⟩
    case measure=>simp [intOf] <;> omega
   ·have hcl:(0:Int)<(CV.length:Int):=by have:=List.length_pos_iff.2 hcv;omega
    by_cases hL:L = []
    ·subst hL
     go_wp2_with fail
     go_roundw
     case rel=>exact ⟨k+1,es,by go_num,by omega,HR1.out,by rw [HX.out,if_neg (fun h=>h.2 rfl)];exact HES.out⟩
     case measure=>simp [intOf] <;> omega
    ·have hll:(0:Int)<(L.length:Int):=by have:=List.length_pos_iff.2 hL;omega
     have hav:∀ j,(False∨(Value.slice pr es.length cr).ownBlock=some j)→w.heap.size≤j∧j<wE.heap.size:=fun j hj=>by
      rcases hj with hj | hj
      ·exact hj.elim
      ·exact g7 HR.out.row j hj
     have hn:=yj9 (av:=fun j=>False∨(Value.slice pr es.length cr).ownBlock=some j) HU.out.1 HU.out.2.1 fun j hj=>(hav j hj).2
     have hi:j9 w1 (fun j=>False∨(Value.slice pr es.length cr).ownBlock=some j) (fun W'=>v7 W' (.slice p1 L.length c1) L):=
      ⟨fun j=>j<w.heap.size,fun j hj=>⟨Nat.lt_of_lt_of_le hj HR1.out.low.size,fun ha=>by have:=(hav j ha).1;omega⟩,fun W' hap=>HFR.out.at1.call (HR1.out.low.trans (hap.below HR1.out.low.size fun j hj hn=>hn hj))⟩
     have he:j9 w1 (fun j=>False∨(Value.slice pr es.length cr).ownBlock=some j) (FrE w.heap.size ((.slice p1 L.length c1,.slice pV CV.length cV),(L,CV))):=
      ((hi.and hn.1).and (hn.2 w.heap.size HR.out.low.size)).imp fun W' h=>⟨h.1.1,HFR.out.all,HFR.out.sane,h.1.2,h.2⟩
     obtain ⟨v',W2,hr,⟨g',c',rfl⟩,hR2,_⟩:=HR1.out.push he ⟨rfl,rfl⟩ HEL.out Tryz.underlying116 116
     dsimp only at hr
     have HR2:=qh hR2
     clear hav hn hi he hR2
     go_wp2_with fail
     go_roundw
     case rel=>exact ⟨k+1,_,by go_num,by omega,HR2.out,by rw [HX.out,if_pos ⟨hcv,hL⟩,List.map_append,HES.out];rfl⟩
     case measure=>simp [intOf] <;> omega
  ·obtain rfl:k=F.length:=by omega
   rw [List.take_of_length_le (Nat.le_refl _)] at hes
   have HR:=qh hR
   have HES:=qh hes
   clear hR hes
   go_wp2_with fail
   go_ret
   exact ⟨_,es,rfl,HR.out,HES.out⟩
end
end Go.Proofs.YtchndljcahjldaaGreatDoor
