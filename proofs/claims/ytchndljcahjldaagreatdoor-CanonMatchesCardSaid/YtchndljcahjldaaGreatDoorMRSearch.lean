/- The library's sort.Search at this seat: its shelf's contract. -/
import Derived.Shelf.SlGeneric
import Derived.Shelf.SlSorted.Search
import Derived.Ground.SlsoProg
import Derived.Test.YtchndljcahjldaaGreatDoorMRCheck
import Derived.Deep.DrawnRows
import Derived.Test.YtchndljcahjldaaGreatDoorMROwn
import Derived.StillTailTactics
import Derived.RegionTactic
import Derived.Deep.RegionWith
import Derived.Deep.RegionLaw
import Derived.Lib.Walk
import Derived.Lib.ItoaWalk
import Derived.Lib.ItoaMem
import Derived.Lib.AppendIntMem
import Derived.Lib.BufferKept
import Derived.BigCall
import Derived.BigGuard
import Derived.Lib.Join
import Derived.Laws.BitsAllLaws
namespace Go.Proofs
open Go.Shelf
def Tryz.search_ren:Go.Shelf.Ren:=⟨fun | 16=>84 | n=>n,fun | 3=>3 | 35=>66 | 4=>4 | 38=>164 | n=>n,fun | n=>n⟩
theorem Tryz.search:Go.Proofs.SlLaysO.n16 Tryz.prog Tryz.search_ren:={
 mixed:=by kernel_rfl
 f16:=Tryz.func84.trans (congrArg some (by kernel_rfl))
 t3:=Tryz.underlying3
 a3:=Tryz.isAgg3
 z3:=Tryz.sizeOf3
 v3:=Tryz.zeroValue3
 t4:=Tryz.underlying4
 a4:=Tryz.isAgg4
 z4:=Tryz.sizeOf4
 v4:=Tryz.zeroValue4
 t35:=Tryz.underlying66
 a35:=Tryz.isAgg66
 z35:=Tryz.sizeOf66
 v35:=Tryz.zeroValue66
 t38:=Tryz.underlying164
 a38:=Tryz.isAgg164
 z38:=Tryz.sizeOf164
 v38:=Tryz.zeroValue164 }
end Go.Proofs
namespace Go.Proofs.YtchndljcahjldaaGreatDoor
section
open Go.RowKit Go.Shelf Go.Lib
open Go.Sort hiding Below
attribute [local go_sem ↓] Go.wp_at_zero Go.wp_at_succ
variable {l:List Iv}
def upB (l:List Iv) (x:Int) (i:Nat):Bool:=match l[i]? with | some y=>decide (x≤y.2) | none=>true
theorem yl0 {i:Nat} {y:Iv} (x:Int) (h:l[i]? = some y):upB l x i=decide (x≤y.2):=by unfold upB;rw [h]
theorem xu3 (h:m5 l) (x:Int):∀ a b,a≤b→b<l.length→upB l x a=true→upB l x b=true:=by
 intro a b hab hb ha
 have hya:l[a]? = some l[a]:=by simp [show a<l.length by omega]
 have hyb:l[b]? = some l[b]:=by simp [hb]
 rw [yl0 x hya] at ha
 rw [yl0 x hyb]
 rcases Nat.lt_or_eq_of_le hab with hlt | heq
 ·have h1:=z59 l h a b _ _ hlt hya hyb
  have h2:=z13 l h _ (List.getElem_mem hb)
  grind
 grind
theorem xb6 (h:m5 l) (x:Int):(List.range l.length).countP (fun i => !upB l x i)=z06 l x:=by
 have hle:z06 l x≤l.length:=List.findIdx_le_length
 have h1:∀ i,i<z06 l x→upB l x i=false:=by
  intro i hi
  have hy:l[i]? = some l[i]:=by simp [show i<l.length by omega]
  rw [yl0 x hy]
  have:=List.not_of_lt_findIdx (p:=fun y:Iv=>decide (x≤y.2)) (xs:=l) (i:=i) hi
  omega
 have h2:∀ i,z06 l x≤i→i<l.length→upB l x i=true:=by
  intro i hi hlt
  have hk:z06 l x<l.length:=by omega
  refine xu3 h x (z06 l x) i hi hlt ?_
  have hy:l[z06 l x]? = some l[z06 l x]:=by simp [hk]
  rw [yl0 x hy]
  exact List.findIdx_getElem (p:=fun y:Iv=>decide (x≤y.2)) (xs:=l) (w:=hk)
 obtain ⟨m,hm⟩:∃ m,l.length=z06 l x+m:=⟨l.length - z06 l x,by omega⟩
 rw [hm,List.range_add,List.countP_append]
 grind [List.range,z06,upB,List.countP_eq_length,List.countP_eq_zero]
set_option maxRecDepth 100000 in
theorem wz8 (l:List Iv) (s:Value) (x:Int) (i kl kx:Nat) (w:World) (hl:v7 w s l) (hi:i<l.length) (hcl:w.cell? ⟨kl,0,none⟩=some s) (hcx:w.cell? ⟨kx,0,none⟩=some (.int .u64 x)) :
 Calls Tryz.prog 150 #[.int .i64 i,.pointer (some ⟨kx,0,none⟩),.pointer (some ⟨kl,0,none⟩)] w fun e w'=>e = .returned (.bool (upB l x i))∧∃ q,w'=w.drewN q:=by
 have hy:l[i]? = some l[i]:=by simp [hi]
 have hlen:=hl.shape.choose_spec.choose_spec.2
 rw [yl0 x hy]
 obtain ⟨b,o,cap,rfl,c0,c1⟩:=hl.elem hy
 generalize l[i]=y at *
 obtain ⟨y1,y2⟩:=y
 dsimp only at c0 c1 ⊢
 have hj0:(0:Int)≤(i:Int):=by omega
 have hj1:(i:Int)<(l.length:Int):=by omega
 clear hl hy
 go_enter Tryz.func150,Tryz.ntmps150
 go_wp2_with fail
 go_quiet (fail)
 go_wp2_with fail
 go_ret
 exact ⟨rfl,_,rfl⟩
theorem vb2 (a b x:Int) (r:Bool) (w:World) (h:zv3 a b x=r) :
 Calls Tryz.prog 151 #[.agg #[.int .u64 a,.int .u64 b],.int .u64 x] w (q8 r w):=by
 subst h;exact wt6 a b x w
set_option maxRecDepth 100000 in
set_option maxHeartbeats 4000000 in
theorem wh8 (l:List Iv) (s:Value) (x:Int) (w:World) (hl:v7 w s l) (hc:m5 l) :
 Calls Tryz.prog 100 #[s,.int .u64 x] w (zi6 (zf9 l x) w):=by
 obtain ⟨p,cap,rfl,hlen⟩:=hl.shape
 have eg:∀ args w,(callFunc 150 args).run Tryz.prog w = .ok (.enter 150 args) w:=enters_of Tryz.func150 (by kernel_rfl) rfl
 have hA:=(Kp.start w).new1 (.slice p l.length cap) 42 w.heap.size rfl
 have hB:=hA.new1 (.int .u64 x) 36 (w.heap.size+1) (by simp)
 obtain ⟨W0,hW0⟩:∃ W0,(w.alloc (.cells #[.slice p l.length cap] 42)).alloc (.cells #[.int .u64 x] 36)=W0:=⟨_,rfl⟩
 rw [hW0] at hB
 have hsz0:w.heap.size+2=W0.heap.size:=by rw [← hW0];simp
 have hcon:=Any.sort_Search Tryz.search 150 #[.pointer (some ⟨w.heap.size+1,0,none⟩),.pointer (some ⟨w.heap.size,0,none⟩)] l.length (upB l x) W0 eg (by omega)
  (fun m os i hi=>by
    have hb:Below W0.heap.size W0 (grow (W0.drewN m) os):=below_grown_sl _ _ _ _ (Nat.le_refl _)
    refine (wz8 l _ x i w.heap.size (w.heap.size+1) _ (hl.call (z7 hB.1 hb)) hi (z6 hB.2.2.1 hb) (z6 hB.2.1 hb)).mono ?_
    rintro e w' ⟨rfl,q,rfl⟩
    exact ⟨rfl,q,#[],by simp⟩)
  (xu3 hc x)
 change Calls Tryz.prog 84 _ _ _ at hcon
 rw [xb6 hc x] at hcon
 have hFL:z06 l x≤l.length:=List.findIdx_le_length
 obtain ⟨k,hk⟩:∃ k,z06 l x=k:=⟨_,rfl⟩
 rw [hk] at hcon hFL
 have I:=qh hl;clear hl
 have HC:=qh hcon;clear hcon
 have HK:=qh hk;clear hk
 have HBx:=qh hB;clear hB hA
 have KH:=qh vb2
 have HW0:=qh hW0;clear hW0
 clear eg hc
 go_enter Tryz.func100,Tryz.ntmps100
 go_wp2_with fail
 rw [HW0.out]
 refine HC.out.mono ?_
 rintro e w1 ⟨rfl,q,os,rfl⟩
 have hb1:Below W0.heap.size W0 (grow (W0.drewN q) os):=below_grown_sl _ _ _ _ (Nat.le_refl _)
 generalize grow (W0.drewN q) os=w1 at *
 have S1:=qh (HBx.out.call hb1);clear hb1
 have hcx:=S1.out.2.1
 have hcl:=S1.out.2.2.1
 by_cases hlt:k<l.length
 ·obtain ⟨y,hy⟩:∃ y,l[k]? = some y:=⟨l[k],by simp [hlt]⟩
  obtain ⟨b0,o0,cap0,e0,z0,z1⟩:=(I.out.call S1.out.1).elem hy
  cases e0
  have HF:=qh (show zf9 l x=if inI y x then (k:Int) else -1 by unfold zf9;rw [HK.out,hy])
  obtain ⟨r,hr⟩:∃ r,zv3 y.1 y.2 x=r:=⟨_,rfl⟩
  have KX:=qh (fun w=>KH.out y.1 y.2 x r w hr)
  have HR:=qh hr
  clear hr hy
  obtain ⟨y1,y2⟩:=y
  dsimp only at z0 z1
  have hj0:(0:Int)≤(k:Int):=by omega
  have hj1:(k:Int)<(l.length:Int):=by omega
  have hs:Below w.heap.size w w1∧w1.cell? ⟨w.heap.size,0,none⟩=some (.slice (some ⟨b0,o0,none⟩) l.length cap)∧w1.cell? ⟨w.heap.size+1,0,none⟩=some (.int .u64 x)∧w1.cell? ⟨b0,o0+k*2,none⟩=some (.int .u64 y1)∧w1.cell? ⟨b0,o0+k*2+1,none⟩=some (.int .u64 y2):=⟨S1.out.1,hcl,hcx,z0,z1⟩
  clear hcl hcx z0 z1
  go_wp2_with fail
  go_region_held3 (fun w'=>Below w.heap.size w w'∧w'.cell? ⟨w.heap.size,0,none⟩=some (.slice (some ⟨b0,o0,none⟩) l.length cap)∧w'.cell? ⟨w.heap.size+1,0,none⟩=some (.int .u64 x)∧w'.cell? ⟨b0,o0+k*2,none⟩=some (.int .u64 y1)∧w'.cell? ⟨b0,o0+k*2+1,none⟩=some (.int .u64 y2))
   (first
     | exact zl3 (by assumption) (by assumption)
     | exact z96 (by assumption)
     | exact hs
     | assumption)
   (first
     | (go_at_call 151;refine (KX.out _).mono ?_;rintro en w' ⟨rfl,hb4'⟩;have hb4:=qh hb4';clear hb4'))
  all_goals
   rename_i hE
   have HE:=qh hE.1
   clear hs hE
   cases r with
   | true =>
     go_wp2_with fail
     go_ret
     exact ⟨z62 (by rw [HF.out];exact (if_pos HR.out).symm),HE.out⟩
   | false =>
     go_wp2_with fail
     go_ret
     exact ⟨z62 (by rw [HF.out];exact (if_neg (by show ¬ zv3 y1 y2 x=true;rw [HR.out];simp)).symm),HE.out⟩
 ·have HF:=qh (show zf9 l x = -1 by unfold zf9;rw [HK.out,List.getElem?_eq_none_iff.2 (by omega)])
  have hj1:¬ (k:Int)<(l.length:Int):=by omega
  have hd:decide ((k:Int)<(l.length:Int))=false:=by simpa using hj1
  go_wp2_with fail
  go_quiet (fail)
  go_wp2_with fail
  go_ret
  exact ⟨z62 HF.out.symm,below_drewN S1.out.1 _⟩
theorem yl1 (l:List Iv) (s:Value) (x:Int) (w:World) (hl:v7 w s l) (hc:m5 l) :
 Calls Tryz.prog 55 #[s,.int .u64 x] w (q8 (y9 l x) w):=by
 have K:=qh (wh8 l s x w hl hc)
 have e:=w30 hc x
 have hlow:=w31 l x
 have HX:=qh (show (zf9 l x != -1)=y9 l x by rw [← e,Bool.eq_iff_iff];simp;omega)
 generalize zf9 l x=f at *
 clear hl hc e hlow
 go_enter Tryz.func55,Tryz.ntmps55
 go_wp2_with fail
 refine K.out.mono ?_
 rintro e w1 ⟨rfl,h1⟩
 have H1:=qh h1;clear h1
 go_wp2_with fail
 go_ret
 exact ⟨b9 HX.out,H1.out⟩
end
section
open Go.RowKit
attribute [local go_sem ↓] Go.wp_at_zero Go.wp_at_succ
variable {w:World} {s:Value} {l:List Int} {i:Nat} {x:Int}
def zg3 (w:World) (s:Value) (l:List Int):Prop:=
 ∃ p cap,s = .slice p l.length cap∧l.length≤4194304∧(l ≠ []→∃ b o,p=some ⟨b,o,none⟩∧∀ i x,l[i]? = some x→w.cell? ⟨b,o+i,none⟩=some (.int .u64 x))
theorem zg3.call {w':World} (h:zg3 w s l) (hb:Below w.heap.size w w'):zg3 w' s l:=by
 obtain ⟨p,cap,h1,h2,h3⟩:=h
 refine ⟨p,cap,h1,h2,fun hne => ?_⟩
 obtain ⟨b,o,h5,h6⟩:=h3 hne
 exact ⟨b,o,h5,fun i x hi=>z6 (h6 i x hi) hb⟩
theorem zg3.elem (h:zg3 w s l) (hi:l[i]? = some x) :
 ∃ b o cap,s = .slice (some ⟨b,o,none⟩) l.length cap∧w.cell? ⟨b,o+i,none⟩=some (.int .u64 x):=by
 obtain ⟨p,cap,rfl,_,h3⟩:=h
 obtain ⟨b,o,rfl,h6⟩:=h3 (by intro e;subst e;simp at hi)
 exact ⟨b,o,cap,rfl,h6 i x hi⟩
theorem zg3.cells {b o n cap:Nat} (h:zg3 w (.slice (some ⟨b,o,none⟩) n cap) l) (hi:l[i]? = some x):w.cell? ⟨b,o+i,none⟩=some (.int .u64 x):=by
 obtain ⟨b',o',cap',e,h1⟩:=h.elem hi
 cases e
 exact h1
theorem zg3.shape (h:zg3 w s l):∃ p cap,s = .slice p l.length cap∧l.length≤4194304:=by
 obtain ⟨p,cap,h1,h2,_⟩:=h;exact ⟨p,cap,h1,h2⟩
theorem xu4 (w:World):Calls Tryz.prog 208 #[] w fun e w'=>e = .returned (.int .u64 18446744073709551615)∧w=w':=by
 go_enter Tryz.func208,Tryz.ntmps208
 go_wp2_with fail
 go_ret
 exact ⟨rfl,rfl⟩
def v82 (x:Iv) (w:World) (e:Ending) (w':World):Prop:=e = .returned (.agg #[.int .u64 x.1,.int .u64 x.2])∧Below w.heap.size w w'
set_option maxRecDepth 100000 in
set_option maxHeartbeats 2000000 in
theorem yt8 (S:List Int) (s:Value) (k:Nat) (w:World) (hS:zg3 w s S) (hk:k<S.length) (ha:∀ (i:Nat) (x:Int),S[i]? = some x→0≤x∧x≤18446744073709551615) (hlo:∀ x:Int,S[k+1]? = some x→1≤x) :
 Calls Tryz.prog 144 #[s,.int .i64 k] w (v82 (b8 18446744073709551615 S k) w):=by
 have hx:S[k]? = some S[k]:=by simp [hk]
 have hlen:=hS.shape.choose_spec.choose_spec.2
 obtain ⟨b,o,cap,rfl,c0⟩:=hS.elem hx
 have hp1:S.getD k 0=S[k]:=by simp [hk]
 have hj0:(0:Int)≤(k:Int):=by omega
 have hj1:(k:Int)<(S.length:Int):=by omega
 have hw1:IntKind.i64.wrap ((k:Int)+1)=(k:Int)+1:=IntWalk.i64_in _ (by omega)
 by_cases h2:k+1<S.length
 ·have hy:S[k+1]? = some S[k+1]:=by simp [h2]
  have c1:=hS.cells hy
  have hb:=ha _ _ hy
  have hlo:=hlo _ hy
  have HP:=qh (show b8 18446744073709551615 S k=(S[k],S[k+1] - 1) by unfold b8 g8;rw [hp1,hy])
  clear hp1 hx hy
  generalize S[k]=x at *
  generalize S[k+1]=y at *
  have hj2:(0:Int)≤(k:Int)+1:=by omega
  have hj3:(k:Int)+1<(S.length:Int):=by omega
  have hA:=(Kp.start w).new2 (.int .u64 0) (.int .u64 0) 65 w.heap.size rfl
  have hF:=(zq6.new2 (w:=w) (l := []) trivial (.int .u64 0) (.int .u64 0) 65 w.heap.size rfl)
  have d0:=z6 c0 (z8 w (.cells #[.int .u64 0,.int .u64 0] 65))
  have d1:=z6 c1 (z8 w (.cells #[.int .u64 0,.int .u64 0] 65))
  obtain ⟨W0,hW0⟩:∃ W0,w.alloc (.cells #[.int .u64 0,.int .u64 0] 65)=W0:=⟨_,rfl⟩
  rw [hW0] at hA hF d0 d1
  have HW0:=qh hW0;clear hW0 c0 c1
  obtain ⟨HA0,ha0,ha1,_⟩:=hA
  obtain ⟨⟨hf0,_⟩,⟨hf1,_⟩,_⟩:=hF
  have HA:=qh HA0;clear HA0
  clear hS ha
  go_enter Tryz.func144,Tryz.ntmps144
  go_wp2_with fail
  rw [HW0.out]
  go_still_tail 11,(by kernel_rfl)
  change wpList _ _ _ _ _ W0.drew
  obtain ⟨W1,hW1⟩:∃ W1,W0.drew=W1:=⟨_,rfl⟩
  have g0:W1.cell? ⟨w.heap.size,0,none⟩=some (.int .u64 0):=by rw [← hW1];simpa using ha0
  have g1:W1.cell? ⟨w.heap.size,1,none⟩=some (.int .u64 0):=by rw [← hW1];simpa using ha1
  have g2:W1.frozen? ⟨w.heap.size,0,none⟩=false:=by rw [← hW1];simpa using hf0
  have g3:W1.frozen? ⟨w.heap.size,1,none⟩=false:=by rw [← hW1];simpa using hf1
  have HD:=qh (show Below w.heap.size w W1 by rw [← hW1];exact HA.out.drew)
  rw [hW1]
  clear hW1 ha0 ha1 hf0 hf1 HW0
  go_wp2_with fail
  obtain ⟨q0,q1,_⟩:=At.set2 g0 g1 (l := []) trivial (by simp) (.int .u64 x) (.int .u64 (y - 1))
  refine bodyPost_ret (v := .agg #[.int .u64 x,.int .u64 (y - 1)]) (by simp [results,Tryz.results144,go_sem,q0,q1]) rfl ⟨by rw [HP.out],?_⟩
  exact j7 (j7 HD.out (Nat.le_refl _) _ _) (Nat.le_refl _) _ _
 ·have hn:S[k+1]? = none:=List.getElem?_eq_none_iff.2 (by omega)
  have HP:=qh (show b8 18446744073709551615 S k=(S[k],18446744073709551615) by unfold b8 g8;rw [hp1,hn];rfl)
  clear hp1 hx hn
  generalize S[k]=x at *
  have hj3:¬ (k:Int)+1<(S.length:Int):=by omega
  have hA:=(Kp.start w).new2 (.int .u64 0) (.int .u64 0) 65 w.heap.size rfl
  have hF:=(zq6.new2 (w:=w) (l := []) trivial (.int .u64 0) (.int .u64 0) 65 w.heap.size rfl)
  have d0:=z6 c0 (z8 w (.cells #[.int .u64 0,.int .u64 0] 65))
  obtain ⟨W0,hW0⟩:∃ W0,w.alloc (.cells #[.int .u64 0,.int .u64 0] 65)=W0:=⟨_,rfl⟩
  rw [hW0] at hA hF d0
  have HW0:=qh hW0;clear hW0 c0
  obtain ⟨HA0,ha0,ha1,_⟩:=hA
  obtain ⟨⟨hf0,_⟩,⟨hf1,_⟩,_⟩:=hF
  have HA:=qh HA0;clear HA0
  clear hS ha
  have KM:=xu4
  go_enter Tryz.func144,Tryz.ntmps144
  go_wp2_with fail
  rw [HW0.out]
  go_region_with ((go_at_call 208;refine (KM _).mono ?_;rintro e w' ⟨rfl,rfl⟩))
  all_goals
   have q0:(W0.setCell ⟨w.heap.size,0,none⟩ (.int .u64 x)).cell? ⟨w.heap.size,0,none⟩=some (.int .u64 x):=World.cell?_setCell_same' _ _ _ (by rw [ha0];rfl)
   have q1:((W0.setCell ⟨w.heap.size,0,none⟩ (.int .u64 x)).setCell ⟨w.heap.size,1,none⟩ (.int .u64 18446744073709551615)).cell? ⟨w.heap.size,1,none⟩=some (.int .u64 18446744073709551615):=World.cell?_setCell_same' _ _ _ (by rw [World.cell?_setCell_other _ _ _ _ (by simp),ha1];rfl)
   go_wp2_with fail
   refine bodyPost_ret (v := .agg #[.int .u64 x,.int .u64 18446744073709551615]) (by simp [results,Tryz.results144,go_sem,q0,q1]) rfl ⟨by rw [HP.out],?_⟩
   first
    | exact j7 (j7 HA.out (Nat.le_refl _) _ _) (Nat.le_refl _) _ _
    | exact (j7 (j7 HA.out (Nat.le_refl _) _ _) (Nat.le_refl _) _ _).drew
    | exact (j7 (j7 HA.out (Nat.le_refl _) _ _) (Nat.le_refl _) _ _).drew.drew
end
section
open Go.RowKit
attribute [local go_sem ↓] Go.wp_at_zero Go.wp_at_succ
variable {w W w1 w2:World} {B n:Nat} {L:List Iv} {v a b c d:Value} {p q r t:Addr}
theorem xb7 (a b c d:Int):z73 a b c d=1↔b+1=c:=by grind [z73]
theorem q7 {P:Program} {ops:Array Oper} {o:Oper} {a:Act} {K:Act→World→Prop} {Q:Exit→Act→World→Prop} {E:Prop} (hgd:o.guard=none) (s x:Operand) (t:TypeId)
 (ho:o.op = .call { callee := .builtin .append,args:=#[s,x],argTypes:=#[t,t] })
 (base:Nat) (e:TypeId) (i:TypeInfo) (z:Value) (size bytes:Nat) (ht:P.underlying t=some (.slice e)) (hi:P.info? e=some i) (hz:i.zero=some z)
 (hsize:i.size=size) (hby:i.bytes=bytes) (hzs:z.cells.size=size) (hsz:0<size)
 (v:Value) (n:Nat) (xs:List Value) (hs:a.eval s=v) (hown:w.ownsRow base e size v n xs)
 (ad:Addr) (m c:Nat) (news:List Value) (hx:a.eval x = .slice (some ad) m c) (hl:news.length=m*size) (hnews:∀ j u,news[j]? = some u→w.cell? (ad.add j)=some u) (h1:∀ u ∈ news,u.oneCell'=true)
 (h63:n+m≤maxLen) (hbytes:(n+m)*bytes≤140737488355328) (hbase:base≤w.heap.size)
 (h:∀ v' w',w'.ownsRow base e size v' (n+m) (xs++news)→w.grownBy w' v.ownBlock→K (a.put o.dst v') w') :
 if Region.wanted o (yielded ops a.tmps)=true then Oper.wp P o a w K Q else E:=by
 rw [if_pos (by simp [Region.wanted,hgd])]
 exact wp_append_own w s x t ho base e i z size bytes ht hi hz hsize hby hzs hsz v n xs hs hown ad m c news hx hl hnews h1 h63 hbytes hbase fun v' w' h2 h3 _=>h v' w' h2 h3
theorem xm5 {S:World→Prop} (h:S w):∃ wE,wE=w∧S wE:=⟨w,rfl,h⟩
theorem r9.room {g cap:Nat} (h:r9 W B (.slice (some ⟨g,0,none⟩) n cap) L):L.length≤cap:=by
 rcases h.2 with ⟨h1,_⟩ | ⟨g',cap',cur,h1,_,_,h2,_⟩
 ·cases h1
 ·cases h1;exact h2
theorem zl5 (w:World) (k:Nat) (hk:k=w.heap.size) (B:Nat) (hB:B≤w.heap.size):(w.alloc (.cells #[] 65)).ownsRow B 65 2 (.slice (some ⟨k,0,none⟩) 0 0) 0 []:=by
 subst hk
 exact World.ownsRow_lit w #[] 0 hB (Nat.zero_le _) rfl
theorem xu5 {a b:Addr} {u:Value} (h:Below W.heap.size W w1∧w1.cell? a=some u∧w1.cell? b=some v) (hb:Below w1.heap.size w1 w2) :
 Below W.heap.size W w2∧w2.cell? a=some u∧w2.cell? b=some v:=⟨z7 h.1 hb,z6 h.2.1 hb,z6 h.2.2 hb⟩
theorem wh9 {k:Nat} {x y:Value} (h0:w.cell? ⟨k,0,none⟩=some x) (h1:w.cell? ⟨k,1,none⟩=some y):∀ j u,[x,y][j]? = some u→w.cell? ((⟨k,0,none⟩:Addr).add j)=some u:=by
 intro j u h
 match j,h with
 | 0,h=>simp at h;subst h;simpa [Addr.add] using h0
 | 1,h=>simp at h;subst h;simpa [Addr.add] using h1
 | j+2,h=>simp at h
def x03 (B:Nat) (L:List Iv) (w:World) (e:Ending) (w':World):Prop:=∃ v,e = .returned v∧r9 w' B v L∧Below B w w'
theorem y74
 (h:(Below n W w1∧n≤w1.heap.size)∧w1.cell? p=some a∧w1.cell? q=some b∧w1.cell? r=some c∧w1.cell? t=some d∧r9 w1 B v L) (hb:Hid (Below w1.heap.size w1 w2)) :
 (Below n W w2∧n≤w2.heap.size)∧w2.cell? p=some a∧w2.cell? q=some b∧w2.cell? r=some c∧w2.cell? t=some d∧r9 w2 B v L:=
 ⟨⟨h.1.1.trans (hb.out.mono h.1.2),Nat.le_trans h.1.2 hb.out.size⟩,z6 h.2.1 hb.out,z6 h.2.2.1 hb.out,z6 h.2.2.2.1 hb.out,z6 h.2.2.2.2.1 hb.out,h.2.2.2.2.2.below hb.out⟩
theorem zs0
 (h:(Below n W w1∧n≤w1.heap.size)∧w1.cell? p=some a∧w1.cell? q=some b∧w1.cell? r=some c∧w1.cell? t=some d∧r9 w1 B v L) :
 (Below n W w1.drew∧n≤w1.drew.heap.size)∧w1.drew.cell? p=some a∧w1.drew.cell? q=some b∧w1.drew.cell? r=some c∧w1.drew.cell? t=some d∧r9 w1.drew B v L:=y74 h (Below.refl _ _).drew
set_option maxRecDepth 100000 in
set_option maxHeartbeats 4000000 in
theorem ws4 (v:Value) (B:Nat) (x1 x2:Int) (w:World) (hown:r9 w B v []) (hB:B≤w.heap.size) :
 Calls Tryz.prog 163 #[v,.agg #[.int .u64 x1,.int .u64 x2]] w (x03 B [(x1,x2)] w):=by
 obtain ⟨i0,hi',hz0,hz1,hz2⟩:=info_parts zb2
 obtain ⟨pv,cv,rfl,_⟩:=y8 hown
 have hown2:=hown.below (z8 w (.cells #[.int .u64 x1,.int .u64 x2] 65))
 have hA:=(Kp.start w).new2 (.int .u64 x1) (.int .u64 x2) 65 w.heap.size rfl
 obtain ⟨W0,hW0⟩:∃ W0,w.alloc (.cells #[.int .u64 x1,.int .u64 x2] 65)=W0:=⟨_,rfl⟩
 rw [hW0] at hA hown2
 have HW0:=qh hW0;clear hW0
 have HA:=qh hA;clear hA
 have HO:=qh hown2;clear hown2 hown
 go_enter Tryz.func163,Tryz.ntmps163
 go_wp2_with fail
 rw [HW0.out]
 go_quiet (fail)
 obtain ⟨wq,hwq⟩:∃ wq,W0.drewN nq=wq:=⟨_,rfl⟩
 have hd:Below W0.heap.size W0 wq:=hwq ▸ below_drewN (Below.refl _ _) _
 have S1:=qh (HA.out.call hd)
 have HO3:=qh (HO.out.below hd)
 obtain ⟨_,q0,q1,_⟩:=S1.out
 rw [hwq]
 clear hwq hd
 have hszq:=S1.out.1.size
 go_wp2_with (at_builtin;refine wpList_append_own _ rfl _ _ 42 rfl B 65 i0 (.agg #[.int .u64 0,.int .u64 0]) 2 16 Tryz.underlying42 hi' hz0 hz1 hz2 rfl (by decide) _ _ _ rfl (HO3.out.below (z8 _ _)) ⟨_,0,none⟩ 1 1 [.int .u64 x1,.int .u64 x2] rfl rfl (z60 _ _ _ _ _ rfl) (by simp [Value.oneCell']) (by unfold maxLen;simp) (by simp) (by simp;omega) ?_;intro v' w1 hown' hgrow _;obtain ⟨g',cap',rfl⟩:=ownsRow_succ hown';have HO4:=qh hown';clear hown';have HW:=qh (x8 ((y7 S1.out.1 _).mono hB) (HO3.out.below (z8 _ _)) hgrow (by simp;omega));clear hgrow)
 go_ret
 exact ⟨_,rfl,HO4.out,HW.out⟩
set_option maxRecDepth 100000 in
set_option maxHeartbeats 4000000 in
theorem ws5 (m:List Iv) (y:Iv) (v:Value) (B:Nat) (x1 x2:Int) (w:World) (hown:r9 w B v (m ++ [y])) (hB:B≤w.heap.size) (hlen:m.length≤4194304) (hy:yz3 y) (hx:yz3 (x1,x2)) (hn:¬ y.2+1=x1) :
 Calls Tryz.prog 163 #[v,.agg #[.int .u64 x1,.int .u64 x2]] w (x03 B (m ++ [y] ++ [(x1,x2)]) w):=by
 obtain ⟨i0,hi',hz0,hz1,hz2⟩:=info_parts zb2
 have hr1:=xb7 y.1 y.2 x1 x2
 have KX:=qh (fun w=>zj4 y.1 y.2 x1 x2 w hy.2.1 hx.1.2 hx.2.1 hy.1.2)
 obtain ⟨r,hr⟩:∃ r,z73 y.1 y.2 x1 x2=r:=⟨_,rfl⟩
 rw [hr] at KX hr1
 have hrb:(r == 1)=false:=by simp;omega
 have hown2:=hown.below (z8 w (.cells #[.int .u64 x1,.int .u64 x2] 65))
 have hA:=(Kp.start w).new2 (.int .u64 x1) (.int .u64 x2) 65 w.heap.size rfl
 obtain ⟨W0,hW0⟩:∃ W0,w.alloc (.cells #[.int .u64 x1,.int .u64 x2] 65)=W0:=⟨_,rfl⟩
 rw [hW0] at hA hown2
 obtain ⟨g,cap',rfl,y0,y1,_,_,hg1,hg2⟩:=hown2.last
 obtain ⟨yl,yh⟩:=y
 dsimp only at y0 y1
 have hs:(Below B w W0∧B≤W0.heap.size)∧W0.cell? ⟨g,m.length*2,none⟩=some (.int .u64 yl)∧W0.cell? ⟨g,m.length*2+1,none⟩=some (.int .u64 yh)∧W0.cell? ⟨w.heap.size,0,none⟩=some (.int .u64 x1)∧W0.cell? ⟨w.heap.size,1,none⟩=some (.int .u64 x2)∧r9 W0 B (.slice (some ⟨g,0,none⟩) (m.length+1) cap') (m ++ [(yl,yh)]):=
  ⟨⟨hA.1.mono hB,Nat.le_trans hB hA.1.size⟩,y0,y1,hA.2.1,hA.2.2.1,hown2⟩
 have HS2:=qh hs
 have HW0:=qh hW0;clear hW0
 have hm0:(0:Int)≤(m.length:Int):=by omega
 have hm1:(m.length:Int)<(m.length:Int)+1:=by omega
 have hw2:IntKind.i64.wrap (m.length:Int)=(m.length:Int):=IntWalk.i64_in _ (by omega)
 have hw3:IntKind.i64.wrap ((m.length:Int)+1 - 1)=(m.length:Int):=(IntWalk.i64_in _ (by omega)).trans (by omega)
 clear hown hown2 hA hs y0 y1 hr1 hr hy hx
 go_enter Tryz.func163,Tryz.ntmps163
 go_wp2_with fail
 rw [HW0.out]
 go_region_held3 (fun w'=>(Below B w w'∧B≤w'.heap.size)∧w'.cell? ⟨g,m.length*2,none⟩=some (.int .u64 yl)∧w'.cell? ⟨g,m.length*2+1,none⟩=some (.int .u64 yh)∧w'.cell? ⟨w.heap.size,0,none⟩=some (.int .u64 x1)∧w'.cell? ⟨w.heap.size,1,none⟩=some (.int .u64 x2)∧r9 w' B (.slice (some ⟨g,0,none⟩) (m.length+1) cap') (m ++ [(yl,yh)]))
  (first
    | exact y74 (by assumption) (by assumption)
    | exact zs0 (by assumption)
    | exact HS2.out
    | assumption)
  (first
    | (go_at_call 116;refine (KX.out _).mono ?_;rintro en w' ⟨rfl,hb4'⟩;have hb4:=qh hb4';clear hb4'))
 all_goals
  rename_i hE
  have HE:=qh hE
  obtain ⟨⟨_,hBE⟩,e0,e1,e2,e3,_⟩:=hE
  clear HS2
  go_wp2_with (at_builtin;refine wpList_append_own _ rfl _ _ 42 rfl B 65 i0 (.agg #[.int .u64 0,.int .u64 0]) 2 16 Tryz.underlying42 hi' hz0 hz1 hz2 rfl (by decide) _ (m.length+1) (ivC (m ++ [(yl,yh)])) rfl (r9.row (HE.out.2.2.2.2.2.below (z8 _ _))) ⟨_,0,none⟩ 1 1 [.int .u64 x1,.int .u64 x2] rfl rfl (z60 _ _ _ _ _ rfl) (by simp [Value.oneCell']) (by unfold maxLen;omega) (by omega) (by simp;omega) ?_;intro v' w1 hown' hgrow _;obtain ⟨g',cap',rfl⟩:=ownsRow_succ hown';have HO4:=qh hown';clear hown';have HW:=qh (x8 (HE.out.1.1.alloc HE.out.1.2 _) (HE.out.2.2.2.2.2.below (z8 _ _)) hgrow (by simp;omega));clear hgrow)
  go_ret
  exact ⟨_,rfl,by simpa [r9,ivC] using HO4.out,HW.out⟩
set_option maxRecDepth 100000 in
set_option maxHeartbeats 4000000 in
theorem wi0 (m:List Iv) (y:Iv) (v:Value) (B:Nat) (x1 x2:Int) (w:World) (hown:r9 w B v (m ++ [y])) (hB:B≤w.heap.size) (hlen:m.length≤4194304) (hy:yz3 y) (hx:yz3 (x1,x2)) (hn:y.2+1=x1) :
 Calls Tryz.prog 163 #[v,.agg #[.int .u64 x1,.int .u64 x2]] w (x03 B (m ++ [(y.1,x2)]) w):=by
 obtain ⟨i0,hi',hz0,hz1,hz2⟩:=info_parts zb2
 have hr1:=xb7 y.1 y.2 x1 x2
 have KX:=qh (fun w=>zj4 y.1 y.2 x1 x2 w hy.2.1 hx.1.2 hx.2.1 hy.1.2)
 obtain ⟨r,hr⟩:∃ r,z73 y.1 y.2 x1 x2=r:=⟨_,rfl⟩
 rw [hr] at KX hr1
 have hrb:(r == 1)=true:=by simp;omega
 have hown2:=hown.below (z8 w (.cells #[.int .u64 x1,.int .u64 x2] 65))
 have hA:=(Kp.start w).new2 (.int .u64 x1) (.int .u64 x2) 65 w.heap.size rfl
 obtain ⟨W0,hW0⟩:∃ W0,w.alloc (.cells #[.int .u64 x1,.int .u64 x2] 65)=W0:=⟨_,rfl⟩
 rw [hW0] at hA hown2
 obtain ⟨g,cap',rfl,y0,y1,_,_,hg1,hg2⟩:=hown2.last
 obtain ⟨yl,yh⟩:=y
 dsimp only at y0 y1
 have hs:(Below B w W0∧B≤W0.heap.size)∧W0.cell? ⟨g,m.length*2,none⟩=some (.int .u64 yl)∧W0.cell? ⟨g,m.length*2+1,none⟩=some (.int .u64 yh)∧W0.cell? ⟨w.heap.size,0,none⟩=some (.int .u64 x1)∧W0.cell? ⟨w.heap.size,1,none⟩=some (.int .u64 x2)∧r9 W0 B (.slice (some ⟨g,0,none⟩) (m.length+1) cap') (m ++ [(yl,yh)]):=
  ⟨⟨hA.1.mono hB,Nat.le_trans hB hA.1.size⟩,y0,y1,hA.2.1,hA.2.2.1,hown2⟩
 have HS2:=qh hs
 have HW0:=qh hW0;clear hW0
 have hm0:(0:Int)≤(m.length:Int):=by omega
 have hm1:(m.length:Int)<(m.length:Int)+1:=by omega
 have hw2:IntKind.i64.wrap (m.length:Int)=(m.length:Int):=IntWalk.i64_in _ (by omega)
 have hw3:IntKind.i64.wrap ((m.length:Int)+1 - 1)=(m.length:Int):=(IntWalk.i64_in _ (by omega)).trans (by omega)
 clear hown hown2 hA hs y0 y1 hr1 hr hy hx
 go_enter Tryz.func163,Tryz.ntmps163
 go_wp2_with fail
 rw [HW0.out]
 go_region_held3 (fun w'=>(Below B w w'∧B≤w'.heap.size)∧w'.cell? ⟨g,m.length*2,none⟩=some (.int .u64 yl)∧w'.cell? ⟨g,m.length*2+1,none⟩=some (.int .u64 yh)∧w'.cell? ⟨w.heap.size,0,none⟩=some (.int .u64 x1)∧w'.cell? ⟨w.heap.size,1,none⟩=some (.int .u64 x2)∧r9 w' B (.slice (some ⟨g,0,none⟩) (m.length+1) cap') (m ++ [(yl,yh)]))
  (first
    | exact y74 (by assumption) (by assumption)
    | exact zs0 (by assumption)
    | exact HS2.out
    | assumption)
  (first
    | (go_at_call 116;refine (KX.out _).mono ?_;rintro en w' ⟨rfl,hb4'⟩;have hb4:=qh hb4';clear hb4'))
 all_goals
  rename_i hE
  have HE:=qh hE
  obtain ⟨⟨_,hBE⟩,e0,e1,e2,e3,_⟩:=hE
  clear HS2
  obtain ⟨wE,hwE,hE⟩:=xm5 (S:=fun w'=>(Below B w w'∧B≤w'.heap.size)∧w'.cell? ⟨g,m.length*2,none⟩=some (.int .u64 yl)∧w'.cell? ⟨g,m.length*2+1,none⟩=some (.int .u64 yh)∧w'.cell? ⟨w.heap.size,0,none⟩=some (.int .u64 x1)∧w'.cell? ⟨w.heap.size,1,none⟩=some (.int .u64 x2)∧r9 w' B (.slice (some ⟨g,0,none⟩) (m.length+1) cap') (m ++ [(yl,yh)])) HE.out
  subst hwE
  have hroom:=hE.2.2.2.2.2.room
  rw [List.length_append,List.length_singleton] at hroom
  have hm2:(m.length:Int)≤(cap':Int):=by omega
  have hnews:∀ j u,(ivC m)[j]? = some u→wE.cell? ((⟨g,0,none⟩:Addr).add j)=some u:=fun j u hj=>by
   refine (r9.row hE.2.2.2.2.2).cells (g:=g) rfl j u ?_
   rw [zc3,List.getElem?_append_left (List.getElem?_eq_some_iff.1 hj).1];exact hj
  have HN:=qh hnews
  have hs3:Below wE.heap.size wE wE∧wE.cell? ⟨g,m.length*2,none⟩=some (.int .u64 yl)∧wE.cell? ⟨w.heap.size,1,none⟩=some (.int .u64 x2):=⟨Below.refl _ _,e0,e3⟩
  have HS3:=qh hs3
  have hivl:=zd9 m
  have HIL:=qh hivl
  clear hE hnews hs3 e0 e1 e2 e3 hroom hivl
  go_wp2_with fail
  go_region_held3 (fun w'=>Below wE.heap.size wE w'∧w'.cell? ⟨g,m.length*2,none⟩=some (.int .u64 yl)∧w'.cell? ⟨w.heap.size,1,none⟩=some (.int .u64 x2))
   (first
     | exact ⟨HS3.out.1.drew,by simpa using HS3.out.2⟩
     | exact xu5 HS3.out (z8 _ _).drew
     | exact xu5 HS3.out (y7 (z8 _ _) _).drew
     | exact xu5 HS3.out (Hid.out (by assumption))
     | exact xu5 HS3.out (y7 (Hid.out (by assumption)) _)
     | assumption)
   (first
     | ((refine q7 (by rfl) (.tmp 20) (.tmp 24) _ (by rfl) wE.heap.size 65 i0 (.agg #[.int .u64 0,.int .u64 0]) 2 16 Tryz.underlying42 hi' hz0 hz1 hz2 rfl (by decide) (.slice (some ⟨wE.heap.size,0,none⟩) 0 0) 0 [] (by rfl) (y6 (zl5 wE _ rfl _ (Nat.le_refl _)) (Below.refl _ _).drew) ⟨g,0,none⟩ m.length cap' (ivC m) (by rfl) HIL.out (fun j u hj=>z6 (HN.out j u hj) ((z8 _ _).drew)) (zu5 m) (by unfold maxLen;omega) (by omega) (((z8 _ _).drew).size) ?_;intro v1 w1 hown1 hgrow1;have HG:=qh (x8 (((z8 _ _).drew)) (y6 (zl5 wE _ rfl _ (Nat.le_refl _)) (Below.refl _ _).drew) hgrow1 (((z8 _ _).drew).size));have HK:=qh (fun (p:Addr) (u:Value) h (hp:p.block≠wE.heap.size)=>hgrow1.cell (a:=p) (v:=u) h (by simpa [Value.ownBlock] using hp));have hown1b:w1.ownsRow wE.heap.size 65 2 v1 m.length (ivC m):=(by simpa using hown1);obtain ⟨p1,c1,rfl,_⟩:=y8 hown1b;have HO1:=qh hown1b;have way1:=Nat.le_refl 1;clear hown1 hown1b hgrow1))
     | ((refine q7 (by rfl) (.tmp 20) (.tmp 24) _ (by rfl) wE.heap.size 65 i0 (.agg #[.int .u64 0,.int .u64 0]) 2 16 Tryz.underlying42 hi' hz0 hz1 hz2 rfl (by decide) (.slice (some ⟨wE.heap.size,0,none⟩) 0 0) 0 [] (by rfl) (y6 (zl5 wE _ rfl _ (Nat.le_refl _)) (z8 _ _).drew) ⟨g,0,none⟩ m.length cap' (ivC m) (by rfl) HIL.out (fun j u hj=>z6 (HN.out j u hj) ((y7 (z8 _ _) _).drew)) (zu5 m) (by unfold maxLen;omega) (by omega) (((y7 (z8 _ _) _).drew).size) ?_;intro v1 w1 hown1 hgrow1;have HG:=qh (x8 (((y7 (z8 _ _) _).drew)) (y6 (zl5 wE _ rfl _ (Nat.le_refl _)) (z8 _ _).drew) hgrow1 (((y7 (z8 _ _) _).drew).size));have HK:=qh (fun (p:Addr) (u:Value) h (hp:p.block≠wE.heap.size)=>hgrow1.cell (a:=p) (v:=u) h (by simpa [Value.ownBlock] using hp));have hown1b:w1.ownsRow wE.heap.size 65 2 v1 m.length (ivC m):=(by simpa using hown1);obtain ⟨p1,c1,rfl,_⟩:=y8 hown1b;have HO1:=qh hown1b;have way2:=Nat.le_refl 2;clear hown1 hown1b hgrow1))
     | ((refine q7 (by rfl) (.tmp 20) (.tmp 24) _ (by rfl) wE.heap.size 65 i0 (.agg #[.int .u64 0,.int .u64 0]) 2 16 Tryz.underlying42 hi' hz0 hz1 hz2 rfl (by decide) (.slice (some ⟨wE.heap.size+1,0,none⟩) 0 0) 0 [] (by rfl) (y6 (zl5 (wE.alloc _) _ (by simp) _ (z8 _ _).size) (Below.refl _ _).drew) ⟨g,0,none⟩ m.length cap' (ivC m) (by rfl) HIL.out (fun j u hj=>z6 (HN.out j u hj) ((y7 (z8 _ _) _).drew)) (zu5 m) (by unfold maxLen;omega) (by omega) (((y7 (z8 _ _) _).drew).size) ?_;intro v1 w1 hown1 hgrow1;have HG:=qh (x8 (((y7 (z8 _ _) _).drew)) (y6 (zl5 (wE.alloc _) _ (by simp) _ (z8 _ _).size) (Below.refl _ _).drew) hgrow1 (((y7 (z8 _ _) _).drew).size));have HK:=qh (fun (p:Addr) (u:Value) h (hp:p.block≠wE.heap.size+1)=>hgrow1.cell (a:=p) (v:=u) h (by simpa [Value.ownBlock] using hp));have hown1b:w1.ownsRow wE.heap.size 65 2 v1 m.length (ivC m):=(by simpa using hown1);obtain ⟨p1,c1,rfl,_⟩:=y8 hown1b;have HO1:=qh hown1b;have way3:=Nat.le_refl 3;clear hown1 hown1b hgrow1))
     | ((have _u:=way1;refine q7 (by rfl) (.tmp 25) (.tmp 35) _ (by rfl) wE.heap.size 65 i0 (.agg #[.int .u64 0,.int .u64 0]) 2 16 Tryz.underlying42 hi' hz0 hz1 hz2 rfl (by decide) (.slice p1 m.length c1) m.length (ivC m) (by rfl) (y6 HO1.out (z8 _ _)) ⟨w1.heap.size,0,none⟩ 1 1 [.int .u64 yl,.int .u64 x2] (by rfl) rfl (z60 _ _ _ _ _ rfl) (by simp [Value.oneCell']) (by unfold maxLen;omega) (by omega) ((y7 HG.out _).size) ?_;intro v2 w2 hown2 hgrow2;have HG2:=qh (x8 ((y7 HG.out _)) (y6 HO1.out (z8 _ _)) hgrow2 ((y7 HG.out _).size));obtain ⟨g2,c2,rfl⟩:=ownsRow_succ hown2;have HO2:=qh hown2;clear hown2 hgrow2))
     | ((have _u:=way2;refine q7 (by rfl) (.tmp 25) (.tmp 35) _ (by rfl) wE.heap.size 65 i0 (.agg #[.int .u64 0,.int .u64 0]) 2 16 Tryz.underlying42 hi' hz0 hz1 hz2 rfl (by decide) (.slice p1 m.length c1) m.length (ivC m) (by rfl) (HO1.out) ⟨wE.heap.size+1,0,none⟩ 1 1 [.int .u64 yl,.int .u64 x2] (by rfl) rfl (wh9 (HK.out ⟨wE.heap.size+1,0,none⟩ _ (by simp) (by simp)) (HK.out ⟨wE.heap.size+1,1,none⟩ _ (by simp) (by simp))) (by simp [Value.oneCell']) (by unfold maxLen;omega) (by omega) (HG.out.size) ?_;intro v2 w2 hown2 hgrow2;have HG2:=qh (x8 (HG.out) (HO1.out) hgrow2 (HG.out.size));obtain ⟨g2,c2,rfl⟩:=ownsRow_succ hown2;have HO2:=qh hown2;clear hown2 hgrow2))
     | ((have _u:=way3;refine q7 (by rfl) (.tmp 25) (.tmp 35) _ (by rfl) wE.heap.size 65 i0 (.agg #[.int .u64 0,.int .u64 0]) 2 16 Tryz.underlying42 hi' hz0 hz1 hz2 rfl (by decide) (.slice p1 m.length c1) m.length (ivC m) (by rfl) (HO1.out) ⟨wE.heap.size,0,none⟩ 1 1 [.int .u64 yl,.int .u64 x2] (by rfl) rfl (wh9 (HK.out ⟨wE.heap.size,0,none⟩ _ (by simp) (by simp)) (HK.out ⟨wE.heap.size,1,none⟩ _ (by simp) (by simp))) (by simp [Value.oneCell']) (by unfold maxLen;omega) (by omega) (HG.out.size) ?_;intro v2 w2 hown2 hgrow2;have HG2:=qh (x8 (HG.out) (HO1.out) hgrow2 (HG.out.size));obtain ⟨g2,c2,rfl⟩:=ownsRow_succ hown2;have HO2:=qh hown2;clear hown2 hgrow2)))
  all_goals
   go_wp2_with fail
   go_ret
   exact ⟨_,rfl,p8 (by simpa [r9,ivC] using HO2.out) HE.out.1.2,HE.out.1.1.trans (HG2.out.mono HE.out.1.2)⟩
end
section
open Go.RowKit
variable {W:World} {B g n cap sz c:Nat} {v:Value} {e:TypeId} {xs:List Value} {S:List Int}
def e8 (l:List Int):List Value:=l.map (Value.int .u64)
theorem z80 (l:List Int):(e8 l).length=l.length*1:=by simp [e8]
theorem xb8 (l:List Int) (x:Int):e8 (l ++ [x])=e8 l ++ [.int .u64 x]:=by simp [e8]
theorem z48 (l:List Int):∀ v ∈ e8 l,v.oneCell'=true:=by
 intro v hv
 unfold e8 at hv
 obtain ⟨x,_,rfl⟩:=List.mem_map.1 hv
 rfl
theorem yl2:(Tryz.prog.info? 36).map (fun i=>(i.zero,i.size,i.bytes))=some (some (.int .u64 0),1,8):=by kernel_rfl
def d7 (W:World) (B:Nat) (v:Value) (L:List Int):Prop:=W.ownsRow B 36 1 v L.length (e8 L)
theorem d7.below {W':World} {L:List Int} (h:d7 W B v L) (hb:Below W.heap.size W W'):d7 W' B v L:=y6 h hb
theorem d7.nil (W:World) (B:Nat):d7 W B (.slice none 0 0) []:=World.ownsRow_nil _ _ _ _
theorem d7.nums {w:World} {l:List Int} (h:d7 w B v l) (hl:l.length≤4194304):zg3 w v l:=by
 obtain ⟨h1,h2⟩:=h
 rcases h2 with ⟨rfl,hn⟩ | ⟨g,cap,cur,rfl,hg,hh,hnc,_,hcs,ht⟩
 ·obtain rfl:l = []:=List.length_eq_zero_iff.1 hn
  exact ⟨none,0,rfl,by simp,fun h=>absurd rfl h⟩
 ·refine ⟨_,cap,rfl,hl,fun _=>⟨g,0,rfl,fun i x hi => ?_⟩⟩
  have hlt:i<l.length:=(List.getElem?_eq_some_iff.1 hi).1
  have e1:w.cell? ⟨g,0+i,none⟩=cur[i]? := by simp [World.cell?,hh]
  rw [e1,← Array.getElem?_toList]
  have hx:(e8 l)[i]? = some (.int .u64 x):=by simp [e8,hi]
  rw [← ht,List.getElem?_take] at hx
  rw [if_pos (by omega)] at hx
  exact hx
theorem y75 {k:Nat} (h:W.ownsRow B e 1 (.slice (some ⟨g,0,none⟩) n cap) n xs) (hk:k≤n):W.ownsRow B e 1 (.slice (some ⟨g,0,none⟩) k cap) k (xs.take k):=by
 obtain ⟨h1,h2⟩:=h
 refine ⟨by simp;omega,?_⟩
 rcases h2 with ⟨h2,_⟩ | ⟨g',cap',cur,h2,a,b,c,d,f,ht⟩
 ·cases h2
 ·cases h2
  refine .inr ⟨g,cap,cur,rfl,a,b,by omega,d,f,?_⟩
  rw [← ht,List.take_take,Nat.mul_one,Nat.mul_one,Nat.min_eq_left hk]
theorem yl3 (h:W.ownsRow B e sz (.slice (some ⟨g,0,none⟩) n cap) n xs):n≤cap:=by
 rcases h.2 with ⟨h1,_⟩ | ⟨g',cap',cur,h1,_,_,h2,_⟩
 ·cases h1
 ·cases h1;exact h2
theorem zg4 (h:W.ownsRow B e sz v n xs):(v = .slice none 0 0∧n=0)∨∃ g cap,v = .slice (some ⟨g,0,none⟩) n cap:=by
 rcases h.2 with h1 | ⟨g,cap,cur,rfl,_⟩
 ·exact .inl h1
 ·exact .inr ⟨g,cap,rfl⟩
theorem x04 (U:Int) (l:List Iv):(zg9 U l).length≤1+2*l.length:=by
 unfold zg9
 rw [List.length_cons]
 have:(l.flatMap fun y=>if y.2<U then [y.1,y.2+1] else [y.1]).length≤2*l.length:=by
  induction l with
  | nil=>simp
  | cons y l ih =>
    rw [List.flatMap_cons,List.length_append,List.length_cons]
    have h2:(if y.2<U then [y.1,y.2+1] else [y.1]).length≤2:=by split <;> simp
    omega
 omega
theorem ws6 (S:List Int) (x:Int):(b7 S x).length≤S.length+1:=by grind [b7,List.length_append,List.length_cons,List.length_take,List.length_drop]
theorem zg5:∀ (R S:List Int),(R.foldl b7 S).length≤S.length+R.length
 | [],S=>by simp
 | x :: R,S=>by have:=zg5 R (b7 S x);have:=ws6 S x;rw [List.foldl_cons,List.length_cons];omega
theorem zg6 (U:Int) (l:List Iv):(r6 U l).length≤1+2*l.length:=by grind [zg5,zg9,x04,r6]
theorem wz9 (h:zg0 S) (x:Int) {j:Nat} {y:Int} (hj:S[j]? = some y):(y≤x↔j<S.countP fun y=>decide (y≤x)):=by
 have hs:=y69 S x h
 have hlt:j<S.length:=(List.getElem?_eq_some_iff.1 hj).1
 constructor
 ·intro hy
  apply Classical.byContradiction;intro hn
  have:y ∈ S.drop (S.countP fun y=>decide (y≤x)):=List.mem_of_getElem? (i:=j - S.countP fun y=>decide (y≤x)) (by rw [List.getElem?_drop,show (S.countP fun y=>decide (y≤x))+(j - S.countP fun y=>decide (y≤x))=j by omega];exact hj)
  grind
 ·intro hc
  exact hs.1 y (List.mem_of_getElem? (i:=j) (by rw [List.getElem?_take,if_pos hc];exact hj))
theorem wi1 (x:Int) (hc:(S.countP fun y=>decide (y≤x))=c) (h:c=0∨¬ S[c - 1]? = some x):b7 S x=S.take c++x :: S.drop c:=by grind [b7,Nat.eq_zero_or_pos]
theorem ws7 (x:Int) (hc:(S.countP fun y=>decide (y≤x))=c) (h:c≠0) (hx:S[c - 1]? = some x):b7 S x=S:=by grind [b7]
end
section
def lsd (n:Nat):List Nat:=if h:n=0 then [] else n % 10 :: lsd (n / 10)
termination_by n
decreasing_by omega
def v00 (d:Nat):UInt8:=UInt8.ofNat (48+d)
def x05 (n:Nat):List UInt8:=if n=0 then [48] else (lsd n).reverse.map v00
def ds (n k:Nat):List Nat:=(List.range k).map fun i=>n / 10 ^ i % 10
end
section
open Go.RowKit
def v01 (x:Iv):List UInt8:=if x.2=x.1 then x05 x.1.toNat else x05 x.1.toNat++45 :: x05 x.2.toNat
def vI (d:Nat):Value := .int .i64 (d:Int)
theorem cell_one_new (w:World) (v:Value) (t:TypeId):∀ j u,([v]:List Value)[j]? = some u→(w.alloc (.cells #[v] t)).cell? ((⟨w.heap.size,0,none⟩:Addr).add j)=some u:=by
 intro j u h
 cases j with
 | zero=>simpa [Addr.add] using h
 | succ j=>simp at h
def pre (l:List Iv) (k:Nat):List UInt8:=Lib.join ((l.take k).map v01) [44]
end
end Go.Proofs.YtchndljcahjldaaGreatDoor
