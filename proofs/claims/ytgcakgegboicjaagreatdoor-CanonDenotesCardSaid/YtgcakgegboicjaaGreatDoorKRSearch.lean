/- The library's sort.Search at this seat: its shelf's contract. -/
import Derived.Shelf.SlGeneric
import Derived.Shelf.SlSorted.Search
import Derived.Ground.SlsoProg
import Derived.Test.YtgcakgegboicjaaGreatDoorKRCheck
import Derived.Deep.DrawnRows
import Derived.Test.YtgcakgegboicjaaGreatDoorKROwn
import Derived.StillTailTactics
import Derived.RegionTactic
import Derived.Deep.RegionWith
import Derived.Deep.RegionLaw
import Derived.Lib.Walk
import Derived.Lib.ItoaWalk
import Derived.Lib.ItoaMem
import Derived.Lib.AppendIntMem
import Derived.Lib.BufferKept
import Derived.BigCall
import Derived.BigGuard
import Derived.Lib.Join
import Derived.Laws.BitsAllLaws
namespace Go.Proofs
open Go.Shelf
def Tryz.search_ren:Go.Shelf.Ren:=⟨fun | 16=>131 | n=>n,fun | 3=>3 | 35=>85 | 4=>4 | 38=>214 | n=>n,fun | n=>n⟩
theorem Tryz.search:Go.Proofs.SlLaysO.n16 Tryz.prog Tryz.search_ren:={
 mixed:=by kernel_rfl
 f16:=Tryz.func131.trans (congrArg some (by kernel_rfl))
 t3:=Tryz.underlying3
 a3:=Tryz.isAgg3
 z3:=Tryz.sizeOf3
 v3:=Tryz.zeroValue3
 t4:=Tryz.underlying4
 a4:=Tryz.isAgg4
 z4:=Tryz.sizeOf4
 v4:=Tryz.zeroValue4
 t35:=Tryz.underlying85
 a35:=Tryz.isAgg85
 z35:=Tryz.sizeOf85
 v35:=Tryz.zeroValue85
 t38:=Tryz.underlying214
 a38:=Tryz.isAgg214
 z38:=Tryz.sizeOf214
 v38:=Tryz.zeroValue214 }
end Go.Proofs
namespace Go.Proofs.YtgcakgegboicjaaGreatDoor
section
open Go.RowKit Go.Shelf Go.Lib
open Go.Sort hiding Below
attribute [local go_sem ↓] Go.wp_at_zero Go.wp_at_succ
def upB (l:List Iv) (x:Int) (i:Nat):Bool:=match l[i]? with | some y=>decide (x≤y.2) | none=>true
theorem upB_at {l:List Iv} {i:Nat} {y:Iv} (x:Int) (h:l[i]? = some y):upB l x i=decide (x≤y.2):=by unfold upB;rw [h]
theorem up_mono {l:List Iv} (h:canon l) (x:Int):∀ a b,a≤b→b<l.length→upB l x a=true→upB l x b=true:=by
 intro a b hab hb ha
 have hya:l[a]? = some l[a]:=by simp [show a<l.length by omega]
 have hyb:l[b]? = some l[b]:=by simp [hb]
 rw [upB_at x hya] at ha
 rw [upB_at x hyb]
 rcases Nat.lt_or_eq_of_le hab with hlt | heq
 ·have h1:=canon_up l h a b _ _ hlt hya hyb
  have h2:=canon_ok l h _ (List.getElem_mem hb)
  simp at ha ⊢;omega
 ·subst heq;exact ha
theorem count_first {l:List Iv} (h:canon l) (x:Int):(List.range l.length).countP (fun i => !upB l x i)=firstL l x:=by
 have hle:firstL l x≤l.length:=List.findIdx_le_length
 have h1:∀ i,i<firstL l x→upB l x i=false:=by
  intro i hi
  have hy:l[i]? = some l[i]:=by simp [show i<l.length by omega]
  rw [upB_at x hy]
  have:=List.not_of_lt_findIdx (p:=fun y:Iv=>decide (x≤y.2)) (xs:=l) (i:=i) hi
  simpa using this
 have h2:∀ i,firstL l x≤i→i<l.length→upB l x i=true:=by
  intro i hi hlt
  have hk:firstL l x<l.length:=by omega
  refine up_mono h x (firstL l x) i hi hlt ?_
  have hy:l[firstL l x]? = some l[firstL l x]:=by simp [hk]
  rw [upB_at x hy]
  exact List.findIdx_getElem (p:=fun y:Iv=>decide (x≤y.2)) (xs:=l) (w:=hk)
 obtain ⟨m,hm⟩:∃ m,l.length=firstL l x+m:=⟨l.length - firstL l x,by omega⟩
 rw [hm,List.range_add,List.countP_append]
 have e1:(List.range (firstL l x)).countP (fun i => !upB l x i)=firstL l x:=by
  have:(List.range (firstL l x)).countP (fun i => !upB l x i)=(List.range (firstL l x)).length:=by
   rw [List.countP_eq_length]
   intro i hi
   rw [h1 i (by simpa using hi)];rfl
  simpa using this
 have e2:((List.range m).map (firstL l x + ·)).countP (fun i => !upB l x i)=0:=by
  rw [List.countP_eq_zero]
  intro i hi
  obtain ⟨j,hj,rfl⟩:=List.mem_map.1 hi
  rw [h2 (firstL l x+j) (by omega) (by have:j<m:=by simpa using hj
                                       omega)]
  simp
 rw [e1,e2];rfl
set_option maxRecDepth 100000 in
theorem up_any (l:List Iv) (s:Value) (x:Int) (i kl kx:Nat) (w:World) (hl:IvsAt w s l) (hi:i<l.length) (hcl:w.cell? ⟨kl,0,none⟩=some s) (hcx:w.cell? ⟨kx,0,none⟩=some (.int .u64 x)) :
 Calls Tryz.prog 209 #[.int .i64 i,.pointer (some ⟨kx,0,none⟩),.pointer (some ⟨kl,0,none⟩)] w fun e w'=>e = .returned (.bool (upB l x i))∧∃ q,w'=w.drewN q:=by
 have hy:l[i]? = some l[i]:=by simp [hi]
 have hlen:=hl.shape.choose_spec.choose_spec.2
 rw [upB_at x hy]
 obtain ⟨b,o,cap,rfl,c0,c1⟩:=hl.elem hy
 generalize l[i]=y at *
 obtain ⟨y1,y2⟩:=y
 dsimp only at c0 c1 ⊢
 have hj0:(0:Int)≤(i:Int):=by omega
 have hj1:(i:Int)<(l.length:Int):=by omega
 clear hl hy
 go_enter Tryz.func209,Tryz.ntmps209
 go_wp2_with fail
 go_quiet (fail)
 go_wp2_with fail
 go_ret
 exact ⟨rfl,_,rfl⟩
theorem hasR (a b x:Int) (r:Bool) (w:World) (h:hasB a b x=r) :
 Calls Tryz.prog 210 #[.agg #[.int .u64 a,.int .u64 b],.int .u64 x] w (IsEnd r w):=by
 subst h;exact has_any a b x w
set_option maxRecDepth 100000 in
set_option maxHeartbeats 4000000 in
theorem find_any (l:List Iv) (s:Value) (x:Int) (w:World) (hl:IvsAt w s l) (hc:canon l) :
 Calls Tryz.prog 143 #[s,.int .u64 x] w (IsInt (findL l x) w):=by
 obtain ⟨p,cap,rfl,hlen⟩:=hl.shape
 have eg:∀ args w,(callFunc 209 args).run Tryz.prog w = .ok (.enter 209 args) w:=enters_of Tryz.func209 (by kernel_rfl) rfl
 have hA:=(Kp.start w).new1 (.slice p l.length cap) 42 w.heap.size rfl
 have hB:=hA.new1 (.int .u64 x) 36 (w.heap.size+1) (by simp)
 obtain ⟨W0,hW0⟩:∃ W0,(w.alloc (.cells #[.slice p l.length cap] 42)).alloc (.cells #[.int .u64 x] 36)=W0:=⟨_,rfl⟩
 rw [hW0] at hB
 have hsz0:w.heap.size+2=W0.heap.size:=by rw [← hW0];simp
 have hcon:=Any.sort_Search Tryz.search 209 #[.pointer (some ⟨w.heap.size+1,0,none⟩),.pointer (some ⟨w.heap.size,0,none⟩)] l.length (upB l x) W0 eg (by omega)
  (fun m os i hi=>by
    have hb:Below W0.heap.size W0 (grow (W0.drewN m) os):=below_grown_sl _ _ _ _ (Nat.le_refl _)
    refine (up_any l _ x i w.heap.size (w.heap.size+1) _ (hl.call (below_call hB.1 hb)) hi (keep_cell hB.2.2.1 hb) (keep_cell hB.2.1 hb)).mono ?_
    rintro e w' ⟨rfl,q,rfl⟩
    exact ⟨rfl,q,#[],by simp⟩)
  (up_mono hc x)
 change Calls Tryz.prog 131 _ _ _ at hcon
 rw [count_first hc x] at hcon
 have hFL:firstL l x≤l.length:=List.findIdx_le_length
 obtain ⟨k,hk⟩:∃ k,firstL l x=k:=⟨_,rfl⟩
 rw [hk] at hcon hFL
 have I:=qh hl;clear hl
 have HC:=qh hcon;clear hcon
 have HK:=qh hk;clear hk
 have HBx:=qh hB;clear hB hA
 have KH:=qh hasR
 have HW0:=qh hW0;clear hW0
 clear eg hc
 go_enter Tryz.func143,Tryz.ntmps143
 go_wp2_with fail
 rw [HW0.out]
 refine HC.out.mono ?_
 rintro e w1 ⟨rfl,q,os,rfl⟩
 have hb1:Below W0.heap.size W0 (grow (W0.drewN q) os):=below_grown_sl _ _ _ _ (Nat.le_refl _)
 generalize grow (W0.drewN q) os=w1 at *
 have S1:=qh (HBx.out.call hb1);clear hb1
 have hcx:=S1.out.2.1
 have hcl:=S1.out.2.2.1
 by_cases hlt:k<l.length
 ·obtain ⟨y,hy⟩:∃ y,l[k]? = some y:=⟨l[k],by simp [hlt]⟩
  obtain ⟨b0,o0,cap0,e0,z0,z1⟩:=(I.out.call S1.out.1).elem hy
  cases e0
  have HF:=qh (show findL l x=if inI y x then (k:Int) else -1 by unfold findL;rw [HK.out,hy])
  obtain ⟨r,hr⟩:∃ r,hasB y.1 y.2 x=r:=⟨_,rfl⟩
  have KX:=qh (fun w=>KH.out y.1 y.2 x r w hr)
  have HR:=qh hr
  clear hr hy
  obtain ⟨y1,y2⟩:=y
  dsimp only at z0 z1
  have hj0:(0:Int)≤(k:Int):=by omega
  have hj1:(k:Int)<(l.length:Int):=by omega
  have hs:Below w.heap.size w w1∧w1.cell? ⟨w.heap.size,0,none⟩=some (.slice (some ⟨b0,o0,none⟩) l.length cap)∧w1.cell? ⟨w.heap.size+1,0,none⟩=some (.int .u64 x)∧w1.cell? ⟨b0,o0+k*2,none⟩=some (.int .u64 y1)∧w1.cell? ⟨b0,o0+k*2+1,none⟩=some (.int .u64 y2):=⟨S1.out.1,hcl,hcx,z0,z1⟩
  clear hcl hcx z0 z1
  go_wp2_with fail
  go_region_held3 (fun w'=>Below w.heap.size w w'∧w'.cell? ⟨w.heap.size,0,none⟩=some (.slice (some ⟨b0,o0,none⟩) l.length cap)∧w'.cell? ⟨w.heap.size+1,0,none⟩=some (.int .u64 x)∧w'.cell? ⟨b0,o0+k*2,none⟩=some (.int .u64 y1)∧w'.cell? ⟨b0,o0+k*2+1,none⟩=some (.int .u64 y2))
   (first
     | exact keep_four (by assumption) (by assumption)
     | exact keep_four_drew (by assumption)
     | exact hs
     | assumption)
   (first
     | (go_at_call 210;refine (KX.out _).mono ?_;rintro en w' ⟨rfl,hb4'⟩;have hb4:=qh hb4';clear hb4'))
  all_goals
   rename_i hE
   have HE:=qh hE.1
   clear hs hE
   cases r with
   | true =>
     go_wp2_with fail
     go_ret
     exact ⟨ret_num (by rw [HF.out];exact (if_pos HR.out).symm),HE.out⟩
   | false =>
     go_wp2_with fail
     go_ret
     exact ⟨ret_num (by rw [HF.out];exact (if_neg (by show ¬ hasB y1 y2 x=true;rw [HR.out];simp)).symm),HE.out⟩
 ·have HF:=qh (show findL l x = -1 by unfold findL;rw [HK.out,List.getElem?_eq_none_iff.2 (by omega)])
  have hj1:¬ (k:Int)<(l.length:Int):=by omega
  have hd:decide ((k:Int)<(l.length:Int))=false:=by simpa using hj1
  go_wp2_with fail
  go_quiet (fail)
  go_wp2_with fail
  go_ret
  exact ⟨ret_num HF.out.symm,below_drewN S1.out.1 _⟩
theorem rhas_any (l:List Iv) (s:Value) (x:Int) (w:World) (hl:IvsAt w s l) (hc:canon l) :
 Calls Tryz.prog 76 #[s,.int .u64 x] w (IsEnd (hasL l x) w):=by
 have K:=qh (find_any l s x w hl hc)
 have e:=findL_has hc x
 have hlow:=findL_low l x
 have HX:=qh (show (findL l x != -1)=hasL l x by rw [← e,Bool.eq_iff_iff];simp;omega)
 generalize findL l x=f at *
 clear hl hc e hlow
 go_enter Tryz.func76,Tryz.ntmps76
 go_wp2_with fail
 refine K.out.mono ?_
 rintro e w1 ⟨rfl,h1⟩
 have H1:=qh h1;clear h1
 go_wp2_with fail
 go_ret
 exact ⟨ret_bool HX.out,H1.out⟩
end
section
open Go.RowKit
def nmC (l:List Int):List Value:=l.map (Value.int .u64)
theorem infoU:(Tryz.prog.info? 36).map (fun i=>(i.zero,i.size,i.bytes))=some (some (.int .u64 0),1,8):=by kernel_rfl
def OwnN (W:World) (B:Nat) (v:Value) (L:List Int):Prop:=W.ownsRow B 36 1 v L.length (nmC L)
theorem OwnN.below {W W':World} {B:Nat} {v:Value} {L:List Int} (h:OwnN W B v L) (hb:Below W.heap.size W W'):OwnN W' B v L:=own_below h hb
theorem OwnN.nil (W:World) (B:Nat):OwnN W B (.slice none 0 0) []:=World.ownsRow_nil _ _ _ _
theorem raw_len (U:Int) (l:List Iv):(rawS U l).length≤1+2*l.length:=by
 unfold rawS
 rw [List.length_cons]
 have:(l.flatMap fun y=>if y.2<U then [y.1,y.2+1] else [y.1]).length≤2*l.length:=by
  induction l with
  | nil=>simp
  | cons y l ih =>
    rw [List.flatMap_cons,List.length_append,List.length_cons]
    have h2:(if y.2<U then [y.1,y.2+1] else [y.1]).length≤2:=by split <;> simp
    omega
 omega
theorem ins_len (S:List Int) (x:Int):(insI S x).length≤S.length+1:=by
 unfold insI
 simp only
 split
 ·simp
 ·split
  ·omega
  ·rw [List.length_append,List.length_cons,List.length_take,List.length_drop];omega
theorem fold_len:∀ (R S:List Int),(R.foldl insI S).length≤S.length+R.length
 | [],S=>by simp
 | x :: R,S=>by have:=fold_len R (insI S x);have:=ins_len S x;rw [List.foldl_cons,List.length_cons];omega
theorem starts_len (U:Int) (l:List Iv):(startsL U l).length≤1+2*l.length:=by
 have:=fold_len (rawS U l) [];have:=raw_len U l;unfold startsL;simp at *;omega
end
section
def lsd (n:Nat):List Nat:=if h:n=0 then [] else n % 10 :: lsd (n / 10)
termination_by n
decreasing_by omega
def byteOf (d:Nat):UInt8:=UInt8.ofNat (48+d)
def decText (n:Nat):List UInt8:=if n=0 then [48] else (lsd n).reverse.map byteOf
def ds (n k:Nat):List Nat:=(List.range k).map fun i=>n / 10 ^ i % 10
end
section
open Go.RowKit
def ivText (x:Iv):List UInt8:=if x.2=x.1 then decText x.1.toNat else decText x.1.toNat++45 :: decText x.2.toNat
end
section
open Go.RowKit
def vI (d:Nat):Value := .int .i64 (d:Int)
theorem cell_one_new (w:World) (v:Value) (t:TypeId):∀ j u,([v]:List Value)[j]? = some u→(w.alloc (.cells #[v] t)).cell? ((⟨w.heap.size,0,none⟩:Addr).add j)=some u:=by
 intro j u h
 cases j with
 | zero=>simpa [Addr.add] using h
 | succ j=>simp at h
end
section
open Go.RowKit
def pre (l:List Iv) (k:Nat):List UInt8:=Lib.join ((l.take k).map ivText) [44]
end
end Go.Proofs.YtgcakgegboicjaaGreatDoor
