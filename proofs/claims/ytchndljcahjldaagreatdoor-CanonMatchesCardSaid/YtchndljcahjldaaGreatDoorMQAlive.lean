/- The example of chapter 11, in every state. Conditions: the contracts of package scope, and the fixed value of errors.errorType. -/
import Derived.Test.YtchndljcahjldaaGreatDoorMKBits
import Derived.Test.YtchndljcahjldaaGreatDoorMPCodeA
import Derived.Test.YtchndljcahjldaaGreatDoorMPCodeN
import Derived.Test.YtchndljcahjldaaGreatDoorMRMerge
namespace Go.Proofs.YtchndljcahjldaaGreatDoor
section
open Go.RowKit
variable {x:List Iv × v6} {w:World} {b a n k:Nat} {s1 v1 v:Value} {f:Value × Value} {F:t8} {V A B:v6} {st Vs:List (v6)} {t:Int} {fs:List (Value × Value)}
theorem xk8 (r m:Int) (h0:0≤m) (h1:m≤18446744073709551615):s8 [(r,m,([]:List Iv))]:=⟨fun x hx=>by rw [List.mem_singleton.1 hx];exact v59 h0 h1,List.pairwise_singleton _ _⟩
theorem w09 (h1:t6 x.1) (h2:s8 x.2):zb0 x=0:=by
 have h3:=(yk2 x.1).2 h1.can
 unfold yk1 at h3
 unfold zb0
 rw [if_pos (of_decide_eq_true h3)]
 have h4:=zj2 h2
 grind [z31,zk8,Option.isNone_iff_eq_none]
theorem wr0 {s2 v2:Value} {y:List Iv × v6} (c0:w.cell? ⟨b,0,none⟩=some s1) (c1:w.cell? ⟨b,1,none⟩=some v1) (c2:w.cell? ⟨b,2,none⟩=some s2) (c3:w.cell? ⟨b,3,none⟩=some v2) (h1:zp2 w (s1,v1) x) (h2:zp2 w (s2,v2) y) :
 z08 w (.slice (some ⟨b,0,none⟩) 2 2) [x,y]:=by
 refine ⟨⟨⟨[(s1,v1),(s2,v2)],⟨_,_,rfl,(by show (2:Nat)≤maxLen;decide),fun _=>⟨b,0,rfl,fun i e he => ?_⟩⟩,rfl,fun i e z he hx => ?_⟩,by simp⟩,a7 _ _ _ (Nat.le_refl _)⟩
 ·match i,he with
  | 0,he=>simp at he;subst he;exact ⟨c0,c1⟩
  | 1,he=>simp at he;subst he;exact ⟨c2,c3⟩
 ·match i,he,hx with
  | 0,he,hx=>simp at he hx;subst he;subst hx;exact h1
  | 1,he,hx=>simp at he hx;subst he;subst hx;exact h2
theorem wr1 (c0:w.cell? ⟨b,0,none⟩=some s1) (c1:w.cell? ⟨b,1,none⟩=some v1) (h1:zp2 w (s1,v1) x):z08 w (.slice (some ⟨b,0,none⟩) 1 1) [x]:=by
 refine ⟨⟨⟨[(s1,v1)],⟨_,_,rfl,(by show (1:Nat)≤maxLen;decide),fun _=>⟨b,0,rfl,fun i e he => ?_⟩⟩,rfl,fun i e z he hx => ?_⟩,by simp⟩,a7 _ _ _ (Nat.le_refl _)⟩
 ·match i,he with
  | 0,he=>simp at he;subst he;exact ⟨c0,c1⟩
 ·match i,he,hx with
  | 0,he,hx=>simp at he hx;subst he;subst hx;exact h1
theorem w18 {r m:Int} (c0:w.cell? ⟨b,0,none⟩=some (.int .u64 r)) (c1:w.cell? ⟨b,1,none⟩=some (.int .u64 m)) (c2:w.cell? ⟨b,2,none⟩=some (.slice none 0 0)) (hr:0≤r∧r≤18446744073709551615) (hm:0≤m∧m≤18446744073709551615):z30 w (.slice (some ⟨b,0,none⟩) 1 1) [(r,m,[])]:=
 wf1 c0 c1 c2 ⟨yd5 _,(fun x hx=>by cases hx),zf2,hm.1,hm.2,by simp⟩ hr
theorem zf8.call {lim:Nat} {w':World} (h:zf8 lim w f) (hb:Below w.heap.size w w'):zf8 lim w' f:=by
 obtain ⟨h1,h2,h3,es,h4,h5⟩:=h
 exact ⟨h1,h2.call hb,h3,es,h4.call hb,fun e he=>(h5 e he).call hb⟩
theorem y55.few (h:y55 w v):(∃ p n c,v = .slice p n c)∧∃ b,(∀ W,Below w.heap.size w W→Calls Tryz.prog 9 #[v] W (q8 b W))∧(b=true→∃ F,z08 w v F∧z58 F):=by
 obtain ⟨hs,fs,hv,hi⟩:=h
 have each:∀ i,i<fs.length→∃ b,∀ f,fs[i]? = some f→(∀ W,Below w.heap.size w W→Calls Tryz.prog 31 #[f.2] W (q8 b W))∧(b=true→∃ V,z30 w f.2 V∧V.length≤20∧∀ x ∈ V,x.2.2.length≤30):=by
  intro i hlt
  obtain ⟨_,b,h1,h2⟩:=(xa5 (hi _ (List.getElem_mem hlt))).few
  refine ⟨b,fun f hf => ?_⟩
  obtain ⟨_,rfl⟩:=List.getElem?_eq_some_iff.1 hf
  exact ⟨h1,h2⟩
 obtain ⟨B,hB⟩:=Go.Deep.choose_lt each
 have lt:∀ {i f},fs[i]? = some f→i<fs.length:=fun hf=>(List.getElem?_eq_some_iff.1 hf).1
 refine ⟨?_,xa7 fs B,fun W hb=>w25 v fs W (hv.call hb) (fun f hf=>(hi f hf).call hb) B (fun i f hf W2 hb2=>(hB i (lt hf) f hf).1 W2 (hb.trans (hb2.mono hb.size))),fun hf => ?_⟩
 ·obtain ⟨p,cap,e,_⟩:=hv;exact ⟨p,_,cap,e⟩
 ·obtain ⟨h1,h2⟩:=xl9 hf
  obtain ⟨F,h3,h4⟩:=wr5 hv hi B (fun i f hf hb=>(hB i (lt hf) f hf).2 hb) h1 h2
  exact ⟨F,⟨h3,hs⟩,h4⟩
theorem z85.all1 (h:z85 w v F):(∀ x ∈ F,m9 x.1)∧∀ x ∈ F,∀ y ∈ x.2,m9 y.2.2∧0≤y.2.1∧y.2.1≤UM:=by
 have key:∀ x ∈ F,m9 x.1∧∀ y ∈ x.2,m9 y.2.2∧0≤y.2.1∧y.2.1≤UM:=by
  rintro ⟨L,V⟩ hx
  obtain ⟨i,hi⟩:=List.mem_iff_getElem?.1 hx
  obtain ⟨_,_,_,_,_,_,_,_,_,_,ha⟩:=h.elem hi
  exact ⟨ha.all,ha.vec.m.all64⟩
 exact ⟨fun x hx=>(key x hx).1,fun x hx=>(key x hx).2⟩
def y56:List (v6)→Nat→Nat→Prop
 | [],_,_=>True
 | V :: st,a,b=>∃ a1 b1,n7 a1 b1 V∧a1≤a∧b1+3≤b∧y56 st (a - a1) (b - (b1+3))
theorem y56.push {m:Nat} (h:y56 st a b) (hV:n7 n m V):y56 (V :: st) (a+n) (b+(m+3)):=
 ⟨n,m,hV,by omega,by omega,by rw [Nat.add_sub_cancel,Nat.add_sub_cancel];exact h⟩
theorem y56.fold (gA:s8 A) (gB:s8 B) (h:y56 (B :: A :: st) a b):y56 (opV orL A B :: st) a b:=by
 obtain ⟨a1,b1,s1,h1,h2,a2,b2,s2,h3,h4,h5⟩:=h
 refine ⟨a2+a1,b2+b1+3,yg6 gA gB s2 s1,by omega,by omega,?_⟩
 grind
theorem y56.mono:∀ {a b a' b':Nat},y56 st a b→a≤a'→b≤b'→y56 st a' b':=by
 induction st with
 | nil=>intros;trivial
 | cons V st ih =>
   rintro a b a' b' ⟨a1,b1,s,h1,h2,h3⟩ ha hb
   exact ⟨a1,b1,s,by omega,by omega,ih h3 (by omega) (by omega)⟩
theorem y56.two (h:y56 (B :: A :: st) a b):n7 a b A∧n7 a b B:=by
 obtain ⟨a1,b1,s1,h1,h2,a2,b2,s2,h3,h4,_⟩:=h
 exact ⟨s2.mono (by omega) (by omega),s1.mono (by omega) (by omega)⟩
def bV (V:v6):Nat:=(V.map fun y=>y.2.2.length).foldr max 0
def zc7 (Vs:List (v6)):Nat:=(Vs.map List.length).sum
def zc8 (Vs:List (v6)):Nat:=(Vs.map fun V=>bV V+3).sum
theorem wf4:∀ {V:v6} {b:Nat},(∀ y ∈ V,y.2.2.length≤b)→bV V≤b
 | [],_,_=>Nat.zero_le _
 | y :: V,b,h=>by
   have:=wf4 (V:=V) fun z hz=>h z (List.mem_cons_of_mem _ hz)
   grind [bV]
theorem ww9:∀ {V:v6},∀ y ∈ V,y.2.2.length≤bV V
 | x :: V,y,hy=>by
   have e:bV (x :: V)=max x.2.2.length (bV V):=rfl
   rcases List.mem_cons.1 hy with rfl | hy
   ·omega
   ·have:=ww9 (V:=V) y hy;omega
theorem yj0 (V:v6):n7 V.length (bV V) V:=⟨Nat.le_refl _,ww9⟩
theorem ys8 (V:v6) (Vs:List (v6)):zc7 (V :: Vs)=V.length+zc7 Vs:=by unfold zc7;simp
theorem ys9 (V:v6) (Vs:List (v6)):zc8 (V :: Vs)=(bV V+3)+zc8 Vs:=by unfold zc8;simp
theorem yt0 (Vs:List (v6)) (V:v6):zc7 (Vs ++ [V])=zc7 Vs+V.length:=by unfold zc7;simp
theorem yt1 (Vs:List (v6)) (V:v6):zc8 (Vs ++ [V])=zc8 Vs+(bV V+3):=by unfold zc8;simp
theorem yy9 {Us:List (v6)} (h:Vs.Sublist Us):zc7 Vs≤zc7 Us∧zc8 Vs≤zc8 Us:=by
 unfold zc7 zc8
 induction h with
 | slnil=>exact ⟨Nat.le_refl _,Nat.le_refl _⟩
 | cons x _ ih=>simp only [List.map_cons,List.sum_cons];omega
 | cons_cons x _ ih=>simp only [List.map_cons,List.sum_cons];omega
theorem wf5 {n m k:Nat}:∀ {Vs:List (v6)},Vs.length≤k→(∀ V ∈ Vs,n7 n m V)→zc7 Vs≤k*n∧zc8 Vs≤k*(m+3)
 | [],_,_=>⟨Nat.zero_le _,Nat.zero_le _⟩
 | V :: Vs,hl,h=>by
   obtain ⟨k,rfl⟩:∃ j,k=j+1:=⟨k - 1,by simp at hl;omega⟩
   obtain ⟨h1,h2⟩:=wf5 (Vs:=Vs) (k:=k) (by simpa using hl) fun U hU=>h U (List.mem_cons_of_mem _ hU)
   have h3:=h V (by simp)
   have h4:=wf4 h3.2
   have h5:=h3.1
   grind [ys8,ys9,Nat.succ_mul]
structure StK (Vs st:List (v6)):Prop where
 good:∀ V ∈ st,s8 V
 fits:y56 st (zc7 Vs) (3+zc8 Vs)
 has:∀ r c:Int,0≤c→st.any (fun V=>z27 V r c)=Vs.any fun V=>z27 V r c
 last:∃ up B,st=up ++ [B]∧∀ y ∈ B,o5 y.2.1 y.2.2=true
theorem StK.start:StK [] [[]]:=
 ⟨fun V hV=>(by obtain rfl:=List.mem_singleton.1 hV;exact z10.1),⟨0,0,⟨by simp,fun x hx=>by cases hx⟩,by simp [zc7],by simp [zc8],trivial⟩,fun r c _=>by simp [y16],[],[],rfl,fun y hy=>by cases hy⟩
theorem StK.push (h:StK Vs st) (gV:s8 V):StK (Vs ++ [V]) (V :: st):=by
 refine ⟨fun U hU => ?_,?_,fun r c hc => ?_,?_⟩
 ·rcases List.mem_cons.1 hU with rfl | hU
  ·exact gV
  ·exact h.good U hU
 ·have:=h.fits.push (yj0 V)
  grind [yt0,yt1,Nat.add_assoc]
 ·rw [List.any_cons,List.any_append,h.has r c hc]
  grind
 ·obtain ⟨up,B,e,hB⟩:=h.last
  grind
theorem StK.fold (h:StK Vs (B :: A :: st)):StK Vs (opV orL A B :: st):=by
 have gB:=h.good B (by simp)
 have gA:=h.good A (by simp)
 refine ⟨fun U hU => ?_,h.fits.fold gA gB,fun r c hc => ?_,?_⟩
 ·rcases List.mem_cons.1 hU with rfl | hU
  ·exact yd3 gA gB
  ·exact h.good U (by simp [hU])
 ·rw [← h.has r c hc,List.any_cons,List.any_cons,List.any_cons,zd4 (yd3 gA gB) r hc,wb8 gA gB,zn1 (m8 gA r) (m8 gB r),← zd4 gA r hc,← zd4 gB r hc,← Bool.or_assoc,Bool.or_comm (z27 A r c)]
 ·obtain ⟨up,C,e,hC⟩:=h.last
  cases st with
  | nil=>exact ⟨[],_,rfl,(zk7 (fun _ _ h h'=>z03 h h') gA gB).2⟩
  | cons V st =>
    match up,e with
    | [],e=>simp at e
    | [x],e=>simp at e
    | x :: y :: up,e =>
      grind
theorem StK.two (h:StK Vs (B :: A :: st)) (hl:zc7 Vs≤900∧zc8 Vs≤900):(s8 A∧s8 B)∧n7 1000 1000 A∧n7 1000 1000 B:=
 ⟨⟨h.good A (by simp),h.good B (by simp)⟩,h.fits.two.1.mono (by omega) (by omega),h.fits.two.2.mono (by omega) (by omega)⟩
def z52 (t:Int):Nat→List (Value × Value)→t8→List (Nat × (Value × Value) × List Iv × v6)
 | i,f :: fs,x :: F=>if y9 x.1 t=true then (i,f,x) :: z52 t (i+1) fs F else z52 t (i+1) fs F
 | _,_,_ => []
theorem wz5 (hf:fs[k]? = some f) (hx:F[k]? = some x) :
 z52 t k (fs.drop k) (F.drop k)=if y9 x.1 t=true then (k,f,x) :: z52 t (k+1) (fs.drop (k+1)) (F.drop (k+1)) else z52 t (k+1) (fs.drop (k+1)) (F.drop (k+1)):=by
 obtain ⟨k1,e1⟩:=List.getElem?_eq_some_iff.1 hf
 obtain ⟨k2,e2⟩:=List.getElem?_eq_some_iff.1 hx
 rw [List.drop_eq_getElem_cons k1,List.drop_eq_getElem_cons k2,e1,e2]
 rfl
theorem wr2 (h:F.length≤k):z52 t k (fs.drop k) (F.drop k) = []:=by
 rw [List.drop_eq_nil_of_le h]
 cases fs.drop k <;> rfl
theorem xt0 {t r c:Int}:∀ (i:Nat) (fs:List (Value × Value)) (F:t8),fs.length=F.length→(z52 t i fs F).any (fun y=>z27 y.2.2.2 r c)=z32 F t r c
 | _,[],[],_=>rfl
 | i,f :: fs,x :: F,h=>by
   have ih:=xt0 (t:=t) (r:=r) (c:=c) (i+1) fs F (by simpa using h)
   unfold z52 z32
   rw [List.any_cons]
   cases hx:y9 x.1 t with
   | false=>rw [if_neg (by simp),ih];simp [z32]
   | true=>rw [if_pos rfl,List.any_cons,ih];simp [z32]
 | _,[],_ :: _,h=>by simp at h
 | _,_ :: _,[],h=>by simp at h
theorem xt1 {t:Int}:∀ (i:Nat) (fs:List (Value × Value)) (F:t8),((z52 t i fs F).map (·.2.2.2)).Sublist (F.map (·.2))
 | _,[],F=>by rw [show z52 t _ [] F = [] by cases F <;> rfl];exact List.nil_sublist _
 | _,_ :: _,[]=>List.nil_sublist _
 | i,f :: fs,x :: F=>by
   have ih:=xt1 (t:=t) (i+1) fs F
   unfold z52
   split
   ·rw [List.map_cons,List.map_cons];exact ih.cons_cons _
   ·rw [List.map_cons];exact ih.cons _
theorem yz0 {t:Int}:∀ (i:Nat) (fs:List (Value × Value)) (F:t8),(z52 t i fs F).length≤F.length
 | _,[],[]=>by simp [z52]
 | i,f :: fs,x :: F=>by
   have ih:=yz0 (t:=t) (i+1) fs F
   unfold z52
   split <;> simp <;> omega
 | _,[],_ :: _=>by simp [z52]
 | _,_ :: _,[]=>by simp [z52]
theorem xt2 {t:Int}:∀ (i:Nat) (fs:List (Value × Value)) (F:t8) (y:Nat × (Value × Value) × List Iv × v6),y ∈ z52 t i fs F→∃ k,y.1=i+k∧fs[k]? = some y.2.1∧F[k]? = some y.2.2
 | i,f :: fs,x :: F,y,h=>by
   unfold z52 at h
   have key:y ∈ z52 t (i+1) fs F→∃ k,y.1=i+k∧(f :: fs)[k]? = some y.2.1∧(x :: F)[k]? = some y.2.2:=fun h=>by
    obtain ⟨k,h1,h2,h3⟩:=xt2 (i+1) fs F y h
    exact ⟨k+1,by omega,by simpa using h2,by simpa using h3⟩
   split at h
   ·rcases List.mem_cons.1 h with rfl | h
    ·exact ⟨0,rfl,rfl,rfl⟩
    ·exact key h
   ·exact key h
 | _,[],_,_,h=>by simp [z52] at h
 | _,_ :: _,[],_,h=>by simp [z52] at h
theorem StK.end (hl:fs.length=F.length) (hF:x9 F) (h:StK ((z52 t 0 fs F).map (·.2.2.2)) [V]):V=atK F t:=by
 have gV:=h.good V (by simp)
 obtain ⟨gA,cA⟩:=zl0 (t:=t) F [] z10 hF
 obtain ⟨up,B,e,hB⟩:=h.last
 have hVB:B=V:=by
  match up,e with
  | [],e=>simpa using e.symm
  | x :: up,e=>simp at e
 subst hVB
 refine xs8 gV hB gA cA fun r=>yh4 (m8 gV r) (m8 gA r) fun c hc => ?_
 have h5:=zd4 gA r hc
 change z27 (atK F t) r c=y9 (knV (atK F t) r) c at h5
 rw [← zd4 gV r hc,← h5]
 have h1:=h.has r c hc
 rw [List.any_map] at h1
 have h2:=xt0 (t:=t) (r:=r) (c:=c) 0 fs F hl
 have h3:=zr7 hF t r hc
 simp only [List.any_cons,List.any_nil,Bool.or_false] at h1
 rw [h1]
 exact h2.trans h3.symm
def pcK (n:Nat):Nat := [0,1,1,2,1,2,2,3,1,2,2,3,2,3].getD n 0
theorem v78 (h:n<13):pcK n+1=pcK (n+1)+tzK (n+1):=by
 have:∀ n,n<13→pcK n+1=pcK (n+1)+tzK (n+1):=by decide
 grind
theorem wz6 (h:n<13):1≤pcK (n+1):=by
 have:∀ n,n<13→1≤pcK (n+1):=by decide
 grind
def wz7 (F:t8):Prop:=F.length≤13∧zc7 (F.map (·.2))≤900∧zc8 (F.map (·.2))≤900
theorem xt3 (h:wz7 F) {l:List (Nat × (Value × Value) × List Iv × v6)} (hp:l <+: z52 t 0 fs F):zc7 (l.map (·.2.2.2))≤900∧zc8 (l.map (·.2.2.2))≤900:=by
 have h1:=yy9 ((hp.sublist.map (·.2.2.2)).trans (xt1 0 fs F))
 have:=h.2
 omega
def flatK (F:t8):List Iv:=F.flatMap (·.1)
theorem yj1 (h:F[k]? = some x):flatK (F.take (k+1))=flatK (F.take k)++x.1:=by grind [flatK,List.take_add_one]
theorem ze3 {y:Iv} (h:y ∈ flatK F):∃ x ∈ F,y ∈ x.1:=by grind [flatK]
theorem yt2 (t:Int):∀ F:t8,y9 (flatK F) t=F.any fun x=>y9 x.1 t
 | []=>rfl
 | x :: F=>by
   have e:flatK (x :: F)=x.1++flatK F:=by simp [flatK]
   rw [e,b5,yt2 t F,List.any_cons]
theorem ze4 {n:Nat}:∀ F:t8,(∀ x ∈ F,x.1.length≤n)→(flatK F).length≤F.length*n
 | [],_=>by simp [flatK]
 | x :: F,h=>by
   have ih:=ze4 F fun y hy=>h y (by simp [hy])
   grind [flatK,List.length_append,List.length_cons,Nat.succ_mul]
theorem xk9 (hF:x9 F):yk6 (flatK F)=z15 F:=by
 refine (xb0 (fun y hy => ?_) (zc1 F [] z34 hF).can fun t => ?_).symm
 ·obtain ⟨x,hx,hy⟩:=ze3 hy
  exact z13 x.1 (hF x hx).1.can y hy
 ·rw [yt2]
  have:=zn7 t F [] z34 hF
  rw [show y9 ([]:List Iv) t=false from rfl,Bool.false_or] at this
  exact this
theorem xt4 {l:List Iv} {e:Int × Option Int} (h:z16 l=some e):e.1≠0:=by
 unfold z16 at h
 cases hk:zv2 l with
 | none=>rw [hk] at h;cases h
 | some x =>
   rw [hk] at h
   obtain rfl:=Option.some.inj h
   unfold zv2 at hk
   obtain ⟨i,_,hi⟩:=List.exists_of_findSome?_eq_some hk
   grind
def zr4 (x:List Iv × v6):Option (Int × Option Int):=match z16 x.1 with
 | some e=>some e
 | none=>zh9 x.2
theorem zx7 (x:List Iv × v6):c5 (zr4 x)=zb0 x:=by
 unfold zr4 zb0
 cases h:z16 x.1 with
 | some e =>
   grind [c5,xt4]
 | none =>
   grind [c5,zh9,zk8,z84]
theorem xl0 (h:zb0 x=0):zr4 x=none:=by
 rw [← zx7] at h
 unfold zr4 at h ⊢
 cases hv:z16 x.1 with
 | some e=>rw [hv] at h;exact absurd h (xt4 hv)
 | none =>
   rw [hv] at h
   unfold zh9 at h ⊢
   cases hc:z84 x.2 with
   | none=>rfl
   | some y=>rw [hc] at h;exact absurd h (yi7 hc)
theorem xl1 (h:zb0 x≠0):zr4 x≠none:=by
 intro e
 rw [← zx7,e] at h
 exact h rfl
set_option maxRecDepth 100000 in
set_option maxHeartbeats 2000000 in
theorem xl2 (L:List Iv) (V:v6) (p q:Option Addr) (n m c d:Nat) (w:World) (hg:z82 w) (hf:zp2 w (.slice p n c,.slice q m d) (L,V)) :
 Calls Tryz.prog 48 #[.agg #[.slice p n c,.slice q m d]] w (z72 (zr4 (L,V)) w):=by
 obtain ⟨w1,hw1⟩:∃ w1,w.alloc (.cells #[.slice p n c,.slice q m d] 46)=w1:=⟨_,rfl⟩
 have hb1:Below w.heap.size w w1:=hw1 ▸ z8 w _
 have t0:w1.cell? ⟨w.heap.size,0,none⟩=some (.slice p n c):=by rw [← hw1];simp
 have t1:w1.cell? ⟨w.heap.size,1,none⟩=some (.slice q m d):=by rw [← hw1];simp
 have HT1:=qh t1
 have hf1:=hf.call hb1
 have K:=qh (yk0 L _ w1 (hg.here hb1) hf1.at1 hf1.all)
 have KV:=qh (fun W hb=>yi0 V (.slice q m d) W (hg.here (z7 hb1 hb)) ((hf1.vec).call hb).m)
 have HB1:=qh hb1
 clear hf hf1 hg hb1
 cases hv:z16 L with
 | some e =>
   have HC:Hid (zr4 (L,V)=some e):=qh (by unfold zr4;rw [hv])
   rw [hv] at K
   clear hv
   obtain ⟨t,u,hu⟩:=z37 (x:=some e) (by simp)
   unfold z72 at K
   rw [hu] at K
   have HU:=qh hu;clear hu
   go_enter Tryz.func48,Tryz.ntmps48
   go_wp2_with fail
   refine K.out.mono ?_
   rintro e1 w2 ⟨rfl,h⟩
   have H2:=qh (z7 HB1.out h);clear h
   go_wp2_with fail
   go_ret
   exact ⟨by rw [HC.out,HU.out];rfl,H2.out⟩
 | none =>
   have HC:Hid (zr4 (L,V)=zh9 V):=qh (by unfold zr4;rw [hv])
   rw [hv] at K
   clear hv
   unfold z72 at K KV
   generalize hev:zj1 (zh9 V)=ev at KV
   have HEV:=qh hev;clear hev
   go_enter Tryz.func48,Tryz.ntmps48
   go_wp2_with fail
   refine K.out.mono ?_
   rintro e1 w2 ⟨rfl,h⟩
   rw [show zj1 none = .nilIface from rfl]
   have t1':=z6 HT1.out h
   have K2:=qh (KV.out w2 h)
   have H2:=qh (z7 HB1.out h);clear h t1
   go_wp2_with fail
   refine K2.out.mono ?_
   rintro e1 w3 ⟨rfl,h⟩
   have H3:=qh (z7 H2.out h);clear h
   go_wp2_with fail
   go_ret
   exact ⟨by rw [HC.out,HEV.out];rfl,H3.out⟩
theorem wf6 (h:∀ (j:Nat) y,j<k→F[j]? = some y→zb0 y=0) (hx:F[k]? = some x) (h0:zb0 x=0):∀ (j:Nat) y,j<k+1→F[j]? = some y→zb0 y=0:=fun j y hj hy=>by
 rcases Nat.lt_or_eq_of_le (Nat.le_of_lt_succ hj) with h1 | rfl
 ·exact h j y h1 hy
 ·obtain rfl:=Option.some.inj (hx.symm.trans hy);exact h0
set_option maxRecDepth 100000 in
set_option maxHeartbeats 4000000 in
theorem xl3 (F:t8) (v:Value) (w:World) (hg:z82 w) (hv:z08 w v F):Calls Tryz.prog 20 #[v] w (z72 (zf0 F) w):=by
 obtain ⟨p,cap,rfl⟩:=hv.m.shape
 have hlen:=hv.m.len
 have HV:=qh hv.m;clear hv
 have HG:=qh hg;clear hg
 have KC:=qh xl2
 have KF:=qh zz2
 have KN:=qh y64
 go_enter Tryz.func20,Tryz.ntmps20
 go_wp2_with fail
 go_loopw [8] (fun i wr=>∃ k:Nat,i = .int .i64 k∧k≤F.length∧(∀ (j:Nat) y,j<k→F[j]? = some y→zb0 y=0)∧Below w.heap.size w wr) (fun i _=>F.length - (intOf i).toNat)
 case atStart=>exact ⟨0,rfl,Nat.zero_le _,fun j y hj=>absurd hj (Nat.not_lt_zero j),Below.refl _ _⟩
 case round =>
  obtain ⟨k,rfl,hk,hbef,hb⟩:=hrel
  have HBF:=qh hbef;clear hbef
  have HB:=qh hb;clear hb
  by_cases hlt:k<F.length
  ·obtain ⟨⟨L,V⟩,hx⟩:∃ x,F[k]? = some x:=⟨F[k],by simp [hlt]⟩
   obtain ⟨b,o,cap',p1,c1,q1,d1,e,c0,c1',hf⟩:=(HV.out.call HB.out).elem hx
   cases e
   obtain ⟨wE,hwE⟩:∃ wE,wr.alloc (.cells #[.slice p1 L.length c1,.slice q1 V.length d1] 46)=wE:=⟨_,rfl⟩
   have hbE:Below wr.heap.size wr wE:=hwE ▸ z8 wr _
   have t0:wE.cell? ⟨wr.heap.size,0,none⟩=some (.slice p1 L.length c1):=by rw [← hwE];simp
   have t1:wE.cell? ⟨wr.heap.size,1,none⟩=some (.slice q1 V.length d1):=by rw [← hwE];simp
   have HBE:=qh (z7 HB.out hbE)
   have kc:=KC.out L V _ _ _ _ _ _ wE (HG.out.here HBE.out) (hf.call hbE)
   have HX:=qh hx
   clear hf hbE
   have i1:(0:Int)≤(k:Int):=by omega
   have i2:(k:Int)<(F.length:Int):=by omega
   by_cases h0:zb0 (L,V)=0
   ·have HN:=qh (wf6 HBF.out HX.out h0)
    rw [xl0 h0] at kc
    have K:=qh kc;clear kc h0 hx
    go_wp2_with fail
    refine K.out.mono ?_
    rintro e1 w2 ⟨rfl,h⟩
    rw [show zj1 none = .nilIface from rfl]
    have H2:=qh (z7 HBE.out h);clear h
    go_wp2_with fail
    go_roundw
    case rel=>exact ⟨k+1,by go_num,by omega,HN.out,H2.out⟩
    case measure=>simp [intOf];omega
   ·have HZ:Hid (zf0 F=some (zb0 (L,V),some (k:Int))):=qh (by unfold zf0;rw [y58 HX.out HBF.out h0];rfl)
    obtain ⟨t,u,hu⟩:=z37 (xl1 h0)
    have h00:(zb0 (L,V) == 0)=false:=by simpa using h0
    have H00:=qh h00
    have kf:=fun W h=>KF.out (zr4 (L,V)) W h
    unfold z72 at kc
    rw [hu] at kc kf
    rw [zx7] at kf
    have K:=qh kc
    have KF1:=qh kf
    clear kc kf hu h0 h00 hx
    generalize zb0 (L,V)=cd at *
    go_wp2_with fail
    refine K.out.mono ?_
    rintro e1 w2 ⟨rfl,h⟩
    have H2:=qh (z7 HBE.out h);clear h
    go_wp2_with fail
    refine (KF1.out _ (HG.out.here H2.out)).mono ?_
    rintro e1 w3 ⟨rfl,h⟩
    have H3:=qh (z7 H2.out h);clear h
    go_wp2_with fail
    refine (KN.out cd (k:Int) _ H00.out).mono ?_
    rintro e1 w4 ⟨rfl,rfl⟩
    go_wp2_with fail
    go_ret
    exact ⟨by rw [HZ.out];rfl,H3.out⟩
  ·obtain rfl:k=F.length:=by omega
   have HZ:Hid (zf0 F=none):=qh (by unfold zf0;rw [y57 fun j x hx=>HBF.out j x (List.getElem?_eq_some_iff.1 hx).1 hx];rfl)
   go_wp2_with fail
   go_ret
   exact ⟨by rw [HZ.out];rfl,HB.out⟩
end
section
open Go.RowKit Go.Shelf Go.ChangeShapes Go.WideShapes
attribute [local go_sem] Oper.semAt_some
variable {v:Value} {F:t8} {w w0 A B:World} {fs:List (Value × Value)} {ka kb:Nat} {t:Int}
def slv:Value→Value
 | .slice p n c => .slice p n c
 | _ => .slice none 0 0
theorem xl4 (v:Value):∃ p n c,slv v = .slice p n c:=by
 unfold slv
 split
 ·exact ⟨_,_,_,rfl⟩
 ·exact ⟨_,_,_,rfl⟩
def wr3 (y:Nat × (Value × Value) × List Iv × v6):Array Value:=#[.int .i64 (y.1:Int),.agg #[slv y.2.1.1,slv y.2.1.2]]
structure xl5 (W:World) (v:Value) (fs:List (Value × Value)) (F:t8):Prop where
 at1:zr3 W v fs
 len:fs.length=F.length
 el:∀ (i:Nat) (f:Value × Value) (x:List Iv × v6),fs[i]? = some f→F[i]? = some x→zp2 W f x
theorem z85.named {W:World} (h:z85 W v F):∃ fs,xl5 W v fs F:=by
 obtain ⟨⟨fs,h1,h2,h3⟩,_⟩:=h
 exact ⟨fs,h1,h2,h3⟩
theorem xl5.call {w':World} (h:xl5 w v fs F) (hb:Below w.heap.size w w'):xl5 w' v fs F:=
 ⟨h.at1.call hb,h.len,fun i f x hf hx=>(h.el i f x hf hx).call hb⟩
theorem xl5.elem (h:xl5 w v fs F) {i:Nat} {L:List Iv} {V:v6} (hi:F[i]? = some (L,V)) :
 ∃ b o cap p c q d,v = .slice (some ⟨b,o,none⟩) F.length cap∧fs[i]? = some (.slice p L.length c,.slice q V.length d)∧w.cell? ⟨b,o+i*2,none⟩=some (.slice p L.length c)∧w.cell? ⟨b,o+i*2+1,none⟩=some (.slice q V.length d)∧zp2 w (.slice p L.length c,.slice q V.length d) (L,V):=by
 obtain ⟨⟨p,cap,h1,_,h5⟩,h2,h3⟩:=h
 have hlt:i<F.length:=(List.getElem?_eq_some_iff.1 hi).1
 have hlf:i<fs.length:=by omega
 obtain ⟨f,he⟩:∃ f,fs[i]? = some f:=⟨fs[i],by simp [hlf]⟩
 obtain ⟨b,o,rfl,h6⟩:=h5 (by intro e;rw [e] at h2;simp at h2;omega)
 obtain ⟨c0,c1⟩:=h6 i _ he
 have ha:=h3 i _ _ he hi
 obtain ⟨f1,f2⟩:=f
 obtain ⟨q,cq,hs,_⟩:=ha.at1.shape
 obtain ⟨q2,cq2,hs2⟩:=ha.vec.m.shape
 dsimp only at hs hs2 c0 c1
 subst hs hs2
 exact ⟨b,o,cap,q,cq,q2,cq2,by rw [h1,h2],he,c0,c1,ha⟩
set_option maxRecDepth 100000 in
theorem w20 (p:Option Addr) (n c:Nat) (t:Int) (w:World):Calls Tryz.prog 49 #[.slice p n c,.int .u64 t] w (fun e w' =>
 e = .returned (.func (.func 94) #[] #[.pointer (some ⟨w.heap.size,0,none⟩),.pointer (some ⟨w.heap.size+1,0,none⟩)]) ∧
  w'=(w.alloc (.cells #[.slice p n c] 23)).alloc (.cells #[.int .u64 t] 36)):=by
 go_enter Tryz.func49,Tryz.ntmps49
 go_wp2_with fail
 go_ret
 exact ⟨by simp,by simp⟩
structure WtS (ka kb:Nat) (v:Value) (t:Int) (w0:World) (T:Nat→Prop) (W:World):Prop where
 ca:W.cell? ⟨ka,0,none⟩=some v
 cb:W.cell? ⟨kb,0,none⟩=some (.int .u64 t)
 low:Below w0.heap.size w0 W
 ta:T ka
 tb:T kb
 k0:∀ k,k<w0.heap.size→T k
theorem WtS.apart {T:Nat→Prop} (h:WtS ka kb v t w0 T A) (k:y5 (fun k=>¬ T k) A B):WtS ka kb v t w0 T B:=
 ⟨k.cell h.ca (fun n=>n h.ta),k.cell h.cb (fun n=>n h.tb),h.low.trans (k.below h.low.size fun i hi n=>n (h.k0 i hi)),h.ta,h.tb,h.k0⟩
theorem WtS.mv {T:Nat→Prop} (h:WtS ka kb v t w0 T A) (k:Below A.heap.size A B):WtS ka kb v t w0 T B:=
 ⟨z6 h.ca k,z6 h.cb k,h.low.trans (k.mono h.low.size),h.ta,h.tb,h.k0⟩
set_option maxRecDepth 100000 in
set_option maxHeartbeats 8000000 in
theorem w21 (n:Nat) (ka kb:Nat) (v:Value) (t:Int) (fs:List (Value × Value)) (F:t8) (w0 W0:World) (keep:Nat→Prop) (hk0:∀ k,k<w0.heap.size→keep k) (hka:keep ka) (hkb:keep kb) (hb:Below w0.heap.size w0 W0) (hv:xl5 w0 v fs F) (hlen:F.length≤100000) (hF:x9 F)
 (hca:W0.cell? ⟨ka,0,none⟩=some v) (hcb:W0.cell? ⟨kb,0,none⟩=some (.int .u64 t)):we4 n Tryz.prog 94 #[.pointer (some ⟨ka,0,none⟩),.pointer (some ⟨kb,0,none⟩)] wr3 (z52 t 0 fs F) keep W0:=by
 obtain ⟨p,cs,rfl⟩:∃ p cs,v = .slice p F.length cs:=by obtain ⟨p,c,e,_⟩:=hv.at1;exact ⟨p,c,by rw [e,hv.len]⟩
 intro l J Jx hab hY hJ0
 have HN:=qh (show WtS ka kb _ t w0 keep W0 from ⟨hca,hcb,hb,hka,hkb,hk0⟩);clear hca hcb hb hka hkb hk0
 have HV:=qh (And.intro hv hF);clear hv hF
 have HJ0:=qh hJ0;clear hJ0
 have HK:=qh hab;clear hab
 obtain ⟨L,hL⟩:∃ L,z52 t 0 fs F=L:=⟨_,rfl⟩
 rw [hL] at hY ⊢
 have HY:=qh hY;clear hY
 have HL:Hid ([]++z52 t 0 (fs.drop 0) (F.drop 0)=L):=qh (by simpa using hL);clear hL
 have KH:=qh yl1
 obtain ⟨a0,b0,_⟩:=HN.out
 refine callsIn_of_wp Tryz.func94 rfl trivial ?_ rfl
 simp only [Tryz.ntmps94,List.size_toArray,List.length_cons,List.length_nil,Nat.reduceAdd,Nat.reduceSub,Array.replicate_succ,Array.replicate_zero,List.push_toArray,List.append_toArray,List.nil_append,List.cons_append]
 gi_wp2
 gi_loopw [8] (fun i wr=>∃ (k:Nat) (T:Nat→Prop) (g:List (Nat × (Value × Value) × List Iv × v6)),i = .int .i64 k∧k≤F.length∧g++z52 t k (fs.drop k) (F.drop k)=L∧WtS ka kb (.slice p F.length cs) t w0 T wr∧J g T wr) (fun i _=>F.length - (intOf i).toNat)
 case atStart=>exact ⟨0,keep,_,rfl,Nat.zero_le _,HL.out,HN.out,HJ0.out⟩
 case round =>
  clear a0 b0
  obtain ⟨k,T2,g,rfl,hk,hg,ho,hj⟩:=hrel
  have HG:=qh hg;clear hg
  have HO:=qh ho;clear ho
  have HJ:=qh hj;clear hj
  by_cases hlt:k<F.length
  ·obtain ⟨⟨I,V⟩,hx⟩:∃ x,F[k]? = some x:=⟨F[k],by simp [hlt]⟩
   obtain ⟨b,o,cb',px,cx,qx,dx,eb,hfk,c0,c1,hfr⟩:=(HV.out.1.call HO.out.low).elem hx
   cases eb
   have hgI:=(HV.out.2 _ (List.mem_of_getElem? hx)).1
   have HW:=qh (wz5 (t:=t) hfk hx)
   obtain ⟨w2,hw2⟩:∃ w2,wr.alloc (.cells #[.slice px I.length cx,.slice qx V.length dx] 46)=w2:=⟨_,rfl⟩
   have hb2:Below wr.heap.size wr w2:=hw2 ▸ z8 _ _
   have t0:w2.cell? ⟨wr.heap.size,0,none⟩=some (.slice px I.length cx):=by rw [← hw2];simp
   have t1:w2.cell? ⟨wr.heap.size,1,none⟩=some (.slice qx V.length dx):=by rw [← hw2];simp
   have d0:=z6 HO.out.cb hb2
   have K:=qh (KH.out I _ t w2 (hfr.at1.call hb2) hgI.can)
   have HB2:=qh hb2
   have i1:(0:Int)≤(k:Int):=by omega
   have i2:(k:Int)<(F.length:Int):=by omega
   have HLT:=qh hlt
   have HM:=qh hk;clear hk
   clear hfr hgI hb2 hx hfk
   cases hh:y9 I t with
   | false =>
     rw [hh] at K
     have HWW:=qh (HW.out.trans (if_neg (by rw [hh];simp)));clear HW hh
     gi_wp2
     refine ⟨trivial,fun h=>(by cases h),?_⟩
     refine (callsIn_wide.2 K.out).mono ?_
     rintro en w3 ⟨rfl,hb3⟩
     have HB3:=qh (z7 HB2.out hb3);clear hb3 t0 t1 d0 c0 c1
     gi_wp2
     refine ⟨fun f hf=>(by cases hf),?_⟩
     gi_wp2
     go_roundw
     case rel=>exact ⟨k+1,T2,g,by go_num,HLT.out,by rw [← HWW.out];exact HG.out,HO.out.mv HB3.out,HK.out.go _ _ _ _ _ HJ.out (Ext.of_below HB3.out (HK.out.low _ _ _ HJ.out))⟩
     case measure=>have:=HLT.out;simp [intOf] at this ⊢;omega
   | true =>
     rw [hh] at K
     have HWW:=qh (HW.out.trans (if_pos hh));clear HW hh
     gi_wp2
     refine ⟨trivial,fun h=>(by cases h),?_⟩
     refine (callsIn_wide.2 K.out).mono ?_
     rintro en w3 ⟨rfl,hb3⟩
     have u0:=z6 t0 hb3
     have u1:=z6 t1 hb3
     have HB3:=qh (z7 HB2.out hb3);clear hb3 t0 t1 d0 c0 c1
     have HJ3:=qh (HK.out.go _ _ _ _ _ HJ.out (Ext.of_below HB3.out (HK.out.low _ _ _ HJ.out)))
     have HO3:=qh (HO.out.mv HB3.out)
     have HP:Hid (g ++ [(k,(.slice px I.length cx,.slice qx V.length dx),(I,V))]++z52 t (k+1) (fs.drop (k+1)) (F.drop (k+1))=L):=qh (by rw [← HG.out,HWW.out];simp)
     clear HWW HG HJ HO
     gi_wp2
     obtain ⟨fn,tmps,assign,body,hy,hR⟩:=HY.out g (k,(.slice px I.length cx,.slice qx V.length dx),(I,V)) T2 w3 HJ3.out ⟨_,HP.out⟩
     dsimp only [wr3,slv] at hy
     rw [hy,Oper.uponIn_round]
     refine ⟨fun h=>(by cases h),(RoundIn.anyDepth hR).mono ?_⟩
     clear hy hR u0 u1
     rintro en W5 ⟨hap,⟨rfl,hJ5⟩ | ⟨rfl,hJ5⟩⟩
     ·have HJ5:=qh hJ5
      have HO5:=qh (HO3.out.apart hap);clear hap hJ5 HJ3 HO3
      gi_wp2
      go_roundw
      case rel=>exact ⟨k+1,T2,_,by go_num,HLT.out,HP.out,HO5.out,HJ5.out⟩
      case measure=>have:=HLT.out;simp [intOf] at this ⊢;omega
     ·have HJ5:=qh hJ5;clear hap hJ5 HJ3 HO3
      gi_wp2
      refine bodyPost_ret (results_none rfl _ _ _) rfl ?_
      exact ⟨⟨_,rfl⟩,.inr HJ5.out⟩
  ·obtain rfl:k=F.length:=by omega
   have HZ:=qh (show g=L by rw [← HG.out,wr2 (Nat.le_refl _)];simp)
   gi_wp2
   refine bodyPost_end (results_none rfl _ _ _) rfl ?_
   exact ⟨⟨_,rfl⟩,.inl ⟨T2,by rw [← HZ.out];exact HJ.out⟩⟩
end
section
open Go.RowKit
theorem wr4 (k l:List Iv):ivC (k++l)=ivC k++ivC l:=by simp [ivC]
section
variable {ops:Array Oper} {rest:List Oper} {o:Oper} {a:Act} {Q:Exit→Act→World→Prop}
theorem xl6 (hgd:o.guard=none) (s x:Operand) (w0 w:World) (hB:Below w0.heap.size w0 w) (v0 v:Value) (k l:List Iv)
 (ho:o.op = .call { callee := .builtin .append,args:=#[s,x],argTypes:=#[42,42] })
 (hs:a.eval s=v0) (hx:a.eval x=v) (hown:r9 w w0.heap.size v0 k) (hv:v7 w v l) (hsv:z02 v) (hl:k.length+l.length≤10000)
 (h:∀ v' w',r9 w' w0.heap.size v' (k++l)→Below w0.heap.size w0 w'→wpList Tryz.prog ops Q rest (a.put o.dst v') w'):wpList Tryz.prog ops Q (o :: rest) a w:=by
 obtain ⟨i0,hi',hz0,hz1,hz2⟩:=info_parts zb2
 obtain ⟨p,cap,rfl,_⟩:=hv.shape
 cases p with
 | none =>
   obtain ⟨h1,h2⟩:=hsv.1 _ _ rfl
   obtain rfl:l = []:=List.eq_nil_of_length_eq_zero h1
   subst h2
   refine wpList_plain hgd fun _ hK => ?_
   have hr:=run_append_owned_none (P:=Tryz.prog) w w0.heap.size 42 o.type 65 i0 2 Tryz.underlying42 hi' v0 k.length (ivC k) hown
   unfold Oper.wp execOp
   simp only [ho,resolve,invoke,builtin,Sem.run_bind,Sem.run_pure,Result.andThen_ok,List.map_toArray,List.map_cons,List.map_nil,hs,hx,List.length_nil,hr]
   exact hK _ _ (h v0 w (by rw [List.append_nil];exact hown) hB)
 | some ad =>
   have hnews:∀ j u,(ivC l)[j]? = some u→w.cell? (ad.add j)=some u:=by
    intro j u hj
    have hne:l ≠ []:=by rintro rfl;simp [ivC] at hj
    obtain ⟨q,cp,e,_,h3⟩:=hv
    obtain ⟨b,of,e2,_⟩:=h3 hne
    cases e
    cases e2
    exact y73 (cap:=cap) (n:=l.length) ⟨_,_,rfl,by omega,h3⟩ j u hj
   refine wpList_append_own _ hgd s x 42 ho w0.heap.size 65 i0 (.agg #[.int .u64 0,.int .u64 0]) 2 16 Tryz.underlying42 hi' hz0 hz1 hz2 rfl (by decide) v0 k.length (ivC k) hs hown ad l.length cap (ivC l) hx (zd9 l) hnews (zu5 l) (by unfold maxLen;omega) (by omega) hB.size ?_
   intro v' w' hown' hgrow _
   refine h v' w' ?_ (x8 hB hown hgrow hB.size)
   unfold r9
   rw [List.length_append,wr4]
   exact hown'
end
def midI (F:t8):Prop:=F.length≤500∧(flatK F).length≤1000
theorem z58.midI {F:t8} (h:z58 F):midI F:=by
 have h1:=ze4 (n:=20) F fun x hx=>(h.2 x hx).1
 have:=h.1
 exact ⟨by omega,by omega⟩
theorem zi1 {F:t8} {x:List Iv × v6} (h:x ∈ F):x.1.length≤(flatK F).length:=by
 obtain ⟨s,t,rfl⟩:=List.append_of_mem h
 simp [flatK];omega
theorem yt3:∀ (F:t8) (A:List Iv),t6 A→x9 F→(F.foldl (fun A x=>orL A x.1) A).length≤A.length+(flatK F).length
 | [],A,_,_=>by simp
 | x :: F,A,hA,h=>by
   have h1:=yt3 F (orL A x.1) (z03 hA (m7 h).1.1) (m7 h).2
   have h2:=zf3 hA (m7 h).1.1
   grind [flatK,List.length_append]
theorem xa1 {F:t8} (hF:x9 F):(z15 F).length≤(flatK F).length:=by
 have:=yt3 F [] z34 hF
 rw [List.length_nil,Nat.zero_add] at this
 exact this
set_option maxRecDepth 100000 in
set_option maxHeartbeats 4000000 in
theorem yj2 (F:t8) (v:Value) (w:World) (hv:z08 w v F) (hF:x9 F) (hs:midI F):Calls Tryz.prog 86 #[v] w (v65 (z15 F) w):=by
 obtain ⟨p,cap,rfl⟩:=hv.m.shape
 have hlen:=hs.1
 have hN:=xk9 hF
 have h64:m9 (flatK F):=fun y hy=>by
  obtain ⟨x,hx,hyx⟩:=ze3 hy
  exact (hF x hx).1.all y hyx
 have hok:∀ y ∈ flatK F,y.1≤y.2:=fun y hy=>by
  obtain ⟨x,hx,hyx⟩:=ze3 hy
  exact z13 x.1 (hF x hx).1.can y hyx
 have hfl:∀ k,(flatK (F.take k)).length≤1000:=fun k=>by
  have e:flatK F=flatK (F.take k)++flatK (F.drop k):=by unfold flatK;rw [← List.flatMap_append,List.take_append_drop]
  have h1:=hs.2
  rw [e,List.length_append] at h1
  omega
 have h20:∀ (i:Nat) x,F[i]? = some x→x.1.length≤1000:=fun i x hx=>Nat.le_trans (zi1 (List.mem_of_getElem? hx)) hs.2
 have hin:(z15 F).length≤1000:=Nat.le_trans (xa1 hF) hs.2
 have HV:=qh hv.m
 have KN:=qh (fun s W hi=>(hN ▸ w40 (flatK F) s W hi h64 hok:Calls Tryz.prog 140 #[s] W (wh7 (z15 F) W)))
 have HFL:=qh (And.intro hfl h20)
 have HIN:=qh hin
 clear hv hF hs hN h64 hok hfl h20 hin
 generalize z15 F=IL at *
 go_enter Tryz.func86,Tryz.ntmps86
 go_wp2_with fail
 go_loopw [3,10] (fun u i wr=>∃ k:Nat,i = .int .i64 k∧k≤F.length∧r9 wr w.heap.size u (flatK (F.take k))∧Below w.heap.size w wr) (fun _ i _=>F.length - (intOf i).toNat)
 case atStart=>exact ⟨0,rfl,Nat.zero_le _,r9.nil _ _,Below.refl _ _⟩
 case round =>
  obtain ⟨k,rfl,hk,hown,hb⟩:=hrel
  have HB:=qh hb;clear hb
  have HO:=qh hown
  obtain ⟨pu,cu,rfl,_⟩:=y8 hown
  clear hown
  by_cases hlt:k<F.length
  ·obtain ⟨⟨L,V⟩,hx⟩:∃ x,F[k]? = some x:=⟨F[k],by simp [hlt]⟩
   obtain ⟨b,o,cap',p1,c1,q1,d1,e,c0,c1',hf⟩:=(HV.out.call HB.out).elem hx
   cases e
   obtain ⟨wE,hwE⟩:∃ wE,wr.alloc (.cells #[.slice p1 L.length c1,.slice q1 V.length d1] 46)=wE:=⟨_,rfl⟩
   have hbE:Below wr.heap.size wr wE:=hwE ▸ z8 wr _
   have t0:wE.cell? ⟨wr.heap.size,0,none⟩=some (.slice p1 L.length c1):=by rw [← hwE];simp
   have HBE:=qh (z7 HB.out hbE)
   have HF:=qh (And.intro (hf.call hbE).at1 (hf.call hbE).sane)
   have HOE:=qh (HO.out.below hbE)
   have HSN:=qh (yj1 hx)
   have hl20:=HFL.out.2 k _ hx
   have hfk:=HFL.out.1 k
   dsimp only at hl20 HSN
   have i1:(0:Int)≤(k:Int):=by omega
   have i2:(k:Int)<(F.length:Int):=by omega
   clear hf hbE hx
   go_wp2_with (at_builtin;refine xl6 rfl _ _ w wE HBE.out _ _ (flatK (F.take k)) L rfl rfl rfl HOE.out HF.out.1 HF.out.2 (by omega) ?_;intro v' w' ho hb';obtain ⟨q',c',rfl,_⟩:=y8 ho;have HOO:=qh ho;have HBB:=qh hb';clear ho hb')
   go_roundw
   case rel=>exact ⟨k+1,by go_num,by omega,by rw [HSN.out];have h:=HOO.out;rw [List.length_append] at h;exact h,HBB.out⟩
   case measure=>simp [intOf];omega
  ·obtain rfl:k=F.length:=by omega
   have hfk:=HFL.out.1 F.length
   rw [List.take_of_length_le (Nat.le_refl _)] at HO hfk
   have K:=qh (KN.out _ wr (HO.out.ivs (by omega)))
   clear hfk
   go_wp2_with fail
   refine K.out.mono ?_
   rintro e w1 ⟨u,rfl,hu,h⟩
   have HU:=qh hu
   have H1:=qh h
   obtain ⟨pv,cv,rfl,_⟩:=y8 hu
   clear hu h
   go_wp2_with fail
   go_ret
   have hin:=HIN.out
   obtain ⟨k1,k2,k3⟩:=yg8 HU.out (by omega)
   exact ⟨_,rfl,k1,k2,k3.base HB.out.size,z7 HB.out H1.out⟩
end
end Go.Proofs.YtchndljcahjldaaGreatDoor
