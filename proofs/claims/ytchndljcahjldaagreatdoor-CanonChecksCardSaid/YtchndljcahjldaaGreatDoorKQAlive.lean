/- The example of chapter 11, in every state. Conditions: the contracts of package scope, and the fixed value of errors.errorType. -/
import Derived.Test.YtchndljcahjldaaGreatDoorKKBits
import Derived.Test.YtchndljcahjldaaGreatDoorKPCodeA
import Derived.Test.YtchndljcahjldaaGreatDoorKPCodeN
import Derived.Test.YtchndljcahjldaaGreatDoorKRMerge
namespace Go.Proofs.YtchndljcahjldaaGreatDoor
section
open Go.RowKit
theorem xk7 (r m:Int) (h0:0≤m) (h1:m≤18446744073709551615):t6 [(r,m,([]:List Iv))]:=⟨fun x hx=>by rw [List.mem_singleton.1 hx];exact v60 h0 h1,List.pairwise_singleton _ _⟩
theorem w28 {x:List Iv × x6} (h1:v7 x.1) (h2:t6 x.2):za5 x=0:=by
 have h3:=(yk8 x.1).2 h1.can
 unfold yk7 at h3
 unfold za5
 rw [if_pos (of_decide_eq_true h3)]
 have h4:=zh8 h2
 unfold e8 at h4
 unfold zc7
 rw [Option.isNone_iff_eq_none.1 h4]
theorem wr0 {w:World} {b:Nat} {s1 v1 s2 v2:Value} {x y:List Iv × x6} (c0:w.cell? ⟨b,0,none⟩=some s1) (c1:w.cell? ⟨b,1,none⟩=some v1) (c2:w.cell? ⟨b,2,none⟩=some s2) (c3:w.cell? ⟨b,3,none⟩=some v2) (h1:z89 w (s1,v1) x) (h2:z89 w (s2,v2) y) :
 g8 w (.slice (some ⟨b,0,none⟩) 2 2) [x,y]:=by
 refine ⟨⟨⟨[(s1,v1),(s2,v2)],⟨_,_,rfl,(by show (2:Nat)≤maxLen;decide),fun _=>⟨b,0,rfl,fun i e he => ?_⟩⟩,rfl,fun i e z he hx => ?_⟩,by simp⟩,a8 _ _ _ (Nat.le_refl _)⟩
 ·match i,he with
  | 0,he=>simp at he;subst he;exact ⟨c0,c1⟩
  | 1,he=>simp at he;subst he;exact ⟨c2,c3⟩
 ·match i,he,hx with
  | 0,he,hx=>simp at he hx;subst he;subst hx;exact h1
  | 1,he,hx=>simp at he hx;subst he;subst hx;exact h2
theorem wr1 {w:World} {b:Nat} {s1 v1:Value} {x:List Iv × x6} (c0:w.cell? ⟨b,0,none⟩=some s1) (c1:w.cell? ⟨b,1,none⟩=some v1) (h1:z89 w (s1,v1) x):g8 w (.slice (some ⟨b,0,none⟩) 1 1) [x]:=by
 refine ⟨⟨⟨[(s1,v1)],⟨_,_,rfl,(by show (1:Nat)≤maxLen;decide),fun _=>⟨b,0,rfl,fun i e he => ?_⟩⟩,rfl,fun i e z he hx => ?_⟩,by simp⟩,a8 _ _ _ (Nat.le_refl _)⟩
 ·match i,he with
  | 0,he=>simp at he;subst he;exact ⟨c0,c1⟩
 ·match i,he,hx with
  | 0,he,hx=>simp at he hx;subst he;subst hx;exact h1
theorem w29 {w:World} {b:Nat} {r m:Int} (c0:w.cell? ⟨b,0,none⟩=some (.int .u64 r)) (c1:w.cell? ⟨b,1,none⟩=some (.int .u64 m)) (c2:w.cell? ⟨b,2,none⟩=some (.slice none 0 0)) (hr:0≤r∧r≤18446744073709551615) (hm:0≤m∧m≤18446744073709551615):z23 w (.slice (some ⟨b,0,none⟩) 1 1) [(r,m,[])]:=
 wf5 c0 c1 c2 ⟨yd2 _,(fun x hx=>by cases hx),zb5,hm.1,hm.2,by simp⟩ hr
end
section
open Go.RowKit
theorem zf2.call {lim:Nat} {w w':World} {f:Value × Value} (h:zf2 lim w f) (hb:Below w.heap.size w w'):zf2 lim w' f:=by
 obtain ⟨h1,h2,h3,es,h4,h5⟩:=h
 exact ⟨h1,h2.call hb,h3,es,h4.call hb,fun e he=>(h5 e he).call hb⟩
theorem zq9.few {w:World} {v:Value} (h:zq9 w v):(∃ p n c,v = .slice p n c)∧∃ b,(∀ W,Below w.heap.size w W→Calls Tryz.prog 9 #[v] W (t7 b W))∧(b=true→∃ F,g8 w v F∧z90 F):=by
 obtain ⟨hs,fs,hv,hi⟩:=h
 have each:∀ i,i<fs.length→∃ b,∀ f,fs[i]? = some f→(∀ W,Below w.heap.size w W→Calls Tryz.prog 31 #[f.2] W (t7 b W))∧(b=true→∃ V,z23 w f.2 V∧V.length≤20∧∀ x ∈ V,x.2.2.length≤30):=by
  intro i hlt
  obtain ⟨_,b,h1,h2⟩:=(xb0 (hi _ (List.getElem_mem hlt))).few
  refine ⟨b,fun f hf => ?_⟩
  obtain ⟨_,rfl⟩:=List.getElem?_eq_some_iff.1 hf
  exact ⟨h1,h2⟩
 obtain ⟨B,hB⟩:=Go.Deep.choose_lt each
 have lt:∀ {i f},fs[i]? = some f→i<fs.length:=fun hf=>(List.getElem?_eq_some_iff.1 hf).1
 refine ⟨?_,xb2 fs B,fun W hb=>w33 v fs W (hv.call hb) (fun f hf=>(hi f hf).call hb) B (fun i f hf W2 hb2=>(hB i (lt hf) f hf).1 W2 (hb.trans (hb2.mono hb.size))),fun hf => ?_⟩
 ·obtain ⟨p,cap,e,_⟩:=hv;exact ⟨p,_,cap,e⟩
 ·obtain ⟨h1,h2⟩:=xl9 hf
  obtain ⟨F,h3,h4⟩:=wr4 hv hi B (fun i f hf hb=>(hB i (lt hf) f hf).2 hb) h1 h2
  exact ⟨F,⟨h3,hs⟩,h4⟩
theorem zc4.all1 {w:World} {v:Value} {F:u9} (h:zc4 w v F):(∀ x ∈ F,o6 x.1)∧∀ x ∈ F,∀ y ∈ x.2,o6 y.2.2∧0≤y.2.1∧y.2.1≤UM:=by
 have key:∀ x ∈ F,o6 x.1∧∀ y ∈ x.2,o6 y.2.2∧0≤y.2.1∧y.2.1≤UM:=by
  rintro ⟨L,V⟩ hx
  obtain ⟨i,hi⟩:=List.mem_iff_getElem?.1 hx
  obtain ⟨_,_,_,_,_,_,_,_,_,_,ha⟩:=h.elem hi
  exact ⟨ha.all,ha.vec.m.all64⟩
 exact ⟨fun x hx=>(key x hx).1,fun x hx=>(key x hx).2⟩
theorem xt2 {W w1 w2:World} {p0 p1 p2:Addr} {a0 a1 a2:Value} (h:Below W.heap.size W w1∧w1.cell? p0=some a0∧w1.cell? p1=some a1∧w1.cell? p2=some a2) (hb:Below w1.heap.size w1 w2):Below W.heap.size W w2∧w2.cell? p0=some a0∧w2.cell? p1=some a1∧w2.cell? p2=some a2:=
 ⟨z7 h.1 hb,z6 h.2.1 hb,z6 h.2.2.1 hb,z6 h.2.2.2 hb⟩
end
section
open Go.RowKit
def y59:List (x6)→Nat→Nat→Prop
 | [],_,_=>True
 | V :: st,a,b=>∃ a1 b1,j7 a1 b1 V∧a1≤a∧b1+3≤b∧y59 st (a - a1) (b - (b1+3))
theorem y59.push {V:x6} {st:List (x6)} {a b n m:Nat} (h:y59 st a b) (hV:j7 n m V):y59 (V :: st) (a+n) (b+(m+3)):=
 ⟨n,m,hV,by omega,by omega,by rw [Nat.add_sub_cancel,Nat.add_sub_cancel];exact h⟩
theorem y59.fold {A B:x6} {st:List (x6)} {a b:Nat} (gA:t6 A) (gB:t6 B) (h:y59 (B :: A :: st) a b):y59 (opV orL A B :: st) a b:=by
 obtain ⟨a1,b1,s1,h1,h2,a2,b2,s2,h3,h4,h5⟩:=h
 refine ⟨a2+a1,b2+b1+3,x73 gA gB s2 s1,by omega,by omega,?_⟩
 rw [show a - (a2+a1)=a - a1 - a2 by omega,show b - (b2+b1+3+3)=b - (b1+3) - (b2+3) by omega]
 exact h5
theorem y59.mono {st:List (x6)}:∀ {a b a' b':Nat},y59 st a b→a≤a'→b≤b'→y59 st a' b':=by
 induction st with
 | nil=>intros;trivial
 | cons V st ih =>
   rintro a b a' b' ⟨a1,b1,s,h1,h2,h3⟩ ha hb
   exact ⟨a1,b1,s,by omega,by omega,ih h3 (by omega) (by omega)⟩
theorem y59.two {A B:x6} {st:List (x6)} {a b:Nat} (h:y59 (B :: A :: st) a b):j7 a b A∧j7 a b B:=by
 obtain ⟨a1,b1,s1,h1,h2,a2,b2,s2,h3,h4,_⟩:=h
 exact ⟨s2.mono (by omega) (by omega),s1.mono (by omega) (by omega)⟩
def bV (V:x6):Nat:=(V.map fun y=>y.2.2.length).foldr max 0
def zc2 (Vs:List (x6)):Nat:=(Vs.map List.length).sum
def zc3 (Vs:List (x6)):Nat:=(Vs.map fun V=>bV V+3).sum
theorem wf8:∀ {V:x6} {b:Nat},(∀ y ∈ V,y.2.2.length≤b)→bV V≤b
 | [],_,_=>Nat.zero_le _
 | y :: V,b,h=>by
   have:=wf8 (V:=V) fun z hz=>h z (List.mem_cons_of_mem _ hz)
   have h1:=h y (by simp)
   unfold bV at this ⊢
   rw [List.map_cons,List.foldr_cons]
   omega
theorem ww6:∀ {V:x6},∀ y ∈ V,y.2.2.length≤bV V
 | x :: V,y,hy=>by
   have e:bV (x :: V)=max x.2.2.length (bV V):=rfl
   rcases List.mem_cons.1 hy with rfl | hy
   ·omega
   ·have:=ww6 (V:=V) y hy;omega
theorem yj8 (V:x6):j7 V.length (bV V) V:=⟨Nat.le_refl _,ww6⟩
theorem yt8 (V:x6) (Vs:List (x6)):zc2 (V :: Vs)=V.length+zc2 Vs:=by unfold zc2;simp
theorem yt9 (V:x6) (Vs:List (x6)):zc3 (V :: Vs)=(bV V+3)+zc3 Vs:=by unfold zc3;simp
theorem yu0 (Vs:List (x6)) (V:x6):zc2 (Vs ++ [V])=zc2 Vs+V.length:=by unfold zc2;simp
theorem yu1 (Vs:List (x6)) (V:x6):zc3 (Vs ++ [V])=zc3 Vs+(bV V+3):=by unfold zc3;simp
theorem yz8 {Vs Us:List (x6)} (h:Vs.Sublist Us):zc2 Vs≤zc2 Us∧zc3 Vs≤zc3 Us:=by
 unfold zc2 zc3
 induction h with
 | slnil=>exact ⟨Nat.le_refl _,Nat.le_refl _⟩
 | cons x _ ih=>simp only [List.map_cons,List.sum_cons];omega
 | cons_cons x _ ih=>simp only [List.map_cons,List.sum_cons];omega
theorem wf9 {n m k:Nat}:∀ {Vs:List (x6)},Vs.length≤k→(∀ V ∈ Vs,j7 n m V)→zc2 Vs≤k*n∧zc3 Vs≤k*(m+3)
 | [],_,_=>⟨Nat.zero_le _,Nat.zero_le _⟩
 | V :: Vs,hl,h=>by
   obtain ⟨k,rfl⟩:∃ j,k=j+1:=⟨k - 1,by simp at hl;omega⟩
   obtain ⟨h1,h2⟩:=wf9 (Vs:=Vs) (k:=k) (by simpa using hl) fun U hU=>h U (List.mem_cons_of_mem _ hU)
   have h3:=h V (by simp)
   have h4:=wf8 h3.2
   have h5:=h3.1
   rw [yt8,yt9,Nat.succ_mul,Nat.succ_mul]
   omega
structure StK (Vs st:List (x6)):Prop where
 good:∀ V ∈ st,t6 V
 fits:y59 st (zc2 Vs) (3+zc3 Vs)
 has:∀ r c:Int,0≤c→st.any (fun V=>i7 V r c)=Vs.any fun V=>i7 V r c
 last:∃ up B,st=up ++ [B]∧∀ y ∈ B,r7 y.2.1 y.2.2=true
theorem StK.start:StK [] [[]]:=
 ⟨fun V hV=>(by obtain rfl:=List.mem_singleton.1 hV;exact z32.1),⟨0,0,⟨by simp,fun x hx=>by cases hx⟩,by simp [zc2],by simp [zc3],trivial⟩,fun r c _=>by simp [zr4],[],[],rfl,fun y hy=>by cases hy⟩
theorem StK.push {Vs st:List (x6)} {V:x6} (h:StK Vs st) (gV:t6 V):StK (Vs ++ [V]) (V :: st):=by
 refine ⟨fun U hU => ?_,?_,fun r c hc => ?_,?_⟩
 ·rcases List.mem_cons.1 hU with rfl | hU
  ·exact gV
  ·exact h.good U hU
 ·have:=h.fits.push (yj8 V)
  rw [yu0,yu1,← Nat.add_assoc]
  exact this
 ·rw [List.any_cons,List.any_append,h.has r c hc]
  simp [Bool.or_comm]
 ·obtain ⟨up,B,e,hB⟩:=h.last
  exact ⟨V :: up,B,by rw [e];rfl,hB⟩
theorem StK.fold {Vs st:List (x6)} {A B:x6} (h:StK Vs (B :: A :: st)):StK Vs (opV orL A B :: st):=by
 have gB:=h.good B (by simp)
 have gA:=h.good A (by simp)
 refine ⟨fun U hU => ?_,h.fits.fold gA gB,fun r c hc => ?_,?_⟩
 ·rcases List.mem_cons.1 hU with rfl | hU
  ·exact yd1 gA gB
  ·exact h.good U (by simp [hU])
 ·rw [← h.has r c hc,List.any_cons,List.any_cons,List.any_cons,z49 (yd1 gA gB) r hc,wd1 gA gB,zl5 (o5 gA r) (o5 gB r),← z49 gA r hc,← z49 gB r hc,← Bool.or_assoc,Bool.or_comm (i7 A r c)]
 ·obtain ⟨up,C,e,hC⟩:=h.last
  cases st with
  | nil=>exact ⟨[],_,rfl,(zj5 (fun _ _ h h'=>z10 h h') gA gB).2⟩
  | cons V st =>
    match up,e with
    | [],e=>simp at e
    | [x],e=>simp at e
    | x :: y :: up,e =>
      simp only [List.cons_append,List.cons.injEq] at e
      exact ⟨opV orL A B :: up,C,by rw [e.2.2];rfl,hC⟩
theorem StK.two {Vs st:List (x6)} {A B:x6} (h:StK Vs (B :: A :: st)) (hl:zc2 Vs≤900∧zc3 Vs≤900):(t6 A∧t6 B)∧j7 1000 1000 A∧j7 1000 1000 B:=
 ⟨⟨h.good A (by simp),h.good B (by simp)⟩,h.fits.two.1.mono (by omega) (by omega),h.fits.two.2.mono (by omega) (by omega)⟩
def z28 (t:Int):Nat→List (Value × Value)→u9→List (Nat × (Value × Value) × List Iv × x6)
 | i,f :: fs,x :: F=>if y8 x.1 t=true then (i,f,x) :: z28 t (i+1) fs F else z28 t (i+1) fs F
 | _,_,_ => []
theorem wz6 {t:Int} {fs:List (Value × Value)} {F:u9} {k:Nat} {f:Value × Value} {x:List Iv × x6} (hf:fs[k]? = some f) (hx:F[k]? = some x) :
 z28 t k (fs.drop k) (F.drop k)=if y8 x.1 t=true then (k,f,x) :: z28 t (k+1) (fs.drop (k+1)) (F.drop (k+1)) else z28 t (k+1) (fs.drop (k+1)) (F.drop (k+1)):=by
 obtain ⟨k1,e1⟩:=List.getElem?_eq_some_iff.1 hf
 obtain ⟨k2,e2⟩:=List.getElem?_eq_some_iff.1 hx
 rw [List.drop_eq_getElem_cons k1,List.drop_eq_getElem_cons k2,e1,e2]
 rfl
theorem wr2 {t:Int} {fs:List (Value × Value)} {F:u9} {k:Nat} (h:F.length≤k):z28 t k (fs.drop k) (F.drop k) = []:=by
 rw [List.drop_eq_nil_of_le h]
 cases fs.drop k <;> rfl
theorem yd7 {t r c:Int}:∀ (i:Nat) (fs:List (Value × Value)) (F:u9),fs.length=F.length→(z28 t i fs F).any (fun y=>i7 y.2.2.2 r c)=m5 F t r c
 | _,[],[],_=>rfl
 | i,f :: fs,x :: F,h=>by
   have ih:=yd7 (t:=t) (r:=r) (c:=c) (i+1) fs F (by simpa using h)
   unfold z28 m5
   rw [List.any_cons]
   cases hx:y8 x.1 t with
   | false=>rw [if_neg (by simp),ih];simp [m5]
   | true=>rw [if_pos rfl,List.any_cons,ih];simp [m5]
 | _,[],_ :: _,h=>by simp at h
 | _,_ :: _,[],h=>by simp at h
theorem xt3 {t:Int}:∀ (i:Nat) (fs:List (Value × Value)) (F:u9),((z28 t i fs F).map (·.2.2.2)).Sublist (F.map (·.2))
 | _,[],F=>by rw [show z28 t _ [] F = [] by cases F <;> rfl];exact List.nil_sublist _
 | _,_ :: _,[]=>List.nil_sublist _
 | i,f :: fs,x :: F=>by
   have ih:=xt3 (t:=t) (i+1) fs F
   unfold z28
   split
   ·rw [List.map_cons,List.map_cons];exact ih.cons_cons _
   ·rw [List.map_cons];exact ih.cons _
theorem yz9 {t:Int}:∀ (i:Nat) (fs:List (Value × Value)) (F:u9),(z28 t i fs F).length≤F.length
 | _,[],[]=>by simp [z28]
 | i,f :: fs,x :: F=>by
   have ih:=yz9 (t:=t) (i+1) fs F
   unfold z28
   split <;> simp <;> omega
 | _,[],_ :: _=>by simp [z28]
 | _,_ :: _,[]=>by simp [z28]
theorem x00 {t:Int}:∀ (i:Nat) (fs:List (Value × Value)) (F:u9) (y:Nat × (Value × Value) × List Iv × x6),y ∈ z28 t i fs F→∃ k,y.1=i+k∧fs[k]? = some y.2.1∧F[k]? = some y.2.2
 | i,f :: fs,x :: F,y,h=>by
   unfold z28 at h
   have key:y ∈ z28 t (i+1) fs F→∃ k,y.1=i+k∧(f :: fs)[k]? = some y.2.1∧(x :: F)[k]? = some y.2.2:=fun h=>by
    obtain ⟨k,h1,h2,h3⟩:=x00 (i+1) fs F y h
    exact ⟨k+1,by omega,by simpa using h2,by simpa using h3⟩
   split at h
   ·rcases List.mem_cons.1 h with rfl | h
    ·exact ⟨0,rfl,rfl,rfl⟩
    ·exact key h
   ·exact key h
 | _,[],_,_,h=>by simp [z28] at h
 | _,_ :: _,[],_,h=>by simp [z28] at h
theorem StK.end {t:Int} {F:u9} {fs:List (Value × Value)} {V:x6} (hl:fs.length=F.length) (hF:x7 F) (h:StK ((z28 t 0 fs F).map (·.2.2.2)) [V]):V=atK F t:=by
 have gV:=h.good V (by simp)
 obtain ⟨gA,cA⟩:=zr3 (t:=t) F [] z32 hF
 obtain ⟨up,B,e,hB⟩:=h.last
 have hVB:B=V:=by
  match up,e with
  | [],e=>simpa using e.symm
  | x :: up,e=>simp at e
 subst hVB
 refine xt0 gV hB gA cA fun r=>yh8 (o5 gV r) (o5 gA r) fun c hc => ?_
 have h5:=z49 gA r hc
 change i7 (atK F t) r c=y8 (knV (atK F t) r) c at h5
 rw [← z49 gV r hc,← h5]
 have h1:=h.has r c hc
 rw [List.any_map] at h1
 have h2:=yd7 (t:=t) (r:=r) (c:=c) 0 fs F hl
 have h3:=zr5 hF t r hc
 simp only [List.any_cons,List.any_nil,Bool.or_false] at h1
 rw [h1]
 exact h2.trans h3.symm
def pcK (n:Nat):Nat := [0,1,1,2,1,2,2,3,1,2,2,3,2,3].getD n 0
theorem v74 {n:Nat} (h:n<13):pcK n+1=pcK (n+1)+tzK (n+1):=by
 have:∀ n,n<13→pcK n+1=pcK (n+1)+tzK (n+1):=by decide
 exact this n h
theorem wz7 {n:Nat} (h:n<13):1≤pcK (n+1):=by
 have:∀ n,n<13→1≤pcK (n+1):=by decide
 exact this n h
def wz8 (F:u9):Prop:=F.length≤13∧zc2 (F.map (·.2))≤900∧zc3 (F.map (·.2))≤900
theorem xt4 {t:Int} {fs:List (Value × Value)} {F:u9} (h:wz8 F) {l:List (Nat × (Value × Value) × List Iv × x6)} (hp:l <+: z28 t 0 fs F):zc2 (l.map (·.2.2.2))≤900∧zc3 (l.map (·.2.2.2))≤900:=by
 have h1:=yz8 ((hp.sublist.map (·.2.2.2)).trans (xt3 0 fs F))
 have:=h.2
 omega
def flatK (F:u9):List Iv:=F.flatMap (·.1)
theorem yj9 {F:u9} {k:Nat} {x:List Iv × x6} (h:F[k]? = some x):flatK (F.take (k+1))=flatK (F.take k)++x.1:=by
 unfold flatK
 rw [List.take_add_one,h]
 simp
theorem ze1 {F:u9} {y:Iv} (h:y ∈ flatK F):∃ x ∈ F,y ∈ x.1:=by
 unfold flatK at h
 simpa using h
theorem yu2 (t:Int):∀ F:u9,y8 (flatK F) t=F.any fun x=>y8 x.1 t
 | []=>rfl
 | x :: F=>by
   have e:flatK (x :: F)=x.1++flatK F:=by simp [flatK]
   rw [e,d7,yu2 t F,List.any_cons]
theorem y60 {n:Nat}:∀ F:u9,(∀ x ∈ F,x.1.length≤n)→(flatK F).length≤F.length*n
 | [],_=>by simp [flatK]
 | x :: F,h=>by
   have ih:=y60 F fun y hy=>h y (by simp [hy])
   have h1:=h x (by simp)
   have e:flatK (x :: F)=x.1++flatK F:=by simp [flatK]
   rw [e,List.length_append,List.length_cons,Nat.succ_mul]
   omega
theorem xk8 {F:u9} (hF:x7 F):yl2 (flatK F)=z13 F:=by
 refine (xb4 (fun y hy => ?_) (zb7 F [] z17 hF).can fun t => ?_).symm
 ·obtain ⟨x,hx,hy⟩:=ze1 hy
  exact z06 x.1 (hF x hx).1.can y hy
 ·rw [yu2]
  have:=zm0 t F [] z17 hF
  rw [show y8 ([]:List Iv) t=false from rfl,Bool.false_or] at this
  exact this
end
section
open Go.RowKit
theorem xt5 {l:List Iv} {e:Int × Option Int} (h:z14 l=some e):e.1≠0:=by
 unfold z14 at h
 cases hk:zr7 l with
 | none=>rw [hk] at h;cases h
 | some x =>
   rw [hk] at h
   obtain rfl:=Option.some.inj h
   unfold zr7 at hk
   obtain ⟨i,_,hi⟩:=List.exists_of_findSome?_eq_some hk
   split at hi
   ·cases hi
   ·rename_i hn
    obtain rfl:=Option.some.inj hi
    exact hn
def zr0 (x:List Iv × x6):Option (Int × Option Int):=match z14 x.1 with
 | some e=>some e
 | none=>zg9 x.2
theorem zy8 (x:List Iv × x6):o9 (zr0 x)=za5 x:=by
 unfold zr0 za5
 cases h:z14 x.1 with
 | some e =>
   have h0:¬ o9 (some e)=0:=xt5 h
   rw [if_neg h0]
 | none =>
   rw [if_pos (show o9 none=0 from rfl)]
   dsimp only
   unfold zg9 zc7
   cases z58 x.2 <;> rfl
theorem xk9 {x:List Iv × x6} (h:za5 x=0):zr0 x=none:=by
 rw [← zy8] at h
 unfold zr0 at h ⊢
 cases hv:z14 x.1 with
 | some e=>rw [hv] at h;exact absurd h (xt5 hv)
 | none =>
   rw [hv] at h
   unfold zg9 at h ⊢
   cases hc:z58 x.2 with
   | none=>rfl
   | some y=>rw [hc] at h;exact absurd h (zy6 hc)
theorem xl0 {x:List Iv × x6} (h:za5 x≠0):zr0 x≠none:=by
 intro e
 rw [← zy8,e] at h
 exact h rfl
set_option maxRecDepth 100000 in
set_option maxHeartbeats 2000000 in
theorem xl1 (L:List Iv) (V:x6) (p q:Option Addr) (n m c d:Nat) (w:World) (hg:z43 w) (hf:z89 w (.slice p n c,.slice q m d) (L,V)) :
 Calls Tryz.prog 48 #[.agg #[.slice p n c,.slice q m d]] w (z40 (zr0 (L,V)) w):=by
 obtain ⟨w1,hw1⟩:∃ w1,w.alloc (.cells #[.slice p n c,.slice q m d] 46)=w1:=⟨_,rfl⟩
 have hb1:Below w.heap.size w w1:=hw1 ▸ z8 w _
 have t0:w1.cell? ⟨w.heap.size,0,none⟩=some (.slice p n c):=by rw [← hw1];simp
 have t1:w1.cell? ⟨w.heap.size,1,none⟩=some (.slice q m d):=by rw [← hw1];simp
 have HT1:=qh t1
 have hf1:=hf.call hb1
 have K:=qh (yk5 L _ w1 (hg.here hb1) hf1.at1 hf1.all)
 have KV:=qh (fun W hb=>yi5 V (.slice q m d) W (hg.here (z7 hb1 hb)) ((hf1.vec).call hb).m)
 have HB1:=qh hb1
 clear hf hf1 hg hb1
 cases hv:z14 L with
 | some e =>
   have HC:Hid (zr0 (L,V)=some e):=qh (by unfold zr0;rw [hv])
   rw [hv] at K
   clear hv
   obtain ⟨t,u,hu⟩:=z30 (x:=some e) (by simp)
   unfold z40 at K
   rw [hu] at K
   have HU:=qh hu;clear hu
   go_enter Tryz.func48,Tryz.ntmps48
   go_wp2_with fail
   refine K.out.mono ?_
   rintro e1 w2 ⟨rfl,h⟩
   have H2:=qh (z7 HB1.out h);clear h
   go_wp2_with fail
   go_ret
   exact ⟨by rw [HC.out,HU.out];rfl,H2.out⟩
 | none =>
   have HC:Hid (zr0 (L,V)=zg9 V):=qh (by unfold zr0;rw [hv])
   rw [hv] at K
   clear hv
   unfold z40 at K KV
   generalize hev:za0 (zg9 V)=ev at KV
   have HEV:=qh hev;clear hev
   go_enter Tryz.func48,Tryz.ntmps48
   go_wp2_with fail
   refine K.out.mono ?_
   rintro e1 w2 ⟨rfl,h⟩
   rw [show za0 none = .nilIface from rfl]
   have t1':=z6 HT1.out h
   have K2:=qh (KV.out w2 h)
   have H2:=qh (z7 HB1.out h);clear h t1
   go_wp2_with fail
   refine K2.out.mono ?_
   rintro e1 w3 ⟨rfl,h⟩
   have H3:=qh (z7 H2.out h);clear h
   go_wp2_with fail
   go_ret
   exact ⟨by rw [HC.out,HEV.out];rfl,H3.out⟩
theorem wg0 {F:u9} {k:Nat} {x:List Iv × x6} (h:∀ (j:Nat) y,j<k→F[j]? = some y→za5 y=0) (hx:F[k]? = some x) (h0:za5 x=0):∀ (j:Nat) y,j<k+1→F[j]? = some y→za5 y=0:=fun j y hj hy=>by
 rcases Nat.lt_or_eq_of_le (Nat.le_of_lt_succ hj) with h1 | rfl
 ·exact h j y h1 hy
 ·obtain rfl:=Option.some.inj (hx.symm.trans hy);exact h0
set_option maxRecDepth 100000 in
set_option maxHeartbeats 4000000 in
theorem yk0 (F:u9) (v:Value) (w:World) (hg:z43 w) (hv:g8 w v F):Calls Tryz.prog 20 #[v] w (z40 (z11 F) w):=by
 obtain ⟨p,cap,rfl⟩:=hv.m.shape
 have hlen:=hv.m.len
 have HV:=qh hv.m;clear hv
 have HG:=qh hg;clear hg
 have KC:=qh xl1
 have KF:=qh zo5
 have KN:=qh y67
 go_enter Tryz.func20,Tryz.ntmps20
 go_wp2_with fail
 go_loopw [8] (fun i wr=>∃ k:Nat,i = .int .i64 k∧k≤F.length∧(∀ (j:Nat) y,j<k→F[j]? = some y→za5 y=0)∧Below w.heap.size w wr) (fun i _=>F.length - (intOf i).toNat)
 case atStart=>exact ⟨0,rfl,Nat.zero_le _,fun j y hj=>absurd hj (Nat.not_lt_zero j),Below.refl _ _⟩
 case round =>
  obtain ⟨k,rfl,hk,hbef,hb⟩:=hrel
  have HBF:=qh hbef;clear hbef
  have HB:=qh hb;clear hb
  by_cases hlt:k<F.length
  ·obtain ⟨⟨L,V⟩,hx⟩:∃ x,F[k]? = some x:=⟨F[k],by simp [hlt]⟩
   obtain ⟨b,o,cap',p1,c1,q1,d1,e,c0,c1',hf⟩:=(HV.out.call HB.out).elem hx
   cases e
   obtain ⟨wE,hwE⟩:∃ wE,wr.alloc (.cells #[.slice p1 L.length c1,.slice q1 V.length d1] 46)=wE:=⟨_,rfl⟩
   have hbE:Below wr.heap.size wr wE:=hwE ▸ z8 wr _
   have t0:wE.cell? ⟨wr.heap.size,0,none⟩=some (.slice p1 L.length c1):=by rw [← hwE];simp
   have t1:wE.cell? ⟨wr.heap.size,1,none⟩=some (.slice q1 V.length d1):=by rw [← hwE];simp
   have HBE:=qh (z7 HB.out hbE)
   have kc:=KC.out L V _ _ _ _ _ _ wE (HG.out.here HBE.out) (hf.call hbE)
   have HX:=qh hx
   clear hf hbE
   have i1:(0:Int)≤(k:Int):=by omega
   have i2:(k:Int)<(F.length:Int):=by omega
   by_cases h0:za5 (L,V)=0
   ·have HN:=qh (wg0 HBF.out HX.out h0)
    rw [xk9 h0] at kc
    have K:=qh kc;clear kc h0 hx
    go_wp2_with fail
    refine K.out.mono ?_
    rintro e1 w2 ⟨rfl,h⟩
    rw [show za0 none = .nilIface from rfl]
    have H2:=qh (z7 HBE.out h);clear h
    go_wp2_with fail
    go_roundw
    case rel=>exact ⟨k+1,by go_num,by omega,HN.out,H2.out⟩
    case measure=>simp [intOf];omega
   ·have HZ:Hid (z11 F=some (za5 (L,V),some (k:Int))):=qh (by unfold z11;rw [y63 HX.out HBF.out h0];rfl)
    obtain ⟨t,u,hu⟩:=z30 (xl0 h0)
    have h00:(za5 (L,V) == 0)=false:=by simpa using h0
    have H00:=qh h00
    have kf:=fun W h=>KF.out (zr0 (L,V)) W h
    unfold z40 at kc
    rw [hu] at kc kf
    rw [zy8] at kf
    have K:=qh kc
    have KF1:=qh kf
    clear kc kf hu h0 h00 hx
    generalize za5 (L,V)=cd at *
    go_wp2_with fail
    refine K.out.mono ?_
    rintro e1 w2 ⟨rfl,h⟩
    have H2:=qh (z7 HBE.out h);clear h
    go_wp2_with fail
    refine (KF1.out _ (HG.out.here H2.out)).mono ?_
    rintro e1 w3 ⟨rfl,h⟩
    have H3:=qh (z7 H2.out h);clear h
    go_wp2_with fail
    refine (KN.out cd (k:Int) _ H00.out).mono ?_
    rintro e1 w4 ⟨rfl,rfl⟩
    go_wp2_with fail
    go_ret
    exact ⟨by rw [HZ.out];rfl,H3.out⟩
  ·obtain rfl:k=F.length:=by omega
   have HZ:Hid (z11 F=none):=qh (by unfold z11;rw [y62 fun j x hx=>HBF.out j x (List.getElem?_eq_some_iff.1 hx).1 hx];rfl)
   go_wp2_with fail
   go_ret
   exact ⟨by rw [HZ.out];rfl,HB.out⟩
end
section
open Go.RowKit Go.Shelf Go.ChangeShapes Go.WideShapes
attribute [local go_sem] Oper.semAt_some
def slv:Value→Value
 | .slice p n c => .slice p n c
 | _ => .slice none 0 0
theorem y61 (v:Value):∃ p n c,slv v = .slice p n c:=by
 unfold slv
 split
 ·exact ⟨_,_,_,rfl⟩
 ·exact ⟨_,_,_,rfl⟩
def w31 (y:Nat × (Value × Value) × List Iv × x6):Array Value:=#[.int .i64 (y.1:Int),.agg #[slv y.2.1.1,slv y.2.1.2]]
structure xl3 (W:World) (v:Value) (fs:List (Value × Value)) (F:u9):Prop where
 at1:zh1 W v fs
 len:fs.length=F.length
 el:∀ (i:Nat) (f:Value × Value) (x:List Iv × x6),fs[i]? = some f→F[i]? = some x→z89 W f x
theorem zc4.named {W:World} {v:Value} {F:u9} (h:zc4 W v F):∃ fs,xl3 W v fs F:=by
 obtain ⟨⟨fs,h1,h2,h3⟩,_⟩:=h
 exact ⟨fs,h1,h2,h3⟩
theorem xl3.call {w w':World} {v:Value} {fs:List (Value × Value)} {F:u9} (h:xl3 w v fs F) (hb:Below w.heap.size w w'):xl3 w' v fs F:=
 ⟨h.at1.call hb,h.len,fun i f x hf hx=>(h.el i f x hf hx).call hb⟩
theorem xl3.elem {w:World} {v:Value} {fs:List (Value × Value)} {F:u9} (h:xl3 w v fs F) {i:Nat} {L:List Iv} {V:x6} (hi:F[i]? = some (L,V)) :
 ∃ b o cap p c q d,v = .slice (some ⟨b,o,none⟩) F.length cap∧fs[i]? = some (.slice p L.length c,.slice q V.length d)∧w.cell? ⟨b,o+i*2,none⟩=some (.slice p L.length c)∧w.cell? ⟨b,o+i*2+1,none⟩=some (.slice q V.length d)∧z89 w (.slice p L.length c,.slice q V.length d) (L,V):=by
 obtain ⟨⟨p,cap,h1,_,h5⟩,h2,h3⟩:=h
 have hlt:i<F.length:=(List.getElem?_eq_some_iff.1 hi).1
 have hlf:i<fs.length:=by omega
 obtain ⟨f,he⟩:∃ f,fs[i]? = some f:=⟨fs[i],by simp [hlf]⟩
 obtain ⟨b,o,rfl,h6⟩:=h5 (by intro e;rw [e] at h2;simp at h2;omega)
 obtain ⟨c0,c1⟩:=h6 i _ he
 have ha:=h3 i _ _ he hi
 obtain ⟨f1,f2⟩:=f
 obtain ⟨q,cq,hs,_⟩:=ha.at1.shape
 obtain ⟨q2,cq2,hs2⟩:=ha.vec.m.shape
 dsimp only at hs hs2 c0 c1
 subst hs hs2
 exact ⟨b,o,cap,q,cq,q2,cq2,by rw [h1,h2],he,c0,c1,ha⟩
set_option maxRecDepth 100000 in
theorem yu3 (p:Option Addr) (n c:Nat) (t:Int) (w:World):Calls Tryz.prog 49 #[.slice p n c,.int .u64 t] w (fun e w' =>
 e = .returned (.func (.func 94) #[] #[.pointer (some ⟨w.heap.size,0,none⟩),.pointer (some ⟨w.heap.size+1,0,none⟩)]) ∧
  w'=(w.alloc (.cells #[.slice p n c] 23)).alloc (.cells #[.int .u64 t] 36)):=by
 go_enter Tryz.func49,Tryz.ntmps49
 go_wp2_with fail
 go_ret
 exact ⟨by simp,by simp⟩
structure WtS (ka kb:Nat) (v:Value) (t:Int) (w0:World) (T:Nat→Prop) (W:World):Prop where
 ca:W.cell? ⟨ka,0,none⟩=some v
 cb:W.cell? ⟨kb,0,none⟩=some (.int .u64 t)
 low:Below w0.heap.size w0 W
 ta:T ka
 tb:T kb
 k0:∀ k,k<w0.heap.size→T k
theorem WtS.apart {ka kb:Nat} {v:Value} {t:Int} {w0:World} {T:Nat→Prop} {A B:World} (h:WtS ka kb v t w0 T A) (k:y5 (fun k=>¬ T k) A B):WtS ka kb v t w0 T B:=
 ⟨k.cell h.ca (fun n=>n h.ta),k.cell h.cb (fun n=>n h.tb),h.low.trans (k.below h.low.size fun i hi n=>n (h.k0 i hi)),h.ta,h.tb,h.k0⟩
theorem WtS.mv {ka kb:Nat} {v:Value} {t:Int} {w0:World} {T:Nat→Prop} {A B:World} (h:WtS ka kb v t w0 T A) (k:Below A.heap.size A B):WtS ka kb v t w0 T B:=
 ⟨z6 h.ca k,z6 h.cb k,h.low.trans (k.mono h.low.size),h.ta,h.tb,h.k0⟩
set_option maxRecDepth 100000 in
set_option maxHeartbeats 8000000 in
theorem yu4 (n:Nat) (ka kb:Nat) (v:Value) (t:Int) (fs:List (Value × Value)) (F:u9) (w0 W0:World) (keep:Nat→Prop) (hk0:∀ k,k<w0.heap.size→keep k) (hka:keep ka) (hkb:keep kb) (hb:Below w0.heap.size w0 W0) (hv:xl3 w0 v fs F) (hlen:F.length≤100000) (hF:x7 F)
 (hca:W0.cell? ⟨ka,0,none⟩=some v) (hcb:W0.cell? ⟨kb,0,none⟩=some (.int .u64 t)):we8 n Tryz.prog 94 #[.pointer (some ⟨ka,0,none⟩),.pointer (some ⟨kb,0,none⟩)] w31 (z28 t 0 fs F) keep W0:=by
 obtain ⟨p,cs,rfl⟩:∃ p cs,v = .slice p F.length cs:=by obtain ⟨p,c,e,_⟩:=hv.at1;exact ⟨p,c,by rw [e,hv.len]⟩
 intro l J Jx hab hY hJ0
 have HN:=qh (show WtS ka kb _ t w0 keep W0 from ⟨hca,hcb,hb,hka,hkb,hk0⟩);clear hca hcb hb hka hkb hk0
 have HV:=qh (And.intro hv hF);clear hv hF
 have HJ0:=qh hJ0;clear hJ0
 have HK:=qh hab;clear hab
 obtain ⟨L,hL⟩:∃ L,z28 t 0 fs F=L:=⟨_,rfl⟩
 rw [hL] at hY ⊢
 have HY:=qh hY;clear hY
 have HL:Hid ([]++z28 t 0 (fs.drop 0) (F.drop 0)=L):=qh (by simpa using hL);clear hL
 have KH:=qh y30
 obtain ⟨a0,b0,_⟩:=HN.out
 refine callsIn_of_wp Tryz.func94 rfl trivial ?_ rfl
 simp only [Tryz.ntmps94,List.size_toArray,List.length_cons,List.length_nil,Nat.reduceAdd,Nat.reduceSub,Array.replicate_succ,Array.replicate_zero,List.push_toArray,List.append_toArray,List.nil_append,List.cons_append]
 gi_wp2
 gi_loopw [8] (fun i wr=>∃ (k:Nat) (T:Nat→Prop) (g:List (Nat × (Value × Value) × List Iv × x6)),i = .int .i64 k∧k≤F.length∧g++z28 t k (fs.drop k) (F.drop k)=L∧WtS ka kb (.slice p F.length cs) t w0 T wr∧J g T wr) (fun i _=>F.length - (intOf i).toNat)
 case atStart=>exact ⟨0,keep,_,rfl,Nat.zero_le _,HL.out,HN.out,HJ0.out⟩
 case round =>
  clear a0 b0
  obtain ⟨k,T2,g,rfl,hk,hg,ho,hj⟩:=hrel
  have HG:=qh hg;clear hg
  have HO:=qh ho;clear ho
  have HJ:=qh hj;clear hj
  by_cases hlt:k<F.length
  ·obtain ⟨⟨I,V⟩,hx⟩:∃ x,F[k]? = some x:=⟨F[k],by simp [hlt]⟩
   obtain ⟨b,o,cb',px,cx,qx,dx,eb,hfk,c0,c1,hfr⟩:=(HV.out.1.call HO.out.low).elem hx
   cases eb
   have hgI:=(HV.out.2 _ (List.mem_of_getElem? hx)).1
   have HW:=qh (wz6 (t:=t) hfk hx)
   obtain ⟨w2,hw2⟩:∃ w2,wr.alloc (.cells #[.slice px I.length cx,.slice qx V.length dx] 46)=w2:=⟨_,rfl⟩
   have hb2:Below wr.heap.size wr w2:=hw2 ▸ z8 _ _
   have t0:w2.cell? ⟨wr.heap.size,0,none⟩=some (.slice px I.length cx):=by rw [← hw2];simp
   have t1:w2.cell? ⟨wr.heap.size,1,none⟩=some (.slice qx V.length dx):=by rw [← hw2];simp
   have d0:=z6 HO.out.cb hb2
   have K:=qh (KH.out I _ t w2 (hfr.at1.call hb2) hgI.can)
   have HB2:=qh hb2
   have i1:(0:Int)≤(k:Int):=by omega
   have i2:(k:Int)<(F.length:Int):=by omega
   have HLT:=qh hlt
   have HM:=qh hk;clear hk
   clear hfr hgI hb2 hx hfk
   cases hh:y8 I t with
   | false =>
     rw [hh] at K
     have HWW:=qh (HW.out.trans (if_neg (by rw [hh];simp)));clear HW hh
     gi_wp2
     refine ⟨trivial,fun h=>(by cases h),?_⟩
     refine (callsIn_wide.2 K.out).mono ?_
     rintro en w3 ⟨rfl,hb3⟩
     have HB3:=qh (z7 HB2.out hb3);clear hb3 t0 t1 d0 c0 c1
     gi_wp2
     refine ⟨fun f hf=>(by cases hf),?_⟩
     gi_wp2
     go_roundw
     case rel=>exact ⟨k+1,T2,g,by go_num,HLT.out,by rw [← HWW.out];exact HG.out,HO.out.mv HB3.out,HK.out.go _ _ _ _ _ HJ.out (Ext.of_below HB3.out (HK.out.low _ _ _ HJ.out))⟩
     case measure=>have:=HLT.out;simp [intOf] at this ⊢;omega
   | true =>
     rw [hh] at K
     have HWW:=qh (HW.out.trans (if_pos hh));clear HW hh
     gi_wp2
     refine ⟨trivial,fun h=>(by cases h),?_⟩
     refine (callsIn_wide.2 K.out).mono ?_
     rintro en w3 ⟨rfl,hb3⟩
     have u0:=z6 t0 hb3
     have u1:=z6 t1 hb3
     have HB3:=qh (z7 HB2.out hb3);clear hb3 t0 t1 d0 c0 c1
     have HJ3:=qh (HK.out.go _ _ _ _ _ HJ.out (Ext.of_below HB3.out (HK.out.low _ _ _ HJ.out)))
     have HO3:=qh (HO.out.mv HB3.out)
     have HP:Hid (g ++ [(k,(.slice px I.length cx,.slice qx V.length dx),(I,V))]++z28 t (k+1) (fs.drop (k+1)) (F.drop (k+1))=L):=qh (by rw [← HG.out,HWW.out];simp)
     clear HWW HG HJ HO
     gi_wp2
     obtain ⟨fn,tmps,assign,body,hy,hR⟩:=HY.out g (k,(.slice px I.length cx,.slice qx V.length dx),(I,V)) T2 w3 HJ3.out ⟨_,HP.out⟩
     dsimp only [w31,slv] at hy
     rw [hy,Oper.uponIn_round]
     refine ⟨fun h=>(by cases h),(RoundIn.anyDepth hR).mono ?_⟩
     clear hy hR u0 u1
     rintro en W5 ⟨hap,⟨rfl,hJ5⟩ | ⟨rfl,hJ5⟩⟩
     ·have HJ5:=qh hJ5
      have HO5:=qh (HO3.out.apart hap);clear hap hJ5 HJ3 HO3
      gi_wp2
      go_roundw
      case rel=>exact ⟨k+1,T2,_,by go_num,HLT.out,HP.out,HO5.out,HJ5.out⟩
      case measure=>have:=HLT.out;simp [intOf] at this ⊢;omega
     ·have HJ5:=qh hJ5;clear hap hJ5 HJ3 HO3
      gi_wp2
      refine bodyPost_ret (results_none rfl _ _ _) rfl ?_
      exact ⟨⟨_,rfl⟩,.inr HJ5.out⟩
  ·obtain rfl:k=F.length:=by omega
   have HZ:=qh (show g=L by rw [← HG.out,wr2 (Nat.le_refl _)];simp)
   gi_wp2
   refine bodyPost_end (results_none rfl _ _ _) rfl ?_
   exact ⟨⟨_,rfl⟩,.inl ⟨T2,by rw [← HZ.out];exact HJ.out⟩⟩
theorem wg1 {W:World} {b:Nat} {v:Value} (h:Boxed W b 4 v):(loadVar 4 ⟨b,0,none⟩).run Tryz.prog W = .ok v W:=by
 have hc:=h.cell
 have h2:=Tryz.isAgg4
 go_simp
structure HsI (h:Nat) (r c:Int) (w:World) (front:List (Nat × (Value × Value) × List Iv × x6)) (T:Nat→Prop) (W:World):Prop where
 no:∀ x ∈ front,i7 x.2.2.2 r c=false
 free:¬ T (h+2)
 br:Boxed W h 36 (.int .u64 r)
 bc:Boxed W (h+1) 36 (.int .u64 c)
 box:Boxed W (h+2) 4 (.bool false)
 low:Below h w W
theorem HsI.ext {h:Nat} {r c:Int} {w:World} {front:List (Nat × (Value × Value) × List Iv × x6)} {T T':Nat→Prop} {A B:World} (hI:HsI h r c w front T A) (hx:Ext T T' A B):HsI h r c w front T' B:=
 have hb:=y5.of_below (fun _=>False) hx.1
 ⟨hI.no,fun ht=>(by
  rcases (hx.2 _ ht).1 with hh | hh
  ·exact hI.free hh
  ·have:=hI.box.lt;omega),hb.boxed hI.br id,hb.boxed hI.bc id,hb.boxed hI.box id,hI.low.trans (hx.1.mono (Nat.le_of_lt hI.br.lt))⟩
theorem HsI.put {h:Nat} {r c:Int} {w:World} {front:List (Nat × (Value × Value) × List Iv × x6)} {T:Nat→Prop} {A B:World} (hI:HsI h r c w front T A) (hab:y5 (fun k=>k=h+6) A B):HsI h r c w front T B:=
 ⟨hI.no,hI.free,hab.boxed hI.br (by omega),hab.boxed hI.bc (by omega),hab.boxed hI.box (by omega),hI.low.trans (hab.below (Nat.le_of_lt hI.br.lt) fun k hk=>by omega)⟩
set_option maxRecDepth 100000 in
set_option maxHeartbeats 4000000 in
theorem wg2 (F:u9) (v:Value) (t r c:Int) (w:World) (hv:g8 w v F) (hF:x7 F) (h0:0≤c) (h1:c≤18446744073709551615):Calls Tryz.prog 21 #[v,.int .u64 t,.int .u64 r,.int .u64 c] w (t7 (m5 F t r c) w):=by
 refine (callsIn_wide (n:=5)).1 ?_
 have hlen:=hv.m.len
 obtain ⟨p,cs,rfl⟩:=hv.m.shape
 obtain ⟨fs,hfs⟩:=hv.m.named
 obtain ⟨h,hh⟩:∃ h,w.heap.size=h:=⟨_,rfl⟩
 have HV:=qh hfs;clear hfs hv
 have HF:=qh hF;clear hF
 have HH:=qh hh;clear hh
 have HC:=qh (And.intro h0 h1);clear h0 h1
 have KN:=qh yu3
 have KH:=qh we2
 refine callsIn_of_wp_marks Tryz.func21 rfl trivial ?_ rfl
 simp only [Tryz.ntmps21,List.size_toArray,List.length_cons,List.length_nil,Nat.reduceAdd,Nat.reduceSub,Array.replicate_succ,Array.replicate_zero,List.push_toArray,List.append_toArray,List.nil_append,List.cons_append]
 obtain ⟨w1,hw1⟩:∃ w1,((w.alloc (.cells #[.int .u64 r] 36)).alloc (.cells #[.int .u64 c] 36)).alloc (.cells #[.bool false] 4)=w1:=⟨_,rfl⟩
 have hb1:Below w.heap.size w w1:=hw1 ▸ z7 (z7 (z8 _ _) (z8 _ _)) (z8 _ _)
 have hs1:w1.heap.size=h+3:=by rw [← hw1];simp only [World.size_alloc];have:=HH.out;omega
 have br:Boxed w1 h 36 (.int .u64 r):=by rw [← hw1,← HH.out];exact ((Boxed.new w _ _).alloc _).alloc _
 have bc:Boxed w1 (h+1) 36 (.int .u64 c):=by
  have:=(Boxed.new (w.alloc (.cells #[.int .u64 r] 36)) 36 (.int .u64 c)).alloc (.cells #[.bool false] 4)
  rw [hw1] at this
  simpa only [World.size_alloc,HH.out] using this
 have bb:Boxed w1 (h+2) 4 (.bool false):=by
  have:=Boxed.new ((w.alloc (.cells #[.int .u64 r] 36)).alloc (.cells #[.int .u64 c] 36)) 4 (.bool false)
  rw [hw1] at this
  simpa only [World.size_alloc,HH.out] using this
 have H1:=qh (And.intro hw1 (And.intro hb1 (And.intro br (And.intro bc bb))));clear hw1 hb1 br bc bb
 gi_wp2
 rw [H1.out.1]
 refine ⟨trivial,?_⟩
 refine (callsIn_wide.2 (KN.out _ _ _ _ _)).mono ?_
 rintro en w3 ⟨rfl,hw3⟩
 rw [hs1,HH.out]
 have hb3:Below w1.heap.size w1 w3:=hw3 ▸ z7 (z8 _ _) (z8 _ _)
 have hs3:w3.heap.size=h+5:=by rw [hw3];simp only [World.size_alloc];omega
 have c0:w3.cell? ⟨h+3,0,none⟩=some (.slice p F.length cs):=by rw [← hs1,hw3];exact z6 (by simp) (z8 _ _)
 have c1:w3.cell? ⟨h+3+1,0,none⟩=some (.int .u64 t):=by rw [hw3,World.cell?_alloc_at _ _ _ _ (by simp only [World.size_alloc];omega)];rfl
 clear hw3
 have k3:=y5.of_below (fun _=>False) hb3
 have br3:=k3.boxed H1.out.2.2.1 id
 have bc3:=k3.boxed H1.out.2.2.2.1 id
 have bb3:=k3.boxed H1.out.2.2.2.2 id
 have hB3:Below h w w3:=HH.out ▸ z7 H1.out.2.1 hb3
 clear hb3 k3
 have hwh:h≤w.heap.size:=Nat.le_of_eq HH.out.symm
 gi_wp2
 refine yz3 (n:=5) (by omega) (gf:=94) (lb:=#[.pointer (some ⟨h+3,0,none⟩),.pointer (some ⟨h+3+1,0,none⟩)]) (encs:=w31) (L:=z28 t 0 fs F) (keep:=fun k=>k<h∨k=h+3∨k=h+3+1)
  rfl (enters_of Tryz.func94 (by kernel_rfl) rfl) (fun _=>rfl) (fun k hk=>by omega)
  (fun W hsW hb=>by
    have hbw:Below w.heap.size w W:=by rw [HH.out];exact hB3.trans (hb.mono (by omega))
    exact yu4 _ (h+3) (h+3+1) _ t fs F w W _ (fun k hk=>by rw [HH.out] at hk;exact .inl hk) (.inr (.inl rfl)) (.inr (.inr rfl)) hbw HV.out hlen HF.out (z6 c0 hb) (z6 c1 hb))
  (HsI h r c w) (fun W=>m5 F t r c=true∧Boxed W (h+2) 4 (.bool true)∧Below h w W)
  (fun front T T' A B hI hx=>hI.ext hx) (fun front T A B hI hab=>hI.put (hab.mono fun k _ hk=>by omega))
  (fun A B hI hab=>⟨hI.1,hab.boxed hI.2.1 (by omega),hI.2.2.trans (hab.below (by have:=hI.2.1.lt;omega) fun k hk=>by omega)⟩)
  ⟨fun x hx=>(by cases hx),by omega,br3,bc3,bb3,hB3⟩
  (fun x a' W=>∃ b,h+7≤b∧W.cell? ⟨b,0,none⟩=some (slv x.2.1.1)∧W.cell? ⟨b,1,none⟩=some (slv x.2.1.2)∧a'={ tmps:=#[.slice p F.length cs,.int .u64 t,.int .u64 r,.int .u64 c,undef,undef,.pointer (some ⟨h,0,none⟩),.pointer (some ⟨h+1,0,none⟩),.pointer (some ⟨h+1+1,0,none⟩),undef,.pointer (some ⟨b,0,none⟩),.slice p F.length cs,.int .u64 t,.func (.func 94) #[] #[.pointer (some ⟨h+3,0,none⟩),.pointer (some ⟨h+3+1,0,none⟩)],.int .i64 x.1,.agg #[slv x.2.1.1,slv x.2.1.2],undef,undef,undef,undef,undef],defers := [] })
  (fun x a' A B ⟨b,hb,q0,q1,hx⟩ hab=>⟨b,hb,hab.cell q0 (by show ¬ b=_;omega),hab.cell q1 (by show ¬ b=_;omega),hx⟩) ?assign ?body ?done ?stop
 case assign =>
  rintro l2 front ⟨i,⟨f1,f2⟩,x⟩ T W K _ hsW hK
  unfold w31
  dsimp only at hK ⊢
  obtain ⟨p1,n1,d1,e1⟩:=y61 f1
  obtain ⟨p2,n2,d2,e2⟩:=y61 f2
  rw [e1,e2] at hK ⊢
  gi_wp2
  exact hK _ _ (z8 W _) ⟨W.heap.size,by omega,by simp,by simp,by simp⟩
 case body =>
  rintro l2 front ⟨i,⟨f1,f2⟩,⟨I,V⟩⟩ a' T W hI hT ⟨b,hbb,q0,q1,rfl⟩ hx hs
  have hm:(i,(f1,f2),(I,V)) ∈ z28 t 0 fs F:=hx.subset (by simp)
  obtain ⟨k,_,hk1,hk2⟩:=x00 _ _ _ _ hm
  dsimp only at hk1 hk2 q0 q1 ⊢
  have hlow:Below w.heap.size w W:=HH.out.symm ▸ hI.low
  have hfr:=(HV.out.el k _ _ hk1 hk2).call hlow
  obtain ⟨q,dq,e2⟩:=hfr.vec.m.shape
  dsimp only at e2
  subst e2
  have K:=qh (KH.out V _ r c W hfr.vec.m (HF.out _ (List.mem_of_getElem? hk2)).2 HC.out.1 HC.out.2)
  obtain ⟨pz,nz,dz,e1⟩:=y61 f1
  rw [e1] at q0 ⊢
  simp only [show slv (.slice q V.length dq) = .slice q V.length dq from rfl] at q1 ⊢
  have cr:=hI.br.cell
  have cc:=hI.bc.cell
  have HM:=qh hm;clear hm hk1 hk2 hfr hlow e1
  have HI:=qh hI;clear hI
  have HS3:=qh hs3;clear hs3
  have HT:=qh hT;clear hT
  clear hx
  cases hhv:i7 V r c with
  | false =>
    rw [hhv] at K
    have HN:=qh hhv;clear hhv
    gi_wp2
    refine ⟨trivial,?_⟩
    refine (CallsIn.inRound l2 (callsIn_wide.2 K.out)).mono ?_
    rintro en w' ⟨rfl,hw⟩
    gi_wp2
    have hb:=y5.of_below (fun _=>False) hw
    exact ⟨y5.of_below _ hw,fun y hy=>(by
     rcases List.mem_append.1 hy with hy | hy
     ·exact HI.out.no y hy
     ·obtain rfl:=List.mem_singleton.1 hy;exact HN.out),HI.out.free,hb.boxed HI.out.br id,hb.boxed HI.out.bc id,hb.boxed HI.out.box id,HI.out.low.trans (hw.mono (Nat.le_of_lt HI.out.br.lt))⟩
  | true =>
    rw [hhv] at K
    have HN:Hid (m5 F t r c=true):=qh (by rw [← yd7 0 fs F HV.out.len];exact List.any_eq_true.2 ⟨_,HM.out,hhv⟩);clear hhv
    gi_wp2
    refine ⟨trivial,?_⟩
    refine (CallsIn.inRound l2 (callsIn_wide.2 K.out)).mono ?_
    rintro en w' ⟨rfl,hw⟩
    have hbx:=(y5.of_below (fun _=>False) hw).boxed HI.out.box id
    have hcl:w'.cell? ⟨h+1+1,0,none⟩=some (.bool false):=hbx.cell
    have hfz:w'.frozen? ⟨h+1+1,0,none⟩=false:=hbx.frozen
    have HBX:=qh hbx;clear hbx
    have HW:=qh hw;clear hw
    gi_wp2
    have hs3:=HS3.out
    refine ⟨(y5.of_below _ HW.out).trans (y5.set _ _ ?_),HN.out,HBX.out.set _,?_⟩
    ·intro hn
     have hn:T (h+2)∨h+2=w3.heap.size∨h+2=w3.heap.size+1:=hn
     rcases hn with hn | hn
     ·exact HI.out.free hn
     ·omega
    ·exact (HI.out.low.trans (HW.out.mono (Nat.le_of_lt HI.out.br.lt))).setCell (p:=⟨h+2,0,none⟩) (by show h≤h+2;omega) _
 case done =>
  rintro D T W hD hszW hI hK
  have hv:=hI.box
  have hb:=hI.low
  have hcl:W.cell? ⟨h+1+1,0,none⟩=some (.bool false):=hv.cell
  have hfz:W.frozen? ⟨h+1+1,0,none⟩=false:=hv.frozen
  have HE:Hid (m5 F t r c=false):=qh (by
   rw [← yd7 0 fs F HV.out.len]
   exact List.any_eq_false.2 fun x hx=>by rw [hI.no x hx];simp)
  clear hI
  have HVV:=qh hv;clear hv
  have HB:=qh hb;clear hb
  have HK:=qh hK;clear hK
  have HS3:=qh hs3;clear hs3
  have HD:=qh hD;clear hD
  gi_wp2
  have hs3:=HS3.out
  have hD:=HD.out
  have hK2:(W.setCell ⟨h+2,0,none⟩ (.bool false)).heap[D]? = some (.deferred (some [])):=(y5.set (q:=fun k=>k=h+2) W (o:=0) (.bool false) rfl).obj HK.out (by omega)
  have hv2:=y5.boxed (q:=fun k=>k=D) (y5.put _ (.deferred none) rfl) (HVV.out.set (.bool false)) (by omega)
  refine ⟨by simp,.inl ⟨_,_,rfl,run_takeDeferred hK2,?_⟩⟩
  refine ⟨_,zj2 rfl _ _ _ ⟨h+2,0,none⟩ _ rfl (wg1 hv2),?_,?_⟩
  ·rw [HE.out]
  ·rw [HH.out]
   refine (HB.out.setCell (p:=⟨h+2,0,none⟩) (by show h≤h+2;omega) (.bool false)).trans (belowK_b (w:=w) hwh _ D _ _ (by rw [HH.out];omega) hK2 rfl rfl)
 case stop =>
  rintro D W hD ⟨he,hv,hb⟩ hK
  have HE:=qh he;clear he
  have HVV:=qh hv;clear hv
  have HB:=qh hb;clear hb
  have HK:=qh hK;clear hK
  have HS3:=qh hs3;clear hs3
  have HD:=qh hD;clear hD
  gi_wp2
  have hs3:=HS3.out
  have hD:=HD.out
  have hv2:=y5.boxed (q:=fun k=>k=D) (y5.put _ (.deferred none) rfl) HVV.out (by omega)
  refine ⟨by simp,.inl ⟨_,_,rfl,run_takeDeferred HK.out,?_⟩⟩
  refine ⟨_,zj2 rfl _ _ _ ⟨h+2,0,none⟩ _ rfl (wg1 hv2),?_,?_⟩
  ·rw [HE.out]
  ·rw [HH.out]
   exact HB.out.trans (belowK_b (w:=w) hwh _ D _ _ (by rw [HH.out];omega) HK.out rfl rfl)
end
section
open Go.RowKit
theorem wr3 (k l:List Iv):ivC (k++l)=ivC k++ivC l:=by simp [ivC]
section
variable {ops:Array Oper} {rest:List Oper} {o:Oper} {a:Act} {Q:Exit→Act→World→Prop}
theorem xl4 (hgd:o.guard=none) (s x:Operand) (w0 w:World) (hB:Below w0.heap.size w0 w) (v0 v:Value) (k l:List Iv)
 (ho:o.op = .call { callee := .builtin .append,args:=#[s,x],argTypes:=#[42,42] })
 (hs:a.eval s=v0) (hx:a.eval x=v) (hown:r6 w w0.heap.size v0 k) (hv:u7 w v l) (hsv:z03 v) (hl:k.length+l.length≤10000)
 (h:∀ v' w',r6 w' w0.heap.size v' (k++l)→Below w0.heap.size w0 w'→wpList Tryz.prog ops Q rest (a.put o.dst v') w'):wpList Tryz.prog ops Q (o :: rest) a w:=by
 obtain ⟨i0,hi',hz0,hz1,hz2⟩:=info_parts zc5
 obtain ⟨p,cap,rfl,_⟩:=hv.shape
 cases p with
 | none =>
   obtain ⟨h1,h2⟩:=hsv.1 _ _ rfl
   obtain rfl:l = []:=List.eq_nil_of_length_eq_zero h1
   subst h2
   refine wpList_plain hgd fun _ hK => ?_
   have hr:=run_append_owned_none (P:=Tryz.prog) w w0.heap.size 42 o.type 65 i0 2 Tryz.underlying42 hi' v0 k.length (ivC k) hown
   unfold Oper.wp execOp
   simp only [ho,resolve,invoke,builtin,Sem.run_bind,Sem.run_pure,Result.andThen_ok,List.map_toArray,List.map_cons,List.map_nil,hs,hx,List.length_nil,hr]
   exact hK _ _ (h v0 w (by rw [List.append_nil];exact hown) hB)
 | some ad =>
   have hnews:∀ j u,(ivC l)[j]? = some u→w.cell? (ad.add j)=some u:=by
    intro j u hj
    have hne:l ≠ []:=by rintro rfl;simp [ivC] at hj
    obtain ⟨q,cp,e,_,h3⟩:=hv
    obtain ⟨b,of,e2,_⟩:=h3 hne
    cases e
    cases e2
    exact y76 (cap:=cap) (n:=l.length) ⟨_,_,rfl,by omega,h3⟩ j u hj
   refine wpList_append_own _ hgd s x 42 ho w0.heap.size 65 i0 (.agg #[.int .u64 0,.int .u64 0]) 2 16 Tryz.underlying42 hi' hz0 hz1 hz2 rfl (by decide) v0 k.length (ivC k) hs hown ad l.length cap (ivC l) hx (zd7 l) hnews (zu5 l) (by unfold maxLen;omega) (by omega) hB.size ?_
   intro v' w' hown' hgrow _
   refine h v' w' ?_ (t8 hB hown hgrow hB.size)
   unfold r6
   rw [List.length_append,wr3]
   exact hown'
end
def midI (F:u9):Prop:=F.length≤500∧(flatK F).length≤1000
theorem z90.midI {F:u9} (h:z90 F):midI F:=by
 have h1:=y60 (n:=20) F fun x hx=>(h.2 x hx).1
 have:=h.1
 exact ⟨by omega,by omega⟩
theorem zh2 {F:u9} {x:List Iv × x6} (h:x ∈ F):x.1.length≤(flatK F).length:=by
 obtain ⟨s,t,rfl⟩:=List.append_of_mem h
 simp [flatK];omega
theorem yu5:∀ (F:u9) (A:List Iv),v7 A→x7 F→(F.foldl (fun A x=>orL A x.1) A).length≤A.length+(flatK F).length
 | [],A,_,_=>by simp
 | x :: F,A,hA,h=>by
   have h1:=yu5 F (orL A x.1) (z10 hA (m9 h).1.1) (m9 h).2
   have h2:=zp7 hA (m9 h).1.1
   have e:flatK (x :: F)=x.1++flatK F:=by simp [flatK]
   rw [e,List.length_append,List.foldl_cons]
   omega
theorem xa8 {F:u9} (hF:x7 F):(z13 F).length≤(flatK F).length:=by
 have:=yu5 F [] z17 hF
 rw [List.length_nil,Nat.zero_add] at this
 exact this
set_option maxRecDepth 100000 in
set_option maxHeartbeats 4000000 in
theorem yk1 (F:u9) (v:Value) (w:World) (hv:g8 w v F) (hF:x7 F) (hs:midI F):Calls Tryz.prog 86 #[v] w (v65 (z13 F) w):=by
 obtain ⟨p,cap,rfl⟩:=hv.m.shape
 have hlen:=hs.1
 have hN:=xk8 hF
 have h64:o6 (flatK F):=fun y hy=>by
  obtain ⟨x,hx,hyx⟩:=ze1 hy
  exact (hF x hx).1.all y hyx
 have hok:∀ y ∈ flatK F,y.1≤y.2:=fun y hy=>by
  obtain ⟨x,hx,hyx⟩:=ze1 hy
  exact z06 x.1 (hF x hx).1.can y hyx
 have hfl:∀ k,(flatK (F.take k)).length≤1000:=fun k=>by
  have e:flatK F=flatK (F.take k)++flatK (F.drop k):=by unfold flatK;rw [← List.flatMap_append,List.take_append_drop]
  have h1:=hs.2
  rw [e,List.length_append] at h1
  omega
 have h20:∀ (i:Nat) x,F[i]? = some x→x.1.length≤1000:=fun i x hx=>Nat.le_trans (zh2 (List.mem_of_getElem? hx)) hs.2
 have hin:(z13 F).length≤1000:=Nat.le_trans (xa8 hF) hs.2
 have HV:=qh hv.m
 have KN:=qh (fun s W hi=>(hN ▸ w50 (flatK F) s W hi h64 hok:Calls Tryz.prog 140 #[s] W (wi1 (z13 F) W)))
 have HFL:=qh (And.intro hfl h20)
 have HIN:=qh hin
 clear hv hF hs hN h64 hok hfl h20 hin
 generalize z13 F=IL at *
 go_enter Tryz.func86,Tryz.ntmps86
 go_wp2_with fail
 go_loopw [3,10] (fun u i wr=>∃ k:Nat,i = .int .i64 k∧k≤F.length∧r6 wr w.heap.size u (flatK (F.take k))∧Below w.heap.size w wr) (fun _ i _=>F.length - (intOf i).toNat)
 case atStart=>exact ⟨0,rfl,Nat.zero_le _,r6.nil _ _,Below.refl _ _⟩
 case round =>
  obtain ⟨k,rfl,hk,hown,hb⟩:=hrel
  have HB:=qh hb;clear hb
  have HO:=qh hown
  obtain ⟨pu,cu,rfl,_⟩:=x8 hown
  clear hown
  by_cases hlt:k<F.length
  ·obtain ⟨⟨L,V⟩,hx⟩:∃ x,F[k]? = some x:=⟨F[k],by simp [hlt]⟩
   obtain ⟨b,o,cap',p1,c1,q1,d1,e,c0,c1',hf⟩:=(HV.out.call HB.out).elem hx
   cases e
   obtain ⟨wE,hwE⟩:∃ wE,wr.alloc (.cells #[.slice p1 L.length c1,.slice q1 V.length d1] 46)=wE:=⟨_,rfl⟩
   have hbE:Below wr.heap.size wr wE:=hwE ▸ z8 wr _
   have t0:wE.cell? ⟨wr.heap.size,0,none⟩=some (.slice p1 L.length c1):=by rw [← hwE];simp
   have HBE:=qh (z7 HB.out hbE)
   have HF:=qh (And.intro (hf.call hbE).at1 (hf.call hbE).sane)
   have HOE:=qh (HO.out.below hbE)
   have HSN:=qh (yj9 hx)
   have hl20:=HFL.out.2 k _ hx
   have hfk:=HFL.out.1 k
   dsimp only at hl20 HSN
   have i1:(0:Int)≤(k:Int):=by omega
   have i2:(k:Int)<(F.length:Int):=by omega
   clear hf hbE hx
   go_wp2_with (at_builtin;refine xl4 rfl _ _ w wE HBE.out _ _ (flatK (F.take k)) L rfl rfl rfl HOE.out HF.out.1 HF.out.2 (by omega) ?_;intro v' w' ho hb';obtain ⟨q',c',rfl,_⟩:=x8 ho;have HOO:=qh ho;have HBB:=qh hb';clear ho hb')
   go_roundw
   case rel=>exact ⟨k+1,by go_num,by omega,by rw [HSN.out];have h:=HOO.out;rw [List.length_append] at h;exact h,HBB.out⟩
   case measure=>simp [intOf];omega
  ·obtain rfl:k=F.length:=by omega
   have hfk:=HFL.out.1 F.length
   rw [List.take_of_length_le (Nat.le_refl _)] at HO hfk
   have K:=qh (KN.out _ wr (HO.out.ivs (by omega)))
   clear hfk
   go_wp2_with fail
   refine K.out.mono ?_
   rintro e w1 ⟨u,rfl,hu,h⟩
   have HU:=qh hu
   have H1:=qh h
   obtain ⟨pv,cv,rfl,_⟩:=x8 hu
   clear hu h
   go_wp2_with fail
   go_ret
   have hin:=HIN.out
   obtain ⟨k1,k2,k3⟩:=yh3 HU.out (by omega)
   exact ⟨_,rfl,k1,k2,k3.base HB.out.size,z7 HB.out H1.out⟩
end
end Go.Proofs.YtchndljcahjldaaGreatDoor
