/- Knowledge: what is known for an item, which items there are, in which fragments an item is. Plain mathematics; no conditions of its own. -/
import Derived.Test.YtchndljcahjldaaGreatDoorKLRef
namespace Go.Proofs.YtchndljcahjldaaGreatDoor
section
open Go.RowKit
def x7 (F:u9):Prop:=∀ x ∈ F,v7 x.1∧t6 x.2
def za5 (x:List Iv × x6):Int:=if o9 (z14 x.1)=0 then zc7 x.2 else o9 (z14 x.1)
def zr1 (F:u9):Option (Int × Nat):=(List.range F.length).findSome? fun i=>match F[i]? with
 | none=>none
 | some x=>if za5 x=0 then none else some (za5 x,i)
theorem y62 {F:u9} (h:∀ (j:Nat) x,F[j]? = some x→za5 x=0):zr1 F=none:=by
 unfold zr1
 rw [List.findSome?_eq_none_iff]
 intro i _
 cases hx:F[i]? with
 | none=>rfl
 | some x=>simp only;rw [if_pos (h i x hx)]
theorem y63 {F:u9} {k:Nat} {x:List Iv × x6} (hx:F[k]? = some x) (h:∀ (j:Nat) y,j<k→F[j]? = some y→za5 y=0) (hb:za5 x≠0):zr1 F=some (za5 x,k):=by
 unfold zr1
 have hk:=(List.getElem?_eq_some_iff.1 hx).1
 obtain ⟨d,hd⟩:∃ d,F.length=k+(d+1):=⟨F.length - k - 1,by omega⟩
 rw [hd,List.range_add,List.findSome?_append]
 have h1:(List.range k).findSome? (fun i=>match F[i]? with | none=>none | some x=>if za5 x=0 then none else some (za5 x,i))=none:=by
  rw [List.findSome?_eq_none_iff]
  intro i hi
  cases hy:F[i]? with
  | none=>rfl
  | some y=>simp only;rw [if_pos (h i y (by simpa using hi) hy)]
 rw [h1,List.range_succ_eq_map,List.map_cons,List.findSome?_cons]
 simp [hx,hb]
def zb6 (F:u9):Int:=match zr1 F with | some x=>x.1 | none=>0
def y64 (F:u9):Int:=match zr1 F with | some x=>(x.2:Int) | none => -1
def zh9 (F:u9):Bool:=decide (zb6 F=0)
theorem xl5 {F:u9} (h:zh9 F=true):∀ x ∈ F,za5 x=0:=by
 intro x hx
 by_cases h0:za5 x=0
 ·exact h0
 ·exfalso
  have hn:zr1 F≠none:=by
   intro e
   obtain ⟨i,hi⟩:=List.mem_iff_getElem?.1 hx
   unfold zr1 at e
   rw [List.findSome?_eq_none_iff] at e
   have:=e i (List.mem_range.2 (List.getElem?_eq_some_iff.1 hi).1)
   rw [hi] at this
   simp [h0] at this
  unfold zh9 zb6 at h
  cases hc:zr1 F with
  | none=>exact hn hc
  | some y =>
    rw [hc] at h
    have h:=of_decide_eq_true h
    unfold zr1 at hc
    obtain ⟨i,_,hi⟩:=List.exists_of_findSome?_eq_some hc
    cases hy:F[i]? with
    | none=>rw [hy] at hi;cases hi
    | some z =>
      rw [hy] at hi
      simp only at hi
      split at hi
      ·cases hi
      ·rename_i hz
       obtain rfl:=Option.some.inj hi
       exact hz h
theorem zr2 {F:u9} (h1:∀ x ∈ F,o6 x.1) (h2:∀ x ∈ F,∀ y ∈ x.2,o6 y.2.2∧0≤y.2.1∧y.2.1≤UM) (h:zh9 F=true):x7 F:=by
 intro x hx
 have he:=xl5 h x hx
 unfold za5 at he
 by_cases hc:o9 (z14 x.1)=0
 ·rw [if_pos hc] at he
  have hr:yk7 x.1=true:=by unfold yk7;exact decide_eq_true hc
  refine ⟨yz0 ((yk8 _).1 hr) (h1 x hx),yp3 (h2 x hx) ?_⟩
  unfold e8
  cases hv:z58 x.2 with
  | none=>rfl
  | some z =>
    exfalso
    unfold zc7 at he
    rw [hv] at he
    exact zy6 hv he
 ·rw [if_neg hc] at he
  exact absurd he hc
def m5 (F:u9) (t r c:Int):Bool:=F.any fun x=>y8 x.1 t && i7 x.2 r c
def zf3 (t:Int) (A:x6) (x:List Iv × x6):x6:=if y8 x.1 t then opV orL A x.2 else A
def atK (F:u9) (t:Int):x6:=F.foldl (zf3 t) []
def z13 (F:u9):List Iv:=F.foldl (fun A x=>orL A x.1) []
theorem m9 {x:List Iv × x6} {F:u9} (h:x7 (x :: F)):(v7 x.1∧t6 x.2)∧x7 F:=⟨h x (List.mem_cons_self ..),fun y hy=>h y (List.mem_cons_of_mem _ hy)⟩
theorem xl7 {F:u9} (h:x7 F) (k:Nat):x7 (F.take k):=fun x hx=>h x (List.mem_of_mem_take hx)
theorem zb7:∀ (F:u9) (A:List Iv),v7 A→x7 F→v7 (F.foldl (fun A x=>orL A x.1) A)
 | [],_,hA,_=>hA
 | x :: F,A,hA,h=>zb7 F (orL A x.1) (z10 hA (m9 h).1.1) (m9 h).2
theorem zm0 (t:Int):∀ (F:u9) (A:List Iv),v7 A→x7 F→y8 (F.foldl (fun A x=>orL A x.1) A) t=(y8 A t || F.any fun x=>y8 x.1 t)
 | [],_,_,_=>by simp
 | x :: F,A,hA,h=>by
   rw [List.foldl_cons,zm0 t F _ (z10 hA (m9 h).1.1) (m9 h).2,zl5 hA (m9 h).1.1,List.any_cons,Bool.or_assoc]
theorem ya1 {t:Int} {A:x6} {x:List Iv × x6} (hA:t6 A∧∀ y ∈ A,r7 y.2.1 y.2.2=true) (hx:t6 x.2):t6 (zf3 t A x)∧∀ y ∈ zf3 t A x,r7 y.2.1 y.2.2=true:=by
 unfold zf3
 split
 ·exact zj5 (fun _ _ h h'=>z10 h h') hA.1 hx
 ·exact hA
theorem zr3 {t:Int}:∀ (F:u9) (A:x6),(t6 A∧∀ y ∈ A,r7 y.2.1 y.2.2=true)→x7 F→t6 (F.foldl (zf3 t) A)∧∀ y ∈ F.foldl (zf3 t) A,r7 y.2.1 y.2.2=true
 | [],_,hA,_=>hA
 | x :: F,A,hA,h=>zr3 F (zf3 t A x) (ya1 hA (m9 h).1.2) (m9 h).2
theorem xt6 {t:Int} (r:Int) {c:Int} (hc:0≤c):∀ (F:u9) (A:x6),(t6 A∧∀ y ∈ A,r7 y.2.1 y.2.2=true)→x7 F→i7 (F.foldl (zf3 t) A) r c=(i7 A r c || m5 F t r c)
 | [],_,_,_=>by simp [m5]
 | x :: F,A,hA,h=>by
   rw [List.foldl_cons,xt6 r hc F (zf3 t A x) (ya1 hA (m9 h).1.2) (m9 h).2]
   have h1:i7 (zf3 t A x) r c=(i7 A r c || (y8 x.1 t && i7 x.2 r c)):=by
    unfold zf3
    cases hL:y8 x.1 t with
    | false=>simp
    | true =>
      have hx:=(m9 h).1.2
      rw [if_pos rfl,z49 (yd1 hA.1 hx) r hc,wd1 hA.1 hx,zl5 (o5 hA.1 r) (o5 hx r),← z49 hA.1 r hc,← z49 hx r hc]
      simp
   rw [h1]
   unfold m5
   rw [List.any_cons,Bool.or_assoc]
theorem z32:t6 []∧∀ y ∈ ([]:x6),r7 y.2.1 y.2.2=true:=⟨⟨fun x hx=>(by cases hx),List.Pairwise.nil⟩,fun y hy=>(by cases hy)⟩
theorem zr4 (r c:Int):i7 [] r c=false:=rfl
theorem zr5 {F:u9} (hF:x7 F) (t r:Int) {c:Int} (hc:0≤c):i7 (atK F t) r c=m5 F t r c:=by
 unfold atK
 rw [xt6 r hc F [] z32 hF,zr4,Bool.false_or]
end
section
open Go.RowKit
structure z89 (W:World) (f:Value × Value) (x:List Iv × x6):Prop where
 at1:u7 W f.1 x.1
 all:o6 x.1
 sane:z03 f.1
 vec:z23 W f.2 x.2
theorem z89.call {w w':World} {f:Value × Value} {x:List Iv × x6} (h:z89 w f x) (hb:Below w.heap.size w w'):z89 w' f x:=⟨h.at1.call hb,h.all,h.sane,h.vec.call hb⟩
structure zc4 (W:World) (v:Value) (F:u9):Prop where
 sh:∃ fs,zh1 W v fs∧fs.length=F.length∧∀ (i:Nat) (f:Value × Value) (x:List Iv × x6),fs[i]? = some f→F[i]? = some x→z89 W f x
 len:F.length≤100000
theorem zc4.call {w w':World} {v:Value} {F:u9} (h:zc4 w v F) (hb:Below w.heap.size w w'):zc4 w' v F:=by
 obtain ⟨⟨fs,h1,h2,h3⟩,h4⟩:=h
 exact ⟨⟨fs,h1.call hb,h2,fun i e x he hx=>(h3 i e x he hx).call hb⟩,h4⟩
theorem zc4.shape {w:World} {v:Value} {F:u9} (h:zc4 w v F):∃ p cap,v = .slice p F.length cap:=by
 obtain ⟨⟨fs,⟨p,cap,h1,_⟩,h2,_⟩,_⟩:=h
 exact ⟨p,cap,by rw [h1,h2]⟩
theorem zc4.elem {w:World} {v:Value} {F:u9} (h:zc4 w v F) {i:Nat} {L:List Iv} {V:x6} (hi:F[i]? = some (L,V)) :
 ∃ b o cap p c q d,v = .slice (some ⟨b,o,none⟩) F.length cap∧w.cell? ⟨b,o+i*2,none⟩=some (.slice p L.length c)∧w.cell? ⟨b,o+i*2+1,none⟩=some (.slice q V.length d)∧z89 w (.slice p L.length c,.slice q V.length d) (L,V):=by
 obtain ⟨⟨fs,⟨p,cap,h1,_,h5⟩,h2,h3⟩,h4⟩:=h
 have hlt:i<F.length:=(List.getElem?_eq_some_iff.1 hi).1
 have hlf:i<fs.length:=by omega
 obtain ⟨f,he⟩:∃ f,fs[i]? = some f:=⟨fs[i],by simp [hlf]⟩
 obtain ⟨b,o,rfl,h6⟩:=h5 (by intro e;rw [e] at h2;simp at h2;omega)
 obtain ⟨c0,c1⟩:=h6 i _ he
 have ha:=h3 i _ _ he hi
 obtain ⟨f1,f2⟩:=f
 obtain ⟨q,cq,hs,_⟩:=ha.at1.shape
 obtain ⟨q2,cq2,hs2⟩:=ha.vec.m.shape
 dsimp only at hs hs2 c0 c1
 subst hs hs2
 exact ⟨b,o,cap,q,cq,q2,cq2,by rw [h1,h2],c0,c1,ha⟩
def z90 (F:u9):Prop:=F.length≤12∧∀ x ∈ F,x.1.length≤20∧x.2.length≤20∧∀ y ∈ x.2,y.2.2.length≤30
theorem xb0 {w:World} {f:Value × Value} (h:zf2 30 w f):xk6 w f.2:=⟨h.sane2,h.vec⟩
theorem xl8 {w:World} {f:Value × Value} (h:zf2 30 w f):∃ p n c q m d,f=(.slice p n c,.slice q m d):=by
 obtain ⟨⟨q,m,d,e2⟩,_⟩:=(xb0 h).few
 obtain ⟨f1,f2⟩:=f
 rcases h.items with ⟨p,n,c,e1,_⟩ | ⟨l,_,_,hl⟩
 ·exact ⟨p,n,c,q,m,d,by rw [show f1=_ from e1,show f2=_ from e2]⟩
 ·obtain ⟨p,c,e1,_⟩:=hl.shape
  exact ⟨p,_,c,q,m,d,by rw [show f1=_ from e1,show f2=_ from e2]⟩
theorem wr4 {w:World} {v:Value} {fs:List (Value × Value)} (hk:zh1 w v fs) (hin:∀ f ∈ fs,zf2 30 w f) (B:Nat→Bool) (hB:∀ i f,fs[i]? = some f→B i=true→∃ V,z23 w f.2 V∧V.length≤20∧∀ x ∈ V,x.2.2.length≤30)
 (hlen:fs.length≤12) (h:∀ i f,fs[i]? = some f→zv2 f.1≤20∧B i=true):∃ F,zc4 w v F∧z90 F:=by
 have each:∀ i,i<fs.length→∃ x:List Iv × x6,∀ f,fs[i]? = some f→z89 w f x∧x.1.length≤20∧x.2.length≤20∧∀ y ∈ x.2,y.2.2.length≤30:=by
  intro i hi
  have he:fs[i]? = some fs[i]:=by simp [hi]
  have hm:=List.getElem_mem hi
  obtain ⟨h1,h2⟩:=h i _ he
  obtain ⟨V,hv,hl,hh⟩:=hB i _ he h2
  have hf:=hin _ hm
  rcases hf.items with ⟨q,n,cap,hq,hn⟩ | ⟨l,hl',h64,hat⟩
  ·rw [hq] at h1
   have h31:n≤20:=h1
   omega
  ·have hll:l.length≤20:=by
    obtain ⟨p,c,e,_⟩:=hat.shape
    rw [e] at h1
    exact h1
   refine ⟨(l,V),fun f he' => ?_⟩
   obtain rfl:=Option.some.inj (he.symm.trans he')
   exact ⟨⟨hat,h64,hf.sane1,hv⟩,hll,hl,hh⟩
 obtain ⟨q,hq⟩:=Go.Deep.choose_lt each
 refine ⟨(List.range fs.length).map q,⟨⟨fs,hk,by simp,fun i e x he hx => ?_⟩,by simp;omega⟩,by simpa using hlen,fun x hx => ?_⟩
 ·have hi:=(List.getElem?_eq_some_iff.1 he).1
  rw [List.getElem?_map,List.getElem?_range hi] at hx
  obtain rfl:=Option.some.inj hx
  exact (hq i hi e he).1
 ·obtain ⟨i,hi,rfl⟩:=List.mem_map.1 hx
  have hi:=List.mem_range.1 hi
  exact (hq i hi fs[i] (by simp [hi])).2
end
section
open Go.RowKit
def xt7 (fs:List (Value × Value)) (B:Nat→Bool) (i:Nat):Bool:=match fs[i]? with | some f=>decide (zv2 f.1≤20) && B i | none=>true
theorem xb1 {fs:List (Value × Value)} {B:Nat→Bool} {i:Nat} {f:Value × Value} (h:fs[i]? = some f):xt7 fs B i=true↔zv2 f.1≤20∧B i=true:=by unfold xt7;rw [h];simp
def xb2 (fs:List (Value × Value)) (B:Nat→Bool):Bool:=(List.range fs.length).all (xt7 fs B) && decide (fs.length≤12)
theorem xl9 {fs:List (Value × Value)} {B:Nat→Bool} (h:xb2 fs B=true):fs.length≤12∧∀ i f,fs[i]? = some f→zv2 f.1≤20∧B i=true:=by
 unfold xb2 at h
 rw [Bool.and_eq_true,List.all_eq_true,decide_eq_true_eq] at h
 exact ⟨h.2,fun i f hf=>(xb1 hf).1 (h.1 i (List.mem_range.2 (List.getElem?_eq_some_iff.1 hf).1))⟩
set_option maxRecDepth 100000 in
set_option maxHeartbeats 2000000 in
theorem w33 (v:Value) (fs:List (Value × Value)) (w:World) (hv:zh1 w v fs) (hin:∀ f ∈ fs,zf2 30 w f) (B:Nat→Bool) (hB:∀ i f,fs[i]? = some f→∀ W,Below w.heap.size w W→Calls Tryz.prog 31 #[f.2] W (t7 (B i) W)) :
 Calls Tryz.prog 9 #[v] w (t7 (xb2 fs B) w):=by
 obtain ⟨p,cap,rfl,hlen,hc⟩:=hv
 have HC:=qh hc;clear hc
 have HIN:=qh hin;clear hin
 have HBB:=qh hB;clear hB
 have hml:fs.length≤9223372036854775807:=by unfold maxLen at hlen;omega
 obtain ⟨good,hg⟩:∃ g:Nat→Bool,xt7 fs B=g:=⟨_,rfl⟩
 have hgt:∀ i f,fs[i]? = some f→(good i=true↔zv2 f.1≤20∧B i=true):=fun i f hf=>by rw [← hg];exact xb1 hf
 unfold xb2
 rw [hg]
 clear hg
 have HGT:=qh hgt;clear hgt
 go_enter Tryz.func9,Tryz.ntmps9
 go_wp2_with fail
 go_loopw [3] (fun i wr=>∃ k:Nat,i = .int .i64 k∧k≤fs.length∧(∀ j,j<k→good j=true)∧Below w.heap.size w wr) (fun i _=>fs.length - (intOf i).toNat)
 case atStart=>exact ⟨0,rfl,Nat.zero_le _,fun j hj=>absurd hj (Nat.not_lt_zero j),Below.refl _ _⟩
 case round =>
  obtain ⟨k,rfl,hk,hbef,hb⟩:=hrel
  have HBF:=qh hbef;clear hbef
  have HB:=qh hb;clear hb
  by_cases hlt:k<fs.length
  ·obtain ⟨f,he⟩:∃ f,fs[k]? = some f:=⟨fs[k],by simp [hlt]⟩
   obtain ⟨b,o,rfl,h6⟩:=HC.out (by intro e;rw [e] at hlt;simp at hlt)
   obtain ⟨c0,c1⟩:=h6 k _ he
   obtain ⟨q,n,c,q2,n2,c2,rfl⟩:=xl8 (HIN.out f (List.mem_of_getElem? he))
   replace c0:=z6 c0 HB.out
   replace c1:=z6 c1 HB.out
   dsimp only at c0 c1
   have K:=qh (HBB.out k _ he wr HB.out)
   have HGK:=qh (HGT.out k _ he)
   have hlk:k<fs.length:=hlt
   have HLK:=qh hlk;clear hlk he h6
   have i1:(0:Int)≤(k:Int):=by omega
   have i2:(k:Int)<(fs.length:Int):=by omega
   have bad:good k=false→((List.range fs.length).all good && decide (fs.length≤12))=false:=fun h=>by
    rw [Bool.and_eq_false_iff,List.all_eq_false]
    exact .inl ⟨k,List.mem_range.2 HLK.out,by rw [h];simp⟩
   have HBAD:=qh bad;clear bad
   by_cases hn:20<n
   ·have e1:decide ((20:Int)<(n:Int))=true:=by simp;omega
    have HZ:=qh (HBAD.out (by
     cases h:good k with
     | false=>rfl
     | true =>
       have h1:n≤20:=(HGK.out.1 h).1
       omega))
    clear hn
    go_wp2_with fail
    go_ret
    exact ⟨by rw [HZ.out];rfl,HB.out⟩
   ·have e1:decide ((20:Int)<(n:Int))=false:=by simp;omega
    have hn20:zv2 (Value.slice q n c)≤20:=by show n≤20;omega
    cases hbk:B k with
    | false =>
      have HZ:=qh (HBAD.out (by
       cases h:good k with
       | false=>rfl
       | true=>have h1:=(HGK.out.1 h).2;rw [hbk] at h1;cases h1))
      rw [hbk] at K
      clear hbk hn hn20
      go_wp2_with fail
      refine K.out.mono ?_
      rintro e w1 ⟨rfl,h⟩
      have H1:=qh (z7 HB.out h);clear h
      go_wp2_with fail
      go_ret
      exact ⟨by rw [HZ.out];rfl,H1.out⟩
    | true =>
      have HZ:=qh (HGK.out.2 ⟨hn20,hbk⟩)
      rw [hbk] at K
      clear hbk hn hn20
      go_wp2_with fail
      refine K.out.mono ?_
      rintro e w1 ⟨rfl,h⟩
      have H1:=qh (z7 HB.out h);clear h
      go_wp2_with fail
      go_roundw
      case rel=>exact ⟨k+1,by go_num,by omega,fun j hj=>by
       rcases Nat.lt_or_eq_of_le (Nat.le_of_lt_succ hj) with h | h
       ·exact HBF.out j h
       ·subst h;exact HZ.out,H1.out⟩
      case measure=>simp [intOf];omega
  ·obtain rfl:k=fs.length:=by omega
   have hall:(List.range fs.length).all good=true:=List.all_eq_true.2 fun i hi=>HBF.out i (List.mem_range.1 hi)
   have HZ:=qh (show ((List.range fs.length).all good && decide (fs.length≤12))=decide ((fs.length:Int)≤12) by rw [hall,Bool.true_and,Bool.eq_iff_iff,decide_eq_true_eq,decide_eq_true_eq];omega);clear hall
   go_wp2_with fail
   go_ret
   exact ⟨by rw [HZ.out];rfl,HB.out⟩
set_option maxRecDepth 100000 in
set_option maxHeartbeats 4000000 in
theorem zr6 (F:u9) (v:Value) (w:World) (hv:zc4 w v F):Calls Tryz.prog 36 #[v] w (yk6 (zb6 F) (y64 F) w):=by
 obtain ⟨p,cap,rfl⟩:=hv.shape
 have hlen:=hv.len
 have HV:=qh hv;clear hv
 have KL:=qh y22
 have KV:=qh zw3
 go_enter Tryz.func36,Tryz.ntmps36
 go_wp2_with fail
 go_loopw [4] (fun i wr=>∃ k:Nat,i = .int .i64 k∧k≤F.length∧(∀ (j:Nat) y,j<k→F[j]? = some y→za5 y=0)∧Below w.heap.size w wr) (fun i _=>F.length - (intOf i).toNat)
 case atStart=>exact ⟨0,rfl,Nat.zero_le _,fun j y hj=>absurd hj (Nat.not_lt_zero j),Below.refl _ _⟩
 case round =>
  obtain ⟨k,rfl,hk,hbef,hb⟩:=hrel
  have HBF:=qh hbef;clear hbef
  have HB:=qh hb;clear hb
  by_cases hlt:k<F.length
  ·obtain ⟨⟨L,V⟩,hx⟩:∃ x,F[k]? = some x:=⟨F[k],by simp [hlt]⟩
   obtain ⟨b,o,cap',q,c,q2,c2,e,c0,c1,ha⟩:=(HV.out.call HB.out).elem hx
   cases e
   have K:=qh (KL.out L (.slice q L.length c) wr ha.at1 ha.all)
   have HA:=qh ha.vec.m;clear ha
   have HX:=qh hx
   have i1:(0:Int)≤(k:Int):=by omega
   have i2:(k:Int)<(F.length:Int):=by omega
   have herr:za5 (L,V)=if o9 (z14 L)=0 then zc7 V else o9 (z14 L):=rfl
   obtain ⟨cl,hcl⟩:∃ cl,o9 (z14 L)=cl:=⟨_,rfl⟩
   rw [hcl] at K herr
   obtain ⟨al,hal⟩:∃ al,(atE (z14 L)).getD (-1)=al:=⟨_,rfl⟩
   rw [hal] at K
   have KW:=qh (fun W h=>KV.out V (.slice q2 V.length c2) W h)
   obtain ⟨cv,hcv⟩:∃ cv,zc7 V=cv:=⟨_,rfl⟩
   rw [hcv] at KW herr
   generalize vAt V=av at *
   clear hcl hal hcv hx
   by_cases hz:cl=0
   ·subst hz
    rw [if_pos rfl] at herr
    by_cases hz2:cv=0
    ·subst hz2
     have HE:=qh herr;clear herr
     go_wp2_with fail
     refine K.out.mono ?_
     rintro e w1 ⟨rfl,h⟩
     replace c1:=z6 c1 h
     have HA1:=qh (HA.out.call h)
     have H1:=qh (z7 HB.out h);clear h
     go_wp2_with fail
     refine (KW.out _ HA1.out).mono ?_
     rintro e w2 ⟨rfl,h⟩
     have H2:=qh (z7 H1.out h);clear h
     go_wp2_with fail
     go_roundw
     case rel=>exact ⟨k+1,by go_num,by omega,fun j y hj hy=>by
      rcases Nat.lt_or_eq_of_le (Nat.le_of_lt_succ hj) with h | h
      ·exact HBF.out j y h hy
      ·subst h
       obtain rfl:=Option.some.inj (HX.out.symm.trans hy)
       exact HE.out,H2.out⟩
     case measure=>simp [intOf];omega
    ·have e2:(cv != 0)=true:=bne_iff_ne.2 hz2
     have hc:=y63 HX.out HBF.out (by rw [herr];exact hz2)
     rw [herr] at hc
     have HZ:=qh (And.intro (show zb6 F=cv by unfold zb6;rw [hc]) (show y64 F=(k:Int) by unfold y64;rw [hc]));clear hc herr
     clear hz2
     go_wp2_with fail
     refine K.out.mono ?_
     rintro e w1 ⟨rfl,h⟩
     replace c1:=z6 c1 h
     have HA1:=qh (HA.out.call h)
     have H1:=qh (z7 HB.out h);clear h
     go_wp2_with fail
     refine (KW.out _ HA1.out).mono ?_
     rintro e w2 ⟨rfl,h⟩
     have H2:=qh (z7 H1.out h);clear h
     go_wp2_with fail
     go_ret2
     exact ⟨by rw [HZ.out.1,HZ.out.2];rfl,H2.out⟩
   ·have e1:(cl == 0)=false:=by simpa using hz
    have e2:(cl != 0)=true:=bne_iff_ne.2 hz
    rw [if_neg hz] at herr
    have hc:=y63 HX.out HBF.out (by rw [herr];exact hz)
    rw [herr] at hc
    have HZ:=qh (And.intro (show zb6 F=cl by unfold zb6;rw [hc]) (show y64 F=(k:Int) by unfold y64;rw [hc]));clear hc herr
    clear hz
    go_wp2_with fail
    refine K.out.mono ?_
    rintro e w1 ⟨rfl,h⟩
    have H1:=qh (z7 HB.out h);clear h
    go_wp2_with fail
    go_ret2
    exact ⟨by rw [HZ.out.1,HZ.out.2];rfl,H1.out⟩
  ·obtain rfl:k=F.length:=by omega
   have hc:=y62 (F:=F) fun j y hy=>HBF.out j y (List.getElem?_eq_some_iff.1 hy).1 hy
   have HZ:=qh (And.intro (show zb6 F=0 by unfold zb6;rw [hc]) (show y64 F = -1 by unfold y64;rw [hc]));clear hc
   go_wp2_with fail
   go_ret2
   exact ⟨by rw [HZ.out.1,HZ.out.2];rfl,HB.out⟩
set_option maxRecDepth 100000 in
theorem yk3 (F:u9) (v:Value) (w:World) (hv:zc4 w v F):Calls Tryz.prog 40 #[v] w (t7 (zh9 F) w):=by
 obtain ⟨p,cap,rfl⟩:=hv.shape
 have K:=qh (zr6 F _ w hv);clear hv
 have HZ:Hid (zh9 F=(zb6 F == 0)):=qh (by unfold zh9;rw [Bool.eq_iff_iff,decide_eq_true_eq,beq_iff_eq])
 generalize zh9 F=r at *
 generalize zb6 F=a at *
 generalize y64 F=b at *
 go_enter Tryz.func40,Tryz.ntmps40
 go_wp2_with fail
 refine K.out.mono ?_
 rintro e w1 ⟨rfl,h⟩
 have H1:=qh h;clear h
 go_wp2_with fail
 go_ret
 exact ⟨by rw [HZ.out];rfl,H1.out⟩
theorem w34 {F:u9} {k:Nat} {x:List Iv × x6} (t r c:Int) (h:F[k]? = some x):m5 (F.take (k+1)) t r c=(m5 (F.take k) t r c || (y8 x.1 t && i7 x.2 r c)):=by
 unfold m5
 rw [List.take_add_one,h]
 simp
theorem w35 {F:u9} {k:Nat} {x:List Iv × x6} {t r c:Int} (h:F[k]? = some x) (h1:y8 x.1 t=true) (h2:i7 x.2 r c=true):m5 F t r c=true:=by
 unfold m5
 rw [List.any_eq_true]
 exact ⟨x,List.mem_of_getElem? h,by rw [h1,h2];rfl⟩
set_option maxRecDepth 100000 in
set_option maxHeartbeats 2000000 in
theorem x01 (F:u9) (v:Value) (t r c:Int) (w:World) (hv:zc4 w v F):Calls Tryz.prog 22 #[v,.int .u64 t,.int .u64 r,.int .u64 c] w (t7 (m5 F t r c) w):=by
 obtain ⟨p,cap,rfl⟩:=hv.shape
 have hlen:=hv.len
 have HV:=qh hv;clear hv
 have KL:=qh zh3
 have KV:=qh xa5
 go_enter Tryz.func22,Tryz.ntmps22
 go_wp2_with fail
 go_loopw [9] (fun i wr=>∃ k:Nat,i = .int .i64 k∧k≤F.length∧m5 (F.take k) t r c=false∧Below w.heap.size w wr) (fun i _=>F.length - (intOf i).toNat)
 case atStart=>exact ⟨0,rfl,Nat.zero_le _,by simp [m5],Below.refl _ _⟩
 case round =>
  obtain ⟨k,rfl,hk,hbef,hb⟩:=hrel
  have HBF:=qh hbef;clear hbef
  have HB:=qh hb;clear hb
  by_cases hlt:k<F.length
  ·obtain ⟨⟨L,V⟩,hx⟩:∃ x,F[k]? = some x:=⟨F[k],by simp [hlt]⟩
   obtain ⟨b,o,cap',q,cc,q2,c2,e,c0,c1,ha⟩:=(HV.out.call HB.out).elem hx
   cases e
   have K:=qh (KL.out L (.slice q L.length cc) t wr ha.at1)
   have HA:=qh ha.vec.m;clear ha
   have KW:=qh (fun W h=>KV.out V (.slice q2 V.length c2) r c W h)
   have i1:(0:Int)≤(k:Int):=by omega
   have i2:(k:Int)<(F.length:Int):=by omega
   have hst:=w34 t r c hx
   rw [HBF.out,Bool.false_or] at hst
   cases hL:y8 L t with
   | false =>
     rw [hL] at K
     have HS:=qh (hst.trans (by rw [hL];try rfl));clear hst hL hx
     go_wp2_with fail
     refine K.out.mono ?_
     rintro e w1 ⟨rfl,h⟩
     have H1:=qh (z7 HB.out h);clear h
     go_wp2_with fail
     go_roundw
     case rel=>exact ⟨k+1,by go_num,by omega,HS.out,H1.out⟩
     case measure=>simp [intOf];omega
   | true =>
     rw [hL] at K
     cases hV:i7 V r c with
     | false =>
       rw [hV] at KW
       have HS:=qh (hst.trans (by rw [hL,hV];try rfl));clear hst hL hV hx
       go_wp2_with fail
       refine K.out.mono ?_
       rintro e w1 ⟨rfl,h⟩
       replace c1:=z6 c1 h
       have HA1:=qh (HA.out.call h)
       have H1:=qh (z7 HB.out h);clear h
       go_wp2_with fail
       refine (KW.out _ HA1.out).mono ?_
       rintro e w2 ⟨rfl,h⟩
       have H2:=qh (z7 H1.out h);clear h
       go_wp2_with fail
       go_roundw
       case rel=>exact ⟨k+1,by go_num,by omega,HS.out,H2.out⟩
       case measure=>simp [intOf];omega
     | true =>
       rw [hV] at KW
       have HS:=qh (w35 hx hL hV);clear hst hL hV hx
       go_wp2_with fail
       refine K.out.mono ?_
       rintro e w1 ⟨rfl,h⟩
       replace c1:=z6 c1 h
       have HA1:=qh (HA.out.call h)
       have H1:=qh (z7 HB.out h);clear h
       go_wp2_with fail
       refine (KW.out _ HA1.out).mono ?_
       rintro e w2 ⟨rfl,h⟩
       have H2:=qh (z7 H1.out h);clear h
       go_wp2_with fail
       go_ret
       exact ⟨by rw [HS.out];rfl,H2.out⟩
  ·obtain rfl:k=F.length:=by omega
   have h0:=HBF.out
   rw [List.take_of_length_le (Nat.le_refl _)] at h0
   have HZ:=qh h0;clear h0
   go_wp2_with fail
   go_ret
   exact ⟨by rw [HZ.out];rfl,HB.out⟩
end
section
open Go.RowKit
def ixC (l:List Int):List Value:=l.map (Value.int .i64)
def yu6 (W:World) (B:Nat) (v:Value) (L:List Int):Prop:=W.ownsRow B 3 1 v L.length (ixC L)
theorem yu6.below {W W':World} {B:Nat} {v:Value} {L:List Int} (h:yu6 W B v L) (hb:Below W.heap.size W W'):yu6 W' B v L:=y7 h hb
theorem yu6.nil (W:World) (B:Nat):yu6 W B (.slice none 0 0) []:=World.ownsRow_nil _ _ _ _
theorem wg7:(Tryz.prog.info? 3).map (fun i=>(i.zero,i.size,i.bytes))=some (some (.int .i64 0),1,8):=by kernel_rfl
def yp7 (w:World) (v:Value) (L:List Int):Prop:=
 ∃ p cap,v = .slice p L.length cap∧L.length≤maxLen∧(L ≠ []→∃ b o,p=some ⟨b,o,none⟩∧∀ (i:Nat) (x:Int),L[i]? = some x→w.cell? ⟨b,o+i,none⟩=some (.int .i64 x))
theorem yp7.call {w w':World} {v:Value} {L:List Int} (h:yp7 w v L) (hb:Below w.heap.size w w'):yp7 w' v L:=by
 obtain ⟨p,cap,h1,h2,h3⟩:=h
 refine ⟨p,cap,h1,h2,fun hne => ?_⟩
 obtain ⟨b,o,h5,h6⟩:=h3 hne
 exact ⟨b,o,h5,fun i x hi=>z6 (h6 i x hi) hb⟩
theorem v01 {w:World} {B:Nat} {v:Value} {L:List Int} (h:yu6 w B v L):yp7 w v L:=by
 have hrow:w.ownsRow B 3 1 v L.length (ixC L):=h
 have h3:=hrow
 rcases hrow.2 with ⟨rfl,h0⟩ | ⟨g,cap,cur,rfl,hbg,hg,hnc,hcm,_⟩
 ·exact ⟨none,0,by rw [h0],by omega,fun e=>absurd (List.eq_nil_of_length_eq_zero h0) e⟩
 ·exact ⟨_,cap,rfl,Nat.le_trans hnc hcm,fun _=>⟨g,0,rfl,fun i x hx=>by
   rw [Nat.zero_add,h3.cellAt i (by have:=(List.getElem?_eq_some_iff.1 hx).1;omega)]
   unfold ixC;rw [List.getElem?_map,hx];rfl⟩⟩
end
section
open Go.RowKit
structure xb3 (W:World) (f:Value × Value) (x:List Iv × x6):Prop where
 at1:u7 W f.1 x.1
 vec:zl9 W f.2 x.2
theorem xb3.call {w w':World} {f:Value × Value} {x:List Iv × x6} (h:xb3 w f x) (hb:Below w.heap.size w w'):xb3 w' f x:=⟨h.at1.call hb,h.vec.call hb⟩
structure zv4 (W:World) (v:Value) (F:u9):Prop where
 sh:∃ fs,zh1 W v fs∧fs.length=F.length∧∀ (i:Nat) (f:Value × Value) (x:List Iv × x6),fs[i]? = some f→F[i]? = some x→xb3 W f x
 len:F.length≤100000
theorem zc4.i {w:World} {v:Value} {F:u9} (h:zc4 w v F):zv4 w v F:=by
 obtain ⟨⟨fs,h1,h2,h3⟩,h4⟩:=h
 exact ⟨⟨fs,h1,h2,fun i f x hf hx=>⟨(h3 i f x hf hx).at1,(h3 i f x hf hx).vec.m.i⟩⟩,h4⟩
theorem zv4.call {w w':World} {v:Value} {F:u9} (h:zv4 w v F) (hb:Below w.heap.size w w'):zv4 w' v F:=by
 obtain ⟨⟨fs,h1,h2,h3⟩,h4⟩:=h
 exact ⟨⟨fs,h1.call hb,h2,fun i e x he hx=>(h3 i e x he hx).call hb⟩,h4⟩
theorem zv4.shape {w:World} {v:Value} {F:u9} (h:zv4 w v F):∃ p cap,v = .slice p F.length cap:=by
 obtain ⟨⟨fs,⟨p,cap,h1,_⟩,h2,_⟩,_⟩:=h
 exact ⟨p,cap,by rw [h1,h2]⟩
theorem zv4.elem {w:World} {v:Value} {F:u9} (h:zv4 w v F) {i:Nat} {L:List Iv} {V:x6} (hi:F[i]? = some (L,V)) :
 ∃ b o cap p c q d,v = .slice (some ⟨b,o,none⟩) F.length cap∧w.cell? ⟨b,o+i*2,none⟩=some (.slice p L.length c)∧w.cell? ⟨b,o+i*2+1,none⟩=some (.slice q V.length d)∧xb3 w (.slice p L.length c,.slice q V.length d) (L,V):=by
 obtain ⟨⟨fs,⟨p,cap,h1,_,h5⟩,h2,h3⟩,h4⟩:=h
 have hlt:i<F.length:=(List.getElem?_eq_some_iff.1 hi).1
 have hlf:i<fs.length:=by omega
 obtain ⟨f,he⟩:∃ f,fs[i]? = some f:=⟨fs[i],by simp [hlf]⟩
 obtain ⟨b,o,rfl,h6⟩:=h5 (by intro e;rw [e] at h2;simp at h2;omega)
 obtain ⟨c0,c1⟩:=h6 i _ he
 have ha:=h3 i _ _ he hi
 obtain ⟨f1,f2⟩:=f
 obtain ⟨q,cq,hs,_⟩:=ha.at1.shape
 obtain ⟨q2,cq2,hs2⟩:=ha.vec.shape
 dsimp only at hs hs2 c0 c1
 subst hs hs2
 exact ⟨b,o,cap,q,cq,q2,cq2,by rw [h1,h2],c0,c1,ha⟩
theorem yd8 {W w1 w2:World} {p0 p1 p2 p3:Addr} {a0 a1 a2 a3:Value} (h:Below W.heap.size W w1∧w1.cell? p0=some a0∧w1.cell? p1=some a1∧w1.cell? p2=some a2∧w1.cell? p3=some a3) (hb:Below w1.heap.size w1 w2):Below W.heap.size W w2∧w2.cell? p0=some a0∧w2.cell? p1=some a1∧w2.cell? p2=some a2∧w2.cell? p3=some a3:=
 ⟨z7 h.1 hb,z6 h.2.1 hb,z6 h.2.2.1 hb,z6 h.2.2.2.1 hb,z6 h.2.2.2.2 hb⟩
theorem zj6 {W w1:World} {p0 p1 p2 p3:Addr} {a0 a1 a2 a3:Value} (h:Below W.heap.size W w1∧w1.cell? p0=some a0∧w1.cell? p1=some a1∧w1.cell? p2=some a2∧w1.cell? p3=some a3):Below W.heap.size W w1:=h.1
theorem w36 {α:Type} {A B:List α} (hl:A.length=B.length) (h:∀ j,j<A.length→A[j]? = B[j]?):A=B:=by
 refine List.ext_getElem? fun i => ?_
 by_cases hi:i<A.length
 ·exact h i hi
 ·rw [List.getElem?_eq_none (by omega),List.getElem?_eq_none (by omega)]
set_option maxRecDepth 100000 in
set_option maxHeartbeats 8000000 in
theorem ya2 (F F':u9) (v v':Value) (w:World) (hv:zv4 w v F) (hv':zv4 w v' F'):Calls Tryz.prog 18 #[v,v'] w (t7 (decide (F=F')) w):=by
 obtain ⟨p,cap,rfl⟩:=hv.shape
 obtain ⟨p',cap',rfl⟩:=hv'.shape
 have hlen:=hv.len
 have hlen':=hv'.len
 by_cases hl:F.length=F'.length
 ·have HV:=qh hv;clear hv
  have HV':=qh hv';clear hv'
  have KS:=qh ya3
  have KT:=qh yz6
  obtain ⟨n9,hn9⟩:∃ n9,F.length=n9:=⟨_,rfl⟩
  rw [← hl,hn9]
  have HL:=qh hl;have HN:=qh hn9
  rw [hn9] at hlen
  clear hl hn9 hlen'
  go_enter Tryz.func18,Tryz.ntmps18
  go_wp2_with fail
  go_loopw [5] (fun i wr=>∃ k:Nat,i = .int .i64 k∧k≤n9∧(∀ j,j<k→F[j]? = F'[j]?)∧Below w.heap.size w wr) (fun i _=>n9 - (intOf i).toNat)
  case atStart=>exact ⟨0,rfl,Nat.zero_le _,fun j hj=>absurd hj (Nat.not_lt_zero j),Below.refl _ _⟩
  case round =>
   obtain ⟨k,rfl,hk,hbef,hb⟩:=hrel
   have HBF:=qh hbef;clear hbef
   have HB:=qh hb;clear hb
   by_cases hlt:k<n9
   ·obtain ⟨⟨L,V⟩,hx⟩:∃ x,F[k]? = some x:=⟨F[k]'(by rw [HN.out];exact hlt),by simp⟩
    obtain ⟨⟨L',V'⟩,hx'⟩:∃ x,F'[k]? = some x:=⟨F'[k]'(by rw [← HL.out,HN.out];exact hlt),by simp⟩
    obtain ⟨b,o,cp,q,c,q2,c2,e,c0,c1,ha⟩:=(HV.out.call HB.out).elem hx
    obtain ⟨b',o',cp',q',c',q2',c2',e',d0,d1,ha'⟩:=(HV'.out.call HB.out).elem hx'
    rw [HN.out] at e
    rw [← HL.out,HN.out] at e'
    cases e;cases e'
    have HX:=qh (And.intro hx hx');clear hx hx'
    have HA:=qh (And.intro ha.at1 (And.intro ha'.at1 (And.intro ha.vec ha'.vec)));clear ha ha'
    have HS:=qh (yd8 ⟨Below.refl wr.heap.size wr,c0,c1,d0,d1⟩ (Below.refl _ _).drew)
    have i1:(0:Int)≤(k:Int):=by omega
    have i2:(k:Int)<(n9:Int):=by omega
    by_cases hLL:L=L'
    ·have K4:=qh (fun W h h'=>(decide_eq_true hLL ▸ KS.out L L' (.slice q L.length c) (.slice q' L'.length c') W h h':Calls Tryz.prog 26 #[.slice q L.length c,.slice q' L'.length c'] W (t7 true W)))
     obtain ⟨bb,hbb⟩:∃ bb,decide (V=V')=bb:=⟨_,rfl⟩
     have K9:=qh (fun W h h'=>(hbb ▸ KT.out V V' (.slice q2 V.length c2) (.slice q2' V'.length c2') W h h':Calls Tryz.prog 45 #[.slice q2 V.length c2,.slice q2' V'.length c2'] W (t7 bb W)))
     have HBB:=qh (And.intro hLL hbb);clear hbb hLL
     clear c0 c1 d0 d1
     go_wp2_with fail
     refine wp_region_held_drew (S:=(fun w':World=>Below wr.heap.size wr w'∧w'.cell? ⟨b,o+k*2,none⟩=some (.slice q L.length c)∧w'.cell? ⟨b,o+k*2+1,none⟩=some (.slice q2 V.length c2)∧w'.cell? ⟨b',o'+k*2,none⟩=some (.slice q' L'.length c')∧w'.cell? ⟨b',o'+k*2+1,none⟩=some (.slice q2' V'.length c2'))) (by kernel_rfl) (HS.out) (fun hHeld => ?_)
     refine rt (i:=0) (v := ?_) ⟨some 17,.move (.tmp 0),23,_,_,none⟩ hHeld ?_ ?_
     rotate_left
     ·intro wS hSw;(try dsimp only at hSw);go_simp <;> with_reducible rfl
     try simp only [Act.put,c9,b5,b6]
     refine rt (i:=1) (v := ?_) ⟨some 18,.move (.tmp 5),3,_,_,none⟩ hHeld ?_ ?_
     rotate_left
     ·intro wS hSw;(try dsimp only at hSw);go_simp <;> with_reducible rfl
     try simp only [Act.put,c9,b5,b6]
     refine rt (i:=2) (v := ?_) ⟨some 19,.indexAddr 23 (.tmp 17) (.tmp 18),0,_,_,none⟩ hHeld ?_ ?_
     rotate_left
     ·intro wS hSw;(try dsimp only at hSw);go_simp <;> with_reducible rfl
     try simp only [Act.put,c9,b5,b6]
     refine rt (i:=3) (v := ?_) ⟨some 20,.fieldAddr 46 (.tmp 19) 0,0,_,_,none⟩ hHeld ?_ ?_
     rotate_left
     ·intro wS hSw;(try dsimp only at hSw);go_simp <;> with_reducible rfl
     try simp only [Act.put,c9,b5,b6]
     refine rt (i:=4) (v := ?_) ⟨some 21,.load 42 (.tmp 20),42,_,_,none⟩ hHeld ?_ ?_
     rotate_left
     ·intro wS hSw;(try dsimp only at hSw);go_simp <;> with_reducible rfl
     try simp only [Act.put,c9,b5,b6]
     refine rt (i:=5) (v := ?_) ⟨some 22,.move (.tmp 1),23,_,_,none⟩ hHeld ?_ ?_
     rotate_left
     ·intro wS hSw;(try dsimp only at hSw);go_simp <;> with_reducible rfl
     try simp only [Act.put,c9,b5,b6]
     refine rt (i:=6) (v := ?_) ⟨some 23,.move (.tmp 5),3,_,_,none⟩ hHeld ?_ ?_
     rotate_left
     ·intro wS hSw;(try dsimp only at hSw);go_simp <;> with_reducible rfl
     try simp only [Act.put,c9,b5,b6]
     refine rt (i:=7) (v := ?_) ⟨some 24,.indexAddr 23 (.tmp 22) (.tmp 23),0,_,_,none⟩ hHeld ?_ ?_
     rotate_left
     ·intro wS hSw;(try dsimp only at hSw);go_simp <;> with_reducible rfl
     try simp only [Act.put,c9,b5,b6]
     refine rt (i:=8) (v := ?_) ⟨some 25,.fieldAddr 46 (.tmp 24) 0,0,_,_,none⟩ hHeld ?_ ?_
     rotate_left
     ·intro wS hSw;(try dsimp only at hSw);go_simp <;> with_reducible rfl
     try simp only [Act.put,c9,b5,b6]
     refine rt (i:=9) (v := ?_) ⟨some 26,.load 42 (.tmp 25),42,_,_,none⟩ hHeld ?_ ?_
     rotate_left
     ·intro wS hSw;(try dsimp only at hSw);go_simp <;> with_reducible rfl
     try simp only [Act.put,c9,b5,b6]
     refine wpAnyH_ready (rs := [10]) (by kernel_rfl) (by simp) (AllReadyH.cons (o:=⟨some 27,.call { callee := .value (.func 26),args:=#[.tmp 21,.tmp 26],argTypes:=#[42,42] },4,_,_,none⟩) rfl (fun K hK => ?_) AllReadyH.nil)
     go_simp
     refine (K4.out _ (HA.out.1.call (zj6 hHeld)) (HA.out.2.1.call (zj6 hHeld))).mono ?_
     rintro en wN ⟨rfl,hbN⟩
     have hbH:=qh hbN;clear hbN
     go_wp2_with fail
     refine hK.out _ _ (yd8 hHeld hbH.out) (fun hNew => ?_)
     clear hK K hHeld hbH
     have hHeld:=hNew;clear hNew
     try simp only [Act.put,c9,b5,b6]
     refine rt (i:=11) (v := ?_) ⟨some 28,.unOp UnOp.not 4 (.tmp 27),4,_,_,none⟩ hHeld ?_ ?_
     rotate_left
     ·intro wS hSw;(try dsimp only at hSw);go_simp <;> with_reducible rfl
     try simp only [Act.put,c9,b5,b6]
     refine rt (i:=12) (v := ?_) ⟨some 29,.move (.tmp 28),4,_,_,none⟩ hHeld ?_ ?_
     rotate_left
     ·intro wS hSw;(try dsimp only at hSw);go_simp <;> with_reducible rfl
     try simp only [Act.put,c9,b5,b6]
     refine rt (i:=13) (v := ?_) ⟨some 30,.move (.tmp 0),23,_,_,some (12,false)⟩ hHeld ?_ ?_
     rotate_left
     ·intro wS hSw;(try dsimp only at hSw);go_simp <;> with_reducible rfl
     try simp only [Act.put,c9,b5,b6]
     refine rt (i:=14) (v := ?_) ⟨some 31,.move (.tmp 5),3,_,_,some (12,false)⟩ hHeld ?_ ?_
     rotate_left
     ·intro wS hSw;(try dsimp only at hSw);go_simp <;> with_reducible rfl
     try simp only [Act.put,c9,b5,b6]
     refine rt (i:=15) (v := ?_) ⟨some 32,.indexAddr 23 (.tmp 30) (.tmp 31),0,_,_,some (12,false)⟩ hHeld ?_ ?_
     rotate_left
     ·intro wS hSw;(try dsimp only at hSw);go_simp <;> with_reducible rfl
     try simp only [Act.put,c9,b5,b6]
     refine rt (i:=16) (v := ?_) ⟨some 33,.fieldAddr 46 (.tmp 32) 1,0,_,_,some (12,false)⟩ hHeld ?_ ?_
     rotate_left
     ·intro wS hSw;(try dsimp only at hSw);go_simp <;> with_reducible rfl
     try simp only [Act.put,c9,b5,b6]
     refine rt (i:=17) (v := ?_) ⟨some 34,.load 44 (.tmp 33),44,_,_,some (12,false)⟩ hHeld ?_ ?_
     rotate_left
     ·intro wS hSw;(try dsimp only at hSw);go_simp <;> with_reducible rfl
     try simp only [Act.put,c9,b5,b6]
     refine rt (i:=18) (v := ?_) ⟨some 35,.move (.tmp 1),23,_,_,some (12,false)⟩ hHeld ?_ ?_
     rotate_left
     ·intro wS hSw;(try dsimp only at hSw);go_simp <;> with_reducible rfl
     try simp only [Act.put,c9,b5,b6]
     refine rt (i:=19) (v := ?_) ⟨some 36,.move (.tmp 5),3,_,_,some (12,false)⟩ hHeld ?_ ?_
     rotate_left
     ·intro wS hSw;(try dsimp only at hSw);go_simp <;> with_reducible rfl
     try simp only [Act.put,c9,b5,b6]
     refine rt (i:=20) (v := ?_) ⟨some 37,.indexAddr 23 (.tmp 35) (.tmp 36),0,_,_,some (12,false)⟩ hHeld ?_ ?_
     rotate_left
     ·intro wS hSw;(try dsimp only at hSw);go_simp <;> with_reducible rfl
     try simp only [Act.put,c9,b5,b6]
     refine rt (i:=21) (v := ?_) ⟨some 38,.fieldAddr 46 (.tmp 37) 1,0,_,_,some (12,false)⟩ hHeld ?_ ?_
     rotate_left
     ·intro wS hSw;(try dsimp only at hSw);go_simp <;> with_reducible rfl
     try simp only [Act.put,c9,b5,b6]
     refine rt (i:=22) (v := ?_) ⟨some 39,.load 44 (.tmp 38),44,_,_,some (12,false)⟩ hHeld ?_ ?_
     rotate_left
     ·intro wS hSw;(try dsimp only at hSw);go_simp <;> with_reducible rfl
     try simp only [Act.put,c9,b5,b6]
     refine wpAnyH_ready (rs := [23]) (by kernel_rfl) (by simp) (AllReadyH.cons (o:=⟨some 40,.call { callee := .value (.func 45),args:=#[.tmp 34,.tmp 39],argTypes:=#[44,44] },4,_,_,some (12,false)⟩) rfl (fun K hK => ?_) AllReadyH.nil)
     go_simp
     refine (K9.out _ (HA.out.2.2.1.call (zj6 hHeld)) (HA.out.2.2.2.call (zj6 hHeld))).mono ?_
     rintro en wN ⟨rfl,hbN⟩
     have hbH:=qh hbN;clear hbN
     go_wp2_with fail
     refine hK.out _ _ (yd8 hHeld hbH.out) (fun hNew => ?_)
     clear hK K hHeld hbH
     have hHeld:=hNew;clear hNew
     try simp only [Act.put,c9,b5,b6]
     refine rt (i:=24) (v := ?_) ⟨some 41,.unOp UnOp.not 4 (.tmp 40),4,_,_,some (12,false)⟩ hHeld ?_ ?_
     rotate_left
     ·intro wS hSw;(try dsimp only at hSw);go_simp <;> with_reducible rfl
     try simp only [Act.put,c9,b5,b6]
     refine rt (i:=25) (v := ?_) ⟨some 42,.pick (.tmp 29) (.const (Value.bool true)) (.tmp 41),4,_,_,none⟩ hHeld ?_ ?_
     rotate_left
     ·intro wS hSw;(try dsimp only at hSw);go_simp <;> with_reducible rfl
     try simp only [Act.put,c9,b5,b6]
     refine wpAnyH_done (by kernel_rfl) ?_ _
     have HE:=qh (z7 HB.out hHeld.1)
     clear hHeld
     cases bb with
     | false =>
       have HZ:Hid (decide (F=F')=false):=qh (by
        rw [decide_eq_false_iff_not]
        intro e
        have h1:=HX.out.1
        rw [e,HX.out.2] at h1
        have h2:=HBB.out.2
        cases h1
        simp at h2)
       go_wp2_with fail
       go_ret
       exact ⟨by rw [HZ.out];rfl,HE.out⟩
     | true =>
       go_wp2_with fail
       go_roundw
       case rel=>exact ⟨k+1,by go_num,by omega,fun j hj=>by
        rcases Nat.lt_or_eq_of_le (Nat.le_of_lt_succ hj) with h | h
        ·exact HBF.out j h
        ·subst h
         rw [HX.out.1,HX.out.2,HBB.out.1,of_decide_eq_true HBB.out.2],HE.out⟩
       case measure=>simp [intOf];omega
    ·have K4:=qh (fun W h h'=>(decide_eq_false hLL ▸ KS.out L L' (.slice q L.length c) (.slice q' L'.length c') W h h':Calls Tryz.prog 26 #[.slice q L.length c,.slice q' L'.length c'] W (t7 false W)))
     have HZ:Hid (decide (F=F')=false):=qh (by
      rw [decide_eq_false_iff_not]
      intro e
      have h1:=HX.out.1
      rw [e,HX.out.2] at h1
      cases h1
      exact hLL rfl)
     clear c0 c1 d0 d1 hLL
     go_wp2_with fail
     refine wp_region_held_drew (S:=(fun w':World=>Below wr.heap.size wr w'∧w'.cell? ⟨b,o+k*2,none⟩=some (.slice q L.length c)∧w'.cell? ⟨b,o+k*2+1,none⟩=some (.slice q2 V.length c2)∧w'.cell? ⟨b',o'+k*2,none⟩=some (.slice q' L'.length c')∧w'.cell? ⟨b',o'+k*2+1,none⟩=some (.slice q2' V'.length c2'))) (by kernel_rfl) (HS.out) (fun hHeld => ?_)
     refine rt (i:=0) (v := ?_) ⟨some 17,.move (.tmp 0),23,_,_,none⟩ hHeld ?_ ?_
     rotate_left
     ·intro wS hSw;(try dsimp only at hSw);go_simp <;> with_reducible rfl
     try simp only [Act.put,c9,b5,b6]
     refine rt (i:=1) (v := ?_) ⟨some 18,.move (.tmp 5),3,_,_,none⟩ hHeld ?_ ?_
     rotate_left
     ·intro wS hSw;(try dsimp only at hSw);go_simp <;> with_reducible rfl
     try simp only [Act.put,c9,b5,b6]
     refine rt (i:=2) (v := ?_) ⟨some 19,.indexAddr 23 (.tmp 17) (.tmp 18),0,_,_,none⟩ hHeld ?_ ?_
     rotate_left
     ·intro wS hSw;(try dsimp only at hSw);go_simp <;> with_reducible rfl
     try simp only [Act.put,c9,b5,b6]
     refine rt (i:=3) (v := ?_) ⟨some 20,.fieldAddr 46 (.tmp 19) 0,0,_,_,none⟩ hHeld ?_ ?_
     rotate_left
     ·intro wS hSw;(try dsimp only at hSw);go_simp <;> with_reducible rfl
     try simp only [Act.put,c9,b5,b6]
     refine rt (i:=4) (v := ?_) ⟨some 21,.load 42 (.tmp 20),42,_,_,none⟩ hHeld ?_ ?_
     rotate_left
     ·intro wS hSw;(try dsimp only at hSw);go_simp <;> with_reducible rfl
     try simp only [Act.put,c9,b5,b6]
     refine rt (i:=5) (v := ?_) ⟨some 22,.move (.tmp 1),23,_,_,none⟩ hHeld ?_ ?_
     rotate_left
     ·intro wS hSw;(try dsimp only at hSw);go_simp <;> with_reducible rfl
     try simp only [Act.put,c9,b5,b6]
     refine rt (i:=6) (v := ?_) ⟨some 23,.move (.tmp 5),3,_,_,none⟩ hHeld ?_ ?_
     rotate_left
     ·intro wS hSw;(try dsimp only at hSw);go_simp <;> with_reducible rfl
     try simp only [Act.put,c9,b5,b6]
     refine rt (i:=7) (v := ?_) ⟨some 24,.indexAddr 23 (.tmp 22) (.tmp 23),0,_,_,none⟩ hHeld ?_ ?_
     rotate_left
     ·intro wS hSw;(try dsimp only at hSw);go_simp <;> with_reducible rfl
     try simp only [Act.put,c9,b5,b6]
     refine rt (i:=8) (v := ?_) ⟨some 25,.fieldAddr 46 (.tmp 24) 0,0,_,_,none⟩ hHeld ?_ ?_
     rotate_left
     ·intro wS hSw;(try dsimp only at hSw);go_simp <;> with_reducible rfl
     try simp only [Act.put,c9,b5,b6]
     refine rt (i:=9) (v := ?_) ⟨some 26,.load 42 (.tmp 25),42,_,_,none⟩ hHeld ?_ ?_
     rotate_left
     ·intro wS hSw;(try dsimp only at hSw);go_simp <;> with_reducible rfl
     try simp only [Act.put,c9,b5,b6]
     refine wpAnyH_ready (rs := [10]) (by kernel_rfl) (by simp) (AllReadyH.cons (o:=⟨some 27,.call { callee := .value (.func 26),args:=#[.tmp 21,.tmp 26],argTypes:=#[42,42] },4,_,_,none⟩) rfl (fun K hK => ?_) AllReadyH.nil)
     go_simp
     refine (K4.out _ (HA.out.1.call (zj6 hHeld)) (HA.out.2.1.call (zj6 hHeld))).mono ?_
     rintro en wN ⟨rfl,hbN⟩
     have hbH:=qh hbN;clear hbN
     go_wp2_with fail
     refine hK.out _ _ (yd8 hHeld hbH.out) (fun hNew => ?_)
     clear hK K hHeld hbH
     have hHeld:=hNew;clear hNew
     try simp only [Act.put,c9,b5,b6]
     refine rt (i:=11) (v := ?_) ⟨some 28,.unOp UnOp.not 4 (.tmp 27),4,_,_,none⟩ hHeld ?_ ?_
     rotate_left
     ·intro wS hSw;(try dsimp only at hSw);go_simp <;> with_reducible rfl
     try simp only [Act.put,c9,b5,b6]
     refine rt (i:=12) (v := ?_) ⟨some 29,.move (.tmp 28),4,_,_,none⟩ hHeld ?_ ?_
     rotate_left
     ·intro wS hSw;(try dsimp only at hSw);go_simp <;> with_reducible rfl
     try simp only [Act.put,c9,b5,b6]
     refine rk (i:=13) ⟨some 30,.move (.tmp 0),23,_,_,some (12,false)⟩ hHeld ?_
     try simp only [Act.put,c9,b5,b6]
     refine rk (i:=14) ⟨some 31,.move (.tmp 5),3,_,_,some (12,false)⟩ hHeld ?_
     try simp only [Act.put,c9,b5,b6]
     refine rk (i:=15) ⟨some 32,.indexAddr 23 (.tmp 30) (.tmp 31),0,_,_,some (12,false)⟩ hHeld ?_
     try simp only [Act.put,c9,b5,b6]
     refine rk (i:=16) ⟨some 33,.fieldAddr 46 (.tmp 32) 1,0,_,_,some (12,false)⟩ hHeld ?_
     try simp only [Act.put,c9,b5,b6]
     refine rk (i:=17) ⟨some 34,.load 44 (.tmp 33),44,_,_,some (12,false)⟩ hHeld ?_
     try simp only [Act.put,c9,b5,b6]
     refine rk (i:=18) ⟨some 35,.move (.tmp 1),23,_,_,some (12,false)⟩ hHeld ?_
     try simp only [Act.put,c9,b5,b6]
     refine rk (i:=19) ⟨some 36,.move (.tmp 5),3,_,_,some (12,false)⟩ hHeld ?_
     try simp only [Act.put,c9,b5,b6]
     refine rk (i:=20) ⟨some 37,.indexAddr 23 (.tmp 35) (.tmp 36),0,_,_,some (12,false)⟩ hHeld ?_
     try simp only [Act.put,c9,b5,b6]
     refine rk (i:=21) ⟨some 38,.fieldAddr 46 (.tmp 37) 1,0,_,_,some (12,false)⟩ hHeld ?_
     try simp only [Act.put,c9,b5,b6]
     refine rk (i:=22) ⟨some 39,.load 44 (.tmp 38),44,_,_,some (12,false)⟩ hHeld ?_
     try simp only [Act.put,c9,b5,b6]
     refine rk (i:=23) ⟨some 40,.call { callee := .value (.func 45),args:=#[.tmp 34,.tmp 39],argTypes:=#[44,44] },4,_,_,some (12,false)⟩ hHeld ?_
     try simp only [Act.put,c9,b5,b6]
     refine rk (i:=24) ⟨some 41,.unOp UnOp.not 4 (.tmp 40),4,_,_,some (12,false)⟩ hHeld ?_
     try simp only [Act.put,c9,b5,b6]
     refine rt (i:=25) (v := ?_) ⟨some 42,.pick (.tmp 29) (.const (Value.bool true)) (.tmp 41),4,_,_,none⟩ hHeld ?_ ?_
     rotate_left
     ·intro wS hSw;(try dsimp only at hSw);go_simp <;> with_reducible rfl
     try simp only [Act.put,c9,b5,b6]
     refine wpAnyH_done (by kernel_rfl) ?_ _
     have HE:=qh (z7 HB.out hHeld.1)
     clear hHeld
     go_wp2_with fail
     go_ret
     exact ⟨by rw [HZ.out];rfl,HE.out⟩
   ·obtain rfl:k=n9:=by omega
    have HZ:Hid (decide (F=F')=true):=qh (decide_eq_true (w36 HL.out fun j hj=>HBF.out j (by rw [← HN.out];exact hj)))
    go_wp2_with fail
    go_ret
    exact ⟨by rw [HZ.out];rfl,HB.out⟩
 ·have hb:((F.length:Int) != (F'.length:Int))=true:=bne_iff_ne.2 (by omega)
  have hne:decide (F=F')=false:=by
   rw [decide_eq_false_iff_not]
   intro e
   exact hl (congrArg List.length e)
  have HN:=qh hne;clear hne
  clear hl hv hv'
  go_enter Tryz.func18,Tryz.ntmps18
  go_wp2_with fail
  go_ret
  exact ⟨by rw [HN.out];rfl,Below.refl _ _⟩
end
end Go.Proofs.YtchndljcahjldaaGreatDoor
