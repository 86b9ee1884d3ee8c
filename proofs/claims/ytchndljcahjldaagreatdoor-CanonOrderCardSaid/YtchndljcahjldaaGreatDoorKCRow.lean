/- An append of several elements to a row of the call's own, at a step of a region. -/
import Derived.Test.YtchndljcahjldaaGreatDoorKCSegM
namespace Go.Proofs.YtchndljcahjldaaGreatDoor
section
open Go.RowKit
def x38 (W:World) (sz m:Nat) (s:Value) (xs:List Value):Prop:=(s = .slice none 0 0∧m=0∧xs = [])∨∃ (ad:Addr) (c:Nat),s = .slice (some ad) m c∧xs.length=m*sz∧∀ (j:Nat) u,xs[j]? = some u→W.cell? (ad.add j)=some u
theorem x38.call {W W':World} {sz m:Nat} {s:Value} {xs:List Value} (h:x38 W sz m s xs) (hb:Below W.heap.size W W'):x38 W' sz m s xs:=by
 rcases h with h | ⟨ad,c,h1,h2,h3⟩
 ·exact .inl h
 ·exact .inr ⟨ad,c,h1,h2,fun j u hu=>z6 (h3 j u hu) hb⟩
theorem yw5 {P:Program} (hP:P=Tryz.prog) {w0 W:World} {ops:Array Oper} {o:Oper} {a:Act} {K:Act→World→Prop} {Q':Exit→Act→World→Prop} {E:Prop} (hgd:o.guard=none) (s x:Operand) (t:TypeId)
 (ho:o.op = .call { callee := .builtin .append,args:=#[s,x],argTypes:=#[t,t] }) {e:TypeId} {z:Value} {sz by':Nat} (hi:(Tryz.prog.info? e).map (fun i=>(i.zero,i.size,i.bytes))=some (some z,sz,by')) (hzs:z.cells.size=sz) (hs0:0<sz) (hby:by'≤1000) (ht:P.underlying t=some (.slice e))
 {v:Value} (hs:a.eval s=v) {B n m:Nat} {cs xs:List Value} {s2:Value} (h:W.ownsRow B e sz v n cs) (hlow:Below B w0 W) (hx:a.eval x=s2) (h2:x38 W sz m s2 xs) (hone:∀ u ∈ xs,u.oneCell'=true) (hl:n+m≤1000000) (hB:B≤W.heap.size)
 (hk:∀ v' W1,W1.ownsRow B e sz v' (n+m) (cs++xs)→Below B w0 W1→y5 (fun j=>v.ownBlock=some j) W W1→(∀ j,v'.ownBlock=some j→v.ownBlock=some j∨W.heap.size≤j)→K (a.put o.dst v') W1) :
 if Region.wanted o (yielded ops a.tmps)=true then Oper.wp P o a W K Q' else E:=by
 subst hP
 obtain ⟨i0,hi',hz0,hz1,hz2⟩:=info_parts hi
 rw [if_pos (by simp [Region.wanted,hgd])]
 rcases h2 with ⟨rfl,rfl,rfl⟩ | ⟨ad,c,rfl,hxl,hc⟩
 ·have hr:=run_append_owned_none (P:=Tryz.prog) W B t o.type e i0 sz ht hi' v n cs h
  unfold Oper.wp execOp
  simp only [ho,resolve,invoke,builtin,Sem.run_bind,Sem.run_pure,Result.andThen_ok,List.map_toArray,List.map_cons,List.map_nil,hs,hx,hr]
  exact hk v W (by rw [List.append_nil];exact h) hlow (y5.refl _ _) fun j hj => .inl hj
 ·obtain ⟨v',W1,hr,h1,h2',_,h3⟩:=run_append_own_at (P:=Tryz.prog) W B t o.type e i0 z sz by' ht hi' hz0 hz1 hz2 hzs hs0 v n cs h ad m c xs hxl hc hone (by unfold maxLen;omega) (by
   have:(n+m)*by'≤1000000*1000:=Nat.mul_le_mul hl hby
   omega) hB
  have k1:y5 (fun j=>v.ownBlock=some j) W W1:=y5.of_grown h2' fun r hr=>hr
  unfold Oper.wp execOp
  simp only [ho,resolve,invoke,builtin,Sem.run_bind,Sem.run_pure,Result.andThen_ok,List.map_toArray,List.map_cons,List.map_nil,hs,hx,hr]
  refine hk v' W1 h1 (hlow.trans (k1.below hB fun j hj hj2=>by have:=(b7 h j hj2).1;omega)) k1 fun j hj => ?_
  rcases h3 with e' | e'
  ·exact .inl (e' ▸ hj)
  ·rw [e'] at hj
   have:=Option.some.inj hj
   exact .inr (by omega)
theorem xp4 {W:World} {B:Nat} (hB:B≤W.heap.size) (e:TypeId) (sz k:Nat) (hk:k=W.heap.size):(W.alloc (.cells #[] e)).ownsRow B e sz (.slice (some ⟨k,0,none⟩) 0 0) 0 []:=hk ▸ World.ownsRow_lit W #[] 0 hB (Nat.zero_le _) (by simp)
end
section
open Go.RowKit
def zb1 (F:u9) (n:Nat) (x z:List Iv × x6):u9:=F.drop n++F.take n ++ [x,([],x.2),(z.1,[])]
theorem w90 {F:u9} {n:Nat} {x z:List Iv × x6} (hx:x ∈ F) (t r c:Int):m5 (zb1 F n x z) t r c=m5 F t r c:=by
 have h1:m5 F t r c=(m5 (F.take n) t r c || m5 (F.drop n) t r c):=by unfold m5;rw [← List.any_append,List.take_append_drop]
 have h2:m5 (zb1 F n x z) t r c=(m5 (F.drop n) t r c || m5 (F.take n) t r c || (y8 x.1 t && i7 x.2 r c)):=by
  unfold zb1 m5
  rw [List.any_append,List.any_append]
  simp [y8,zr4]
 have h3:(y8 x.1 t && i7 x.2 r c)=true→m5 F t r c=true:=fun h=>List.any_eq_true.2 ⟨x,hx,h⟩
 rw [h1] at h3 ⊢
 rw [h2]
 revert h3
 cases m5 (F.take n) t r c <;> cases m5 (F.drop n) t r c <;> cases (y8 x.1 t && i7 x.2 r c) <;> simp
theorem x39 {F:u9} {n:Nat} {x z y:List Iv × x6} (hx:x ∈ F) (h:y ∈ zb1 F n x z):y ∈ F∨y=([],x.2)∨y=(z.1,[]):=by
 unfold zb1 at h
 rcases List.mem_append.1 h with h | h
 ·rcases List.mem_append.1 h with h | h
  ·exact .inl (List.mem_of_mem_drop h)
  ·exact .inl (List.mem_of_mem_take h)
 ·simp at h
  rcases h with rfl | rfl | rfl
  ·exact .inl hx
  ·exact .inr (.inl rfl)
  ·exact .inr (.inr rfl)
theorem yq8 {F:u9} {n:Nat} {x z:List Iv × x6} (hx:x ∈ F) (hz:z ∈ F) (h:x7 F):x7 (zb1 F n x z):=fun y hy=>by
 rcases x39 hx hy with h1 | rfl | rfl
 ·exact h y h1
 ·exact ⟨z17,(h x hx).2⟩
 ·exact ⟨(h z hz).1,z32.1⟩
theorem x40 (F:u9) (n:Nat) (x z:List Iv × x6):(zb1 F n x z).length=F.length+3:=by
 unfold zb1
 simp only [List.length_append,List.length_drop,List.length_take,List.length_cons,List.length_nil]
 omega
theorem xg9 {F:u9} {n:Nat} {x z:List Iv × x6} (hx:x ∈ F) (hz:z ∈ F) (h:z90 F) (h6:F.length≤6):z90 (zb1 F n x z):=⟨by rw [x40];omega,fun y hy=>by
 rcases x39 hx hy with h1 | rfl | rfl
 ·exact h.2 y h1
 ·exact ⟨Nat.zero_le _,(h.2 x hx).2⟩
 ·exact ⟨(h.2 z hz).1,Nat.zero_le _,fun y hy=>by cases hy⟩⟩
theorem xh0 {F:u9} {n:Nat} {x z:List Iv × x6} (hx:x ∈ F) (hz:z ∈ F) (h:x7 F):m8 (r3 (zb1 F n x z))=m8 (r3 F):=by
 have g:=yq8 (n:=n) hx hz h
 exact yf0 (zd9 (o7 g)) (zd9 (o7 h)) (zg5 (o7 g) (zl0 g)) (zg5 (o7 h) (zl0 h)) fun t r c h0 h1 hc=>by
  rw [ze6 (o7 g) t r hc,ze6 (o7 h) t r hc,zg4 g h0 h1 r hc,zg4 h h0 h1 r hc,w90 hx]
def Ali {α β:Type} (R:α→β→Prop) (l:List α) (m:List β):Prop:=l.length=m.length∧∀ (i:Nat) (f:α) (x:β),l[i]? = some f→m[i]? = some x→R f x
section
variable {α β:Type} {R:α→β→Prop} {l l':List α} {m m':List β}
theorem Ali.app (h:Ali R l m) (h':Ali R l' m'):Ali R (l++l') (m++m'):=by
 refine ⟨by rw [List.length_append,List.length_append,h.1,h'.1],fun i f x hf hx => ?_⟩
 by_cases hi:i<l.length
 ·rw [List.getElem?_append_left hi] at hf
  rw [List.getElem?_append_left (by rw [← h.1];exact hi)] at hx
  exact h.2 i f x hf hx
 ·rw [List.getElem?_append_right (by omega)] at hf
  rw [List.getElem?_append_right (by rw [← h.1];omega),← h.1] at hx
  exact h'.2 _ f x hf hx
theorem Ali.drop (h:Ali R l m) (n:Nat):Ali R (l.drop n) (m.drop n):=⟨by rw [List.length_drop,List.length_drop,h.1],fun i f x hf hx=>by
 rw [List.getElem?_drop] at hf hx
 exact h.2 _ f x hf hx⟩
theorem Ali.take (h:Ali R l m) (n:Nat):Ali R (l.take n) (m.take n):=⟨by rw [List.length_take,List.length_take,h.1],fun i f x hf hx=>by
 rw [List.getElem?_take] at hf hx
 split at hf
 ·rename_i hi
  rw [if_pos hi] at hx
  exact h.2 _ f x hf hx
 ·cases hf⟩
theorem Ali.one {f:α} {x:β} (h:R f x):Ali R [f] [x]:=⟨rfl,fun i g y hg hy=>by
 match i,hg,hy with
 | 0,hg,hy=>simp at hg hy;subst hg;subst hy;exact h⟩
end
theorem Ali.imp {α β:Type} {R S:α→β→Prop} {l:List α} {m:List β} (h:Ali R l m) (hi:∀ f x,R f x→S f x):Ali S l m:=⟨h.1,fun i f x hf hx=>hi f x (h.2 i f x hf hx)⟩
theorem xp5 (a b:List (Value × Value)):frC (a++b)=frC a++frC b:=by unfold frC;rw [List.flatMap_append]
theorem x41 {fs:List (Value × Value)} {F:u9} {W:World} (h:Ali (z89 W) fs F):∀ u ∈ frC fs,u.oneCell'=true:=fun u hu=>by
 unfold frC at hu
 obtain ⟨f,hf,hu⟩:=List.mem_flatMap.1 hu
 obtain ⟨i,hi⟩:=List.mem_iff_getElem?.1 hf
 have hl:i<F.length:=by rw [← h.1];exact (List.getElem?_eq_some_iff.1 hi).1
 have q:=h.2 i f F[i] hi (by simp [hl])
 obtain ⟨_,_,e1,_⟩:=q.at1.shape
 obtain ⟨_,_,e2⟩:=q.vec.m.shape
 rw [e1,e2] at hu
 simp at hu
 rcases hu with rfl | rfl <;> rfl
theorem ye5 {W:World} (cs:Array Value) (t:TypeId) (X:Nat) (hX:X=W.heap.size:=by simp):∀ (j:Nat) u,cs.toList[j]? = some u→(W.alloc (.cells cs t)).cell? ((⟨X,0,none⟩:Addr).add j)=some u:=by
 subst hX
 exact World.news_of_block (heap_alloc_new _ _)
theorem wn7 {W:World} {B n:Nat} {v:Value} {fs:List (Value × Value)} {F:u9} (h:W.ownsRow B 46 2 v n (frC fs)) (hn:n=fs.length) (ha:Ali (z89 W) fs F) (hl:F.length≤100000):g8 W v F:=by
 subst hn
 exact ⟨⟨⟨fs,zi4.knoAt h,ha.1,ha.2⟩,hl⟩,zq1 h⟩
theorem w91 {W:World} {B n m:Nat} {v fx1 fx2 fz1:Value} {fs:List (Value × Value)} {F:u9} {x z:List Iv × x6} (hn:n≤fs.length) (hm:m=0+(fs.length - n)+n+3)
 (h:W.ownsRow B 46 2 v m ([]++frC (fs.drop n)++frC (fs.take n) ++ [fx1,fx2,.slice none 0 0,fx2,fz1,.slice none 0 0])) (ha:Ali (z89 W) fs F) (hx:z89 W (fx1,fx2) x) (hz:z89 W (fz1,(.slice none 0 0)) (z.1,[])) (hl:F.length≤1000):g8 W v (zb1 F n x z):=by
 have h1:W.ownsRow B 46 2 v m (frC (fs.drop n++fs.take n ++ [(fx1,fx2),(.slice none 0 0,fx2),(fz1,.slice none 0 0)])):=by
  rw [xp5,xp5]
  exact h
 refine wn7 h1 (by simp only [List.length_append,List.length_drop,List.length_take,List.length_cons,List.length_nil];omega) ?_ (by rw [x40];omega)
 have h3:Ali (z89 W) ([(fx1,fx2)]++([(.slice none 0 0,fx2)] ++ [(fz1,.slice none 0 0)])) ([x]++([([],x.2)] ++ [(z.1,[])])):=
  (Ali.one hx).app ((Ali.one ⟨yd2 W,(fun y hy=>by cases hy),zb5,hx.vec⟩).app (Ali.one hz))
 exact ((ha.drop n).app (ha.take n)).app h3
theorem w92 {w:World} {b o cap:Nat} {fs:List (Value × Value)} (h:zh1 w (.slice (some ⟨b,o,none⟩) fs.length cap) fs) (n:Nat):x38 w 2 (fs.length - n) (.slice (some ⟨b,o+n*2,none⟩) (fs.length - n) (cap - n)) (frC (fs.drop n)):=by
 refine .inr ⟨_,_,rfl,by rw [y07,List.length_drop],fun j u hu => ?_⟩
 rw [← wk9,List.getElem?_drop] at hu
 have:=ys2 h _ _ hu
 rw [Addr.add_lit] at this ⊢
 rwa [Nat.add_assoc]
theorem w93 {w:World} {b o cap:Nat} {fs:List (Value × Value)} (h:zh1 w (.slice (some ⟨b,o,none⟩) fs.length cap) fs) {n:Nat} (hn:n≤fs.length):x38 w 2 n (.slice (some ⟨b,o,none⟩) n cap) (frC (fs.take n)):=by
 refine .inr ⟨_,_,rfl,by rw [y07,List.length_take,Nat.min_eq_left hn],fun j u hu => ?_⟩
 rw [← wk8,List.getElem?_take] at hu
 split at hu
 ·exact ys2 h _ _ hu
 ·cases hu
end
section
open Go.RowKit
set_option maxRecDepth 400000 in
set_option maxHeartbeats 16000000 in
theorem ye6 (va:Value) (t:Int) (w:World) (hg:z61 w) (ha:zq9 w va) (nt:0≤t∧t≤255) :
 Calls Tryz.prog 6 #[va,.int .u8 t] w (t7 true w):=by
 have KL:=qh (fun W h=>zo4 W h)
 have HG_0:=qh hg;clear hg
 obtain ⟨⟨pa,na,ca,rfl⟩,ba,hfa,hva⟩:=ha.right13
 have KFa:=qh hfa;have HVa:=qh hva;clear hfa hva ha
 go_enter Tryz.func6,Tryz.ntmps6
 go_wp2_with fail
 refine (KFa.out _ (Below.refl _ _)).mono ?_
 rintro e w1 ⟨rfl,h⟩
 have HG_1:=qh (HG_0.out.here h)
 clear HG_0
 have HB_1:=qh h
 clear h
 cases ba with
 | false =>
   go_wp2_with fail
   refine (KL.out _ HG_1.out).mono ?_
   rintro e w2 ⟨rfl,h⟩
   have HG_2:=qh (HG_1.out.here h)
   clear HG_1
   have HB_2:=qh (z7 HB_1.out h)
   clear h
   go_wp2_with fail
   go_ret
   exact ⟨rfl,HB_2.out⟩
 | true =>
   obtain ⟨A,hva,hsa,hgood⟩:=HVa.out (by trivial)
   obtain rfl:na=A.length:=by obtain ⟨_,_,e⟩:=hva.m.shape;injection e
   have HVa_1:=qh (hva.call HB_1.out)
   clear hva
   by_cases h0:A.length=0
   ·have e1:((A.length:Int) == 0)=true:=by simpa using h0
    clear h0
    go_wp2_with fail
    refine (KL.out _ HG_1.out).mono ?_
    rintro e w2 ⟨rfl,h⟩
    have HG_2:=qh (HG_1.out.here h)
    clear HG_1
    have HVa_2:=qh (HVa_1.out.call h)
    clear HVa_1
    have HB_2:=qh (z7 HB_1.out h)
    clear h
    go_wp2_with fail
    go_ret
    exact ⟨rfl,HB_2.out⟩
   ·have e1:((A.length:Int) == 0)=false:=by simpa using h0
    by_cases h6:6<A.length
    ·have e2:(6:Int)<(A.length:Int):=by omega
     clear h0 h6
     go_wp2_with fail
     refine (KL.out _ HG_1.out).mono ?_
     rintro e w2 ⟨rfl,h⟩
     have HG_2:=qh (HG_1.out.here h)
     clear HG_1
     have HVa_2:=qh (HVa_1.out.call h)
     clear HVa_1
     have HB_2:=qh (z7 HB_1.out h)
     clear h
     go_wp2_with fail
     go_ret
     exact ⟨rfl,HB_2.out⟩
    ·have e2:¬ (6:Int)<(A.length:Int):=by omega
     obtain ⟨tn,rfl⟩:∃ tn:Nat,t=(tn:Int):=⟨t.toNat,by omega⟩
     obtain ⟨n,hn⟩:∃ n,tn % A.length=n:=⟨_,rfl⟩
     have hnl:n<A.length:=hn ▸ Nat.mod_lt _ (by omega)
     have em:(tn:Int).tmod (A.length:Int)=(n:Int):=by rw [← hn];rfl
     obtain ⟨x,hx⟩:∃ x,A[n]? = some x:=⟨A[n],by simp [hnl]⟩
     obtain ⟨z,hz⟩:∃ z,A[0]? = some z:=⟨A[0],by simp⟩
     have s0:¬ (A.length:Int)=0:=by omega
     have ew:IntKind.i64.wrap (tn:Int)=(tn:Int):=IntWalk.i64_in _ (by omega)
     have ew2:IntKind.i64.wrap (n:Int)=(n:Int):=IntWalk.i64_in _ (by omega)
     clear hn
     go_wp2_with fail
     obtain ⟨fs,hfs,hfl,hfe⟩:=HVa_1.out.m.sh
     have hali:Ali (z89 w1) fs A:=⟨hfl,hfe⟩
     obtain ⟨fx,hfx⟩:∃ f,fs[n]? = some f:=⟨fs[n]'(by omega),by simp [show n<fs.length by omega]⟩
     obtain ⟨fz,hfz⟩:∃ f,fs[0]? = some f:=⟨fs[0]'(by omega),by simp⟩
     have qx:=hali.2 n fx x hfx hx
     have qz:=hali.2 0 fz z hfz hz
     have hfs0:=hfs
     obtain ⟨p',c',es,_,h5⟩:=hfs0
     obtain ⟨bk,ok,rfl,h6'⟩:=h5 (by rintro rfl;simp at hfl;omega)
     injection es with es1 es2 es3
     subst es1 es3
     clear es2
     have hcap:A.length≤ca:=HVa_1.out.sane.2 _ _ _ rfl
     have cx:=h6' n fx hfx
     have cz:=h6' 0 fz hfz
     have hs1:x38 w1 2 (A.length - n) (.slice (some ⟨bk,ok+n*2,none⟩) (A.length - n) (ca - n)) (frC (fs.drop n)):=by rw [← hfl] at hfs ⊢;exact w92 hfs n
     have hs2:x38 w1 2 n (.slice (some ⟨bk,ok,none⟩) n ca) (frC (fs.take n)):=by rw [← hfl] at hfs;exact w93 hfs (by omega)
     have HS:=qh (And.intro hs1 (And.intro hs2 (And.intro (x41 (hali.drop n)) (x41 (hali.take n)))))
     obtain ⟨fx1,fx2⟩:=fx
     obtain ⟨fz1,fz2⟩:=fz
     obtain ⟨x1,x2⟩:=x
     obtain ⟨z1,z2⟩:=z
     obtain ⟨px,kx,ex1,_⟩:=qx.at1.shape
     obtain ⟨qx',mx,ex2⟩:=qx.vec.m.shape
     obtain ⟨pz,kz,ez1,_⟩:=qz.at1.shape
     dsimp only at ex1 ex2 ez1 cx cz
     subst ex1 ex2 ez1
     have HQ:=qh (And.intro qx (And.intro qz (And.intro hali hfl)))
     have HXZ:=qh (And.intro (List.mem_of_getElem? hx) (List.mem_of_getElem? hz))
     have HGS:=qh (And.intro hgood hsa)
     have HCX:=qh (And.intro cx.1 (And.intro cx.2 (by simpa using cz.1:w1.cell? ⟨bk,ok,none⟩=some (.slice pz z1.length kz))))
     have s1:(0:Int)≤(n:Int):=by omega
     have s2:(n:Int)<(A.length:Int):=by omega
     have s3:(n:Int)≤(A.length:Int):=by omega
     have s4:(n:Int)≤(ca:Int):=by omega
     have s5:(A.length:Int)≤(ca:Int):=by omega
     have s6:¬ ca=n:=by omega
     have s7:(0:Int)<(A.length:Int):=by omega
     have hA6:A.length≤6:=by omega
     have HN:=qh (And.intro hnl hA6)
     clear hs1 hs2 qx qz hali hfe hfs h5 h6' cx cz hx hz hfx hfz hgood hsa h0 h6 e1 e2 em ew ew2 s0 nt hA6 hcap hnl s2 s7 hfl
     have hS0:Below w1.heap.size w1 w1:=Below.refl _ _
     go_region_held3 (fun w'=>Below w1.heap.size w1 w')
      (first
        | assumption
        | exact z7 (by assumption) (Below.refl _ _).drew
        | exact z7 (by assumption) (z8 _ _))
      (first
        | (refine yw5 (w0:=w1) (B:=w1.heap.size) rfl (by rfl) (.tmp 26) (.tmp 29) _ (by rfl) zl2 rfl (by decide) (by decide) Tryz.underlying23 (by rfl) (n:=0) (m:=A.length - n) (cs := []) (xs:=frC (fs.drop n)) (by first | exact y7 (xp4 (Nat.le_refl _) _ _ _ rfl) (Below.refl _ _).drew | exact xp4 (Nat.le_refl _) _ _ _ rfl) (by assumption) (by rfl) (HS.out.1.call (by assumption)) HS.out.2.2.1 (by have:=HN.out;omega) (Below.size (by assumption)) ?_;intro v1 u1 hR1 hb1 _ _;have HR1:=qh hR1;clear hR1)
        | (refine yw5 (w0:=w1) (B:=w1.heap.size) rfl (by rfl) (.tmp 30) (.tmp 33) _ (by rfl) zl2 rfl (by decide) (by decide) Tryz.underlying23 (by rfl) (n:=0+(A.length - n)) (m:=n) (cs := []++frC (fs.drop n)) (xs:=frC (fs.take n)) HR1.out (by assumption) (by rfl) (HS.out.2.1.call (by assumption)) HS.out.2.2.2 (by have:=HN.out;omega) (Below.size (by assumption)) ?_;intro v2 u2 hR2 hb2 _ _;have HR2:=qh hR2;have HB2:=qh hb2;clear hR2))
     all_goals
      have hR2':=HR2.out
      rw [Nat.zero_add] at hR2'
      clear HR2
      have HR2:=qh hR2'
      clear hR2'
      obtain ⟨pv,cv,rfl,_⟩:=x8 HR2.out
      have hS5:Below w1.heap.size w1 u2∧u2.cell? ⟨bk,ok+n*2,none⟩=some (.slice px x1.length kx)∧u2.cell? ⟨bk,ok+n*2+1,none⟩=some (.slice qx' x2.length mx)∧u2.cell? ⟨bk,ok,none⟩=some (.slice pz z1.length kz):=⟨HB2.out,z6 HCX.out.1 HB2.out,z6 HCX.out.2.1 HB2.out,z6 HCX.out.2.2 HB2.out⟩
      clear hb1 hb2
      have s2:(n:Int)<(A.length:Int):=by have:=HN.out.1;omega
      have s7:(0:Int)<(A.length:Int):=by omega
      have s9:0<A.length:=by omega
      go_wp2_with fail
      go_region_held3 (fun w'=>Below w1.heap.size w1 w'∧w'.cell? ⟨bk,ok+n*2,none⟩=some (.slice px x1.length kx)∧w'.cell? ⟨bk,ok+n*2+1,none⟩=some (.slice qx' x2.length mx)∧w'.cell? ⟨bk,ok,none⟩=some (.slice pz z1.length kz))
       (first
         | assumption
         | exact zn3 (by assumption)
         | exact zx3 (by assumption) (qh (z8 _ _)))
       (first
         | (refine yw5 (w0:=w1) (B:=w1.heap.size) rfl (by rfl) (.tmp 35) (.tmp 51) _ (by rfl) zl2 rfl (by decide) (by decide) Tryz.underlying23 (by rfl) (n:=A.length - n+n) (m:=3) (cs := []++frC (fs.drop n)++frC (fs.take n)) (xs := [.slice px x1.length kx,.slice qx' x2.length mx,.slice none 0 0,.slice qx' x2.length mx,.slice pz z1.length kz,.slice none 0 0]) (y7 HR2.out (by first | exact z8 _ _ | exact (z8 _ _).drew | exact (Below.refl _ _).drew)) (And.left (by assumption)) (by rfl) (.inr ⟨_,_,rfl,rfl,by first | exact ye5 _ _ _ | exact fun j u hu=>z6 (ye5 _ _ _ j u hu) (Below.refl _ _).drew⟩) (by intro u hu;simp at hu;rcases hu with rfl | rfl | rfl | rfl | rfl | rfl <;> rfl) (by have:=HN.out;omega) (Below.size (And.left (by assumption))) ?_;intro v3 w2 hR3 hb3 _ _;have HR3:=qh hR3;have hS3:Below w1.heap.size w1 w2∧w2.cell? ⟨bk,ok+n*2,none⟩=some (.slice px x1.length kx)∧w2.cell? ⟨bk,ok+n*2+1,none⟩=some (.slice qx' x2.length mx)∧w2.cell? ⟨bk,ok,none⟩=some (.slice pz z1.length kz):=⟨hb3,z6 HCX.out.1 hb3,z6 HCX.out.2.1 hb3,z6 HCX.out.2.2 hb3⟩;have HB3:=qh hb3;clear hR3))
     all_goals
      have h:Below w1.heap.size w1 w2:=HB3.out
      have hk:g8 w2 v3 (zb1 A n (x1,x2) (z1,z2)):=w91 (by have:=HN.out;have:=HQ.out.2.2.2;omega) (by have:=HN.out;have:=HQ.out.2.2.2;omega) HR3.out (HQ.out.2.2.1.imp fun _ _ q=>q.call h) (HQ.out.1.call h) ⟨HQ.out.2.1.at1.call h,HQ.out.2.1.all,HQ.out.2.1.sane,yj3 _⟩ (by have:=HN.out;omega)
      obtain ⟨pl,cl,rfl⟩:=hk.m.shape
      have KC:=qh (fun W (hg:z61 W) (h:g8 W (.slice pl (zb1 A n (x1,x2) (z1,z2)).length cl) (zb1 A n (x1,x2) (z1,z2)))=>(by
       have ht:=xg9 (n:=n) HXZ.out.1 HXZ.out.2 HGS.out.2 HN.out.2
       have k:=zt1 _ _ W hg.d h (yq8 HXZ.out.1 HXZ.out.2 HGS.out.1) ht.midI fun _=>⟨ht.deep,zm7 ht⟩
       rw [xh0 HXZ.out.1 HXZ.out.2 HGS.out.1] at k
       exact k:Calls Tryz.prog 17 #[.slice pl (zb1 A n (x1,x2) (z1,z2)).length cl] W (xm0 (m8 (r3 A)) W)))
      have KD:=qh (fun W (hg:z61 W) (h:g8 W (.slice (some ⟨bk,ok,none⟩) A.length ca) A)=>zt1 A _ W hg.d h HGS.out.1 HGS.out.2.midI fun _=>⟨HGS.out.2.deep,zm7 HGS.out.2⟩)
      have KS:=qh (fun s u W h h2=>(by have k:=ya2 (m8 (r3 A)) (m8 (r3 A)) s u W h h2;rw [show decide (m8 (r3 A)=m8 (r3 A))=true from by simp] at k;exact k:Calls Tryz.prog 18 #[s,u] W (t7 true W)))
      clear hS3 hS5 hb3 HR2 HR3 HS HCX
      have HG_2:=qh (HG_1.out.here h)
      clear HG_1
      have HVa_2:=qh (HVa_1.out.call h)
      clear HVa_1
      have HB_2:=qh (z7 HB_1.out h)
      clear h
      have HL_2:=qh (hk)
      clear hk
      generalize (zb1 A n (x1,x2) (z1,z2)).length=ln at *
      generalize zb1 A n (x1,x2) (z1,z2)=TA at *
      go_wp2_with fail
      refine (KL.out _ HG_2.out).mono ?_
      rintro e w3 ⟨rfl,h⟩
      have HG_3:=qh (HG_2.out.here h)
      clear HG_2
      have HVa_3:=qh (HVa_2.out.call h)
      clear HVa_2
      have HL_3:=qh (HL_2.out.call h)
      clear HL_2
      have HB_3:=qh (z7 HB_2.out h)
      clear h
      go_wp2_with fail
      refine (KC.out _ HG_3.out HL_3.out).mono ?_
      rintro e w4 ⟨u4,rfl,hu4,_,h⟩
      obtain ⟨p4,c4,rfl⟩:=hu4.m.shape
      have HG_4:=qh (HG_3.out.here h)
      clear HG_3
      have HVa_4:=qh (HVa_3.out.call h)
      clear HVa_3
      have HL_4:=qh (HL_3.out.call h)
      clear HL_3
      have HB_4:=qh (z7 HB_3.out h)
      clear h
      have HP_4:=qh (hu4)
      clear hu4
      go_wp2_with fail
      refine (KD.out _ HG_4.out HVa_4.out).mono ?_
      rintro e w5 ⟨u5,rfl,hu5,_,h⟩
      obtain ⟨p5,c5,rfl⟩:=hu5.m.shape
      have HG_5:=qh (HG_4.out.here h)
      clear HG_4
      have HVa_5:=qh (HVa_4.out.call h)
      clear HVa_4
      have HL_5:=qh (HL_4.out.call h)
      clear HL_4
      have HP_5:=qh (HP_4.out.call h)
      clear HP_4
      have HB_5:=qh (z7 HB_4.out h)
      clear h
      have HR_5:=qh (hu5)
      clear hu5
      go_wp2_with fail
      refine (KS.out _ _ _ HP_5.out.m.i HR_5.out.m.i).mono ?_
      rintro e w6 ⟨rfl,h⟩
      have HG_6:=qh (HG_5.out.here h)
      clear HG_5
      have HVa_6:=qh (HVa_5.out.call h)
      clear HVa_5
      have HL_6:=qh (HL_5.out.call h)
      clear HL_5
      have HP_6:=qh (HP_5.out.call h)
      clear HP_5
      have HR_6:=qh (HR_5.out.call h)
      clear HR_5
      have HB_6:=qh (z7 HB_5.out h)
      clear h
      go_wp2_with fail
      go_ret
      exact ⟨rfl,HB_6.out⟩
end
end Go.Proofs.YtchndljcahjldaaGreatDoor
