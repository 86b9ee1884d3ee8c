/- What Group leaves, told by its elements. Plain mathematics. -/
import Derived.Test.YtchndljcahjldaaGreatDoorMZSort
import Derived.Test.YtchndljcahjldaaGreatDoorMZRefine
namespace Go.Proofs.YtchndljcahjldaaGreatDoor
section
open Go.RowKit
variable {F G H O:t8} {s g B X o c i:Nat} {W w:World}
def z99 (G:t8) (v:v6) (t:Int):Bool:=G.any fun x=>decide (x.2=v) && y9 x.1 t
theorem zl9 (x:List Iv × v6) (G:t8) (v:v6) (t:Int):z99 (x :: G) v t=((decide (x.2=v) && y9 x.1 t) || z99 G v t):=by unfold z99;rw [List.any_cons]
theorem yb4 (G H:t8) (v:v6) (t:Int):z99 (G++H) v t=(z99 G v t || z99 H v t):=by unfold z99;rw [List.any_append]
theorem xe0 {I:List Iv} {v0:v6} (hI:t6 I) (v:v6) (t:Int):∀ {out:t8},x9 out→z99 (z49 I v0 out) v t=(z99 out v t || (decide (v0=v) && y9 I t))
 | [],_=>by unfold z49 z99;simp
 | y :: out,h=>by
   have hy:=h y (by simp)
   have ho:x9 out:=fun x hx=>h x (List.mem_cons_of_mem _ hx)
   unfold z49
   split
   ·rw [zl9,zl9,xe0 hI v t ho,Bool.or_assoc]
   grind [yw5,zl9,zn1,y9,z99]
theorem yu4 (x:List Iv × v6) (F:t8):zc9 (x :: F)=if j8 x.2 = []∨x.1 = [] then zc9 F else (x.1,j8 x.2) :: zc9 F:=by grind [zc9,j8]
theorem yu5 (v:v6) (t:Int):∀ {F out:t8},x9 out→x9 F→z99 (F.foldl z01 out) v t=(z99 out v t || z99 (zc9 F) v t)
 | [],out,_,_=>by simp [z99,zc9]
 | x :: F,out,h,hF=>by
   have hx:=hF x (by simp)
   rw [List.foldl_cons,yu5 v t (ze8 h hx) fun y hy=>hF y (List.mem_cons_of_mem _ hy),yu4]
   grind [z01,xe0,zl9,Bool.or_assoc]
theorem xo1 (hF:x9 F) (v:v6) (t:Int):z99 (q6 F) v t=z99 (zc9 F) v t:=by
 unfold q6
 rw [yu5 v t (fun x hx=>by cases hx) hF]
 rfl
theorem xo2 (h:zp5 G) {x:List Iv × v6} (hx:x ∈ G) (t:Int):z99 G x.2 t=y9 x.1 t:=by
 cases h1:y9 x.1 t with
 | true=>exact List.any_eq_true.2 ⟨x,hx,by simp [h1]⟩
 | false =>
   refine Bool.eq_false_iff.2 fun h2 => ?_
   obtain ⟨y,hy,h3⟩:=List.any_eq_true.1 h2
   rw [Bool.and_eq_true,decide_eq_true_eq] at h3
   have:x=y:=by
    refine Classical.byContradiction fun hne => ?_
    have hp:G.Pairwise fun a b=>a.2≠b.2:=h.asc.imp fun hl e=>by rw [e,zk4] at hl;omega
    grind [List.pairwise_iff_getElem,List.mem_iff_getElem,Nat.lt_trichotomy]
   grind
theorem wj7 (h:zp5 G) (k:zp5 H) (hm:∀ v t,z99 G v t=z99 H v t):∀ x ∈ G,x ∈ H:=fun x hx=>by
 obtain ⟨⟨g1,g2⟩,_⟩:=h.el x hx
 obtain ⟨z,hz⟩:=List.exists_mem_of_ne_nil _ g2
 have h1:y9 x.1 z.1=true:=(t7 _ _).2 ⟨z,hz,Int.le_refl _,z13 _ g1.can z hz⟩
 have h2:=hm x.2 z.1
 rw [xo2 h hx,h1] at h2
 obtain ⟨y,hy,h3⟩:=List.any_eq_true.1 h2.symm
 rw [Bool.and_eq_true,decide_eq_true_eq] at h3
 have e1:x.1=y.1:=zn2 g1 (k.el y hy).1.1 fun t=>by
  have h4:=hm x.2 t
  rw [xo2 h hx,← h3.1,xo2 k hy] at h4
  exact h4
 have:x=y:=Prod.ext e1 h3.1.symm
 rw [this];exact hy
theorem xv3 {α:Type} {r:α→α→Prop} (irr:∀ a,¬ r a a) (tr:∀ a b c,r a b→r b c→r a c):∀ {G H:List α},G.Pairwise r→H.Pairwise r→(∀ x,x ∈ G↔x ∈ H)→G=H
 | [],[],_,_,_=>rfl
 | [],y :: H,_,_,h=>absurd ((h y).2 (by simp)) (by simp)
 | x :: G,[],_,_,h=>absurd ((h x).1 (by simp)) (by simp)
 | x :: G,y :: H,hG,hH,h=>by
   obtain ⟨g1,g2⟩:=List.pairwise_cons.1 hG
   obtain ⟨h1,h2⟩:=List.pairwise_cons.1 hH
   have e:x=y:=by
    rcases List.mem_cons.1 ((h x).1 (by simp)) with e | hx
    ·exact e
    ·rcases List.mem_cons.1 ((h y).2 (by simp)) with e | hy
     all_goals grind
   subst e
   congr 1
   refine xv3 irr tr g2 h2 fun z=>⟨fun hz => ?_,fun hz => ?_⟩
   all_goals grind
theorem yu6 (h:zp5 G) (k:zp5 H) (hm:∀ v t,z99 G v t=z99 H v t):G=H:=
 xv3 (r:=fun a b:List Iv × v6=>g9 (r3 a.2) (r3 b.2)<0) (fun a ha=>by rw [zk4] at ha;omega) (fun _ _ _=>xi1) h.asc k.asc fun x=>⟨wj7 h k hm x,wj7 k h (fun v t=>(hm v t).symm) x⟩
def w62 (G:t8):Prop:=∀ x ∈ G,(t6 x.1∧x.1 ≠ [])∧s8 x.2∧(∀ y ∈ x.2,o5 y.2.1 y.2.2=true)∧x.2 ≠ []
theorem wj8 (hF:x9 F):w62 (zc9 F):=fun x hx=>by
 unfold zc9 at hx
 obtain ⟨y,hy,rfl⟩:=List.mem_map.1 hx
 obtain ⟨hm,hc⟩:=List.mem_filter.1 hy
 rw [Bool.and_eq_true,decide_eq_true_eq,decide_eq_true_eq] at hc
 obtain ⟨h1,h2⟩:=z57 (hF y hm).2
 exact ⟨⟨(hF y hm).1,hc.2⟩,h1,h2,hc.1⟩
theorem w62.good (h:w62 G):x9 G:=fun x hx=>⟨(h x hx).1.1,(h x hx).2.1⟩
structure yp2 (es:List El) (off:Nat) (O:t8):Prop where
 gr:zp5 O
 mem:∀ v t,z99 O v t=z99 ((es.take off).map (·.2)) v t
 lt:∀ x ∈ O,∀ e ∈ es.drop off,g9 (r3 x.2) (r3 e.2.2)<0
theorem yp2.start (es:List El):yp2 es 0 []:=⟨⟨List.Pairwise.nil,fun _ h=>(nomatch h)⟩,fun _ _=>rfl,fun _ h=>(nomatch h)⟩
theorem yp2.step {es:List El} {off:Nat} (h:yp2 es off O) (hc:w62 (es.map (·.2))) (hp:es.Pairwise fun a b=>vlt b a=false) {e0:El} (h0:es[off]? = some e0) (hs:1≤s)
 (h1:∀ i e,i<s→es[off+i]? = some e→vlt e0 e=false) (h2:∀ i e,s≤i→es[off+i]? = some e→vlt e0 e=true) :
 yp2 es (off+s) (O ++ [(z15 (((es.drop off).take s).map (·.2)),e0.2.2)])∧(∀ x ∈ ((es.drop off).take s).map (·.2),x.2=e0.2.2):=by
 have hin:∀ e ∈ (es.drop off).take s,∃ i,i<s∧es[off+i]? = some e:=fun e he=>by
  obtain ⟨i,hi⟩:=List.mem_iff_getElem?.1 he
  have hlt:=(List.getElem?_eq_some_iff.1 hi).1
  rw [List.length_take] at hlt
  rw [List.getElem?_take_of_lt (by omega),List.getElem?_drop] at hi
  exact ⟨i,by omega,hi⟩
 have hvec:∀ x ∈ ((es.drop off).take s).map (·.2),x.2=e0.2.2:=fun x hx=>by
  obtain ⟨e,he,rfl⟩:=List.mem_map.1 hx
  obtain ⟨i,hi,hei⟩:=hin e he
  have k1:=of_decide_eq_false (h1 i e hi hei)
  have k2:vlt e e0=false:=by
   rcases Nat.eq_zero_or_pos i with e' | hpos
   ·subst e'
    rw [Nat.add_zero,h0] at hei
    obtain rfl:=Option.some.inj hei
    exact x29 _
   ·obtain ⟨q1,q2⟩:=List.getElem?_eq_some_iff.1 h0
    obtain ⟨q3,q4⟩:=List.getElem?_eq_some_iff.1 hei
    have:=List.pairwise_iff_getElem.1 hp off (off+i) q1 q3 (by omega)
    rw [q2,q4] at this
    exact this
  have k2:=of_decide_eq_false k2
  have k3:=zf5 (r3 e0.2.2) (r3 e.2.2)
  exact (yw5 (by omega)).symm
 have hcg:w62 (((es.drop off).take s).map (·.2)):=fun x hx=>by
  obtain ⟨e,he,rfl⟩:=List.mem_map.1 hx
  exact hc _ (List.mem_map_of_mem (List.mem_of_mem_drop (List.mem_of_mem_take he)))
 have hd0:e0 ∈ es.drop off:=List.mem_iff_getElem?.2 ⟨0,by rw [List.getElem?_drop,Nat.add_zero];exact h0⟩
 have hm0:e0.2 ∈ ((es.drop off).take s).map (·.2):=List.mem_map_of_mem (List.mem_iff_getElem?.2 ⟨0,by rw [List.getElem?_take_of_lt (by omega),List.getElem?_drop,Nat.add_zero];exact h0⟩)
 have hc0:=hcg _ hm0
 have hig:t6 (z15 (((es.drop off).take s).map (·.2))):=zc1 _ [] z34 hcg.good
 have hih:∀ t,y9 (z15 (((es.drop off).take s).map (·.2))) t=(((es.drop off).take s).map (·.2)).any fun x=>y9 x.1 t:=fun t=>by
  unfold z15
  rw [zn7 t _ [] z34 hcg.good]
  rfl
 have hne:z15 (((es.drop off).take s).map (·.2)) ≠ []:=fun e=>by
  obtain ⟨z,hz⟩:=List.exists_mem_of_ne_nil _ hc0.1.2
  have k1:y9 e0.2.1 z.1=true:=(t7 _ _).2 ⟨z,hz,Int.le_refl _,z13 _ hc0.1.1.can z hz⟩
  have k2:=hih z.1
  rw [e,List.any_eq_true.2 ⟨e0.2,hm0,k1⟩] at k2
  cases k2
 refine ⟨⟨⟨List.pairwise_append.2 ⟨h.gr.asc,List.pairwise_singleton _ _,fun x hx y hy => ?_⟩,fun x hx => ?_⟩,fun v t => ?_,fun x hx e he => ?_⟩,hvec⟩
 ·obtain rfl:=List.mem_singleton.1 hy
  exact h.lt x hx e0 hd0
 ·rcases List.mem_append.1 hx with hx | hx
  ·exact h.gr.el x hx
  ·obtain rfl:=List.mem_singleton.1 hx
   exact ⟨⟨hig,hne⟩,hc0.2⟩
 ·rw [yb4,h.mem,List.take_add,List.map_append,yb4]
  congr 1
  rw [zl9]
  show ((decide (e0.2.2=v) && y9 (z15 _) t) || false)=_
  rw [Bool.or_false,hih]
  unfold z99
  by_cases hv:e0.2.2=v
  ·rw [decide_eq_true hv,Bool.true_and]
   refine Bool.eq_iff_iff.2 ⟨fun ha => ?_,fun ha => ?_⟩
   ·obtain ⟨x,hx,hxt⟩:=List.any_eq_true.1 ha
    exact List.any_eq_true.2 ⟨x,hx,by rw [hvec x hx,decide_eq_true hv,hxt];rfl⟩
   ·obtain ⟨x,hx,hxt⟩:=List.any_eq_true.1 ha
    rw [Bool.and_eq_true] at hxt
    exact List.any_eq_true.2 ⟨x,hx,hxt.2⟩
  ·rw [decide_eq_false hv,Bool.false_and]
   symm
   refine Bool.eq_false_iff.2 fun ha => ?_
   obtain ⟨x,hx,hxt⟩:=List.any_eq_true.1 ha
   rw [Bool.and_eq_true,decide_eq_true_eq,hvec x hx] at hxt
   exact hv hxt.1
 ·obtain ⟨i,hi⟩:=List.mem_iff_getElem?.1 he
  rw [List.getElem?_drop,Nat.add_assoc] at hi
  rcases List.mem_append.1 hx with hx | hx
  ·refine h.lt x hx e (List.mem_iff_getElem?.2 ⟨s+i,by rw [List.getElem?_drop];exact hi⟩)
  ·obtain rfl:=List.mem_singleton.1 hx
   exact of_decide_eq_true (h2 (s+i) e (by omega) hi)
theorem yp2.done {es:List El} (h:yp2 es es.length O) (hF:x9 F) (hp:(es.map (·.2)).Perm (zc9 F)):O=q6 F:=
 yu6 h.gr (ze1 hF) fun v t=>by
  rw [h.mem,List.take_of_length_le (Nat.le_refl _),xo1 hF]
  unfold z99
  refine Bool.eq_iff_iff.2 ⟨fun ha => ?_,fun ha => ?_⟩
  ·obtain ⟨x,hx,hxt⟩:=List.any_eq_true.1 ha
   exact List.any_eq_true.2 ⟨x,hp.mem_iff.1 hx,hxt⟩
  ·obtain ⟨x,hx,hxt⟩:=List.any_eq_true.1 ha
   exact List.any_eq_true.2 ⟨x,hp.mem_iff.2 hx,hxt⟩
theorem wj9 {q m:Nat} {es:List El} (hX:W.cell? ⟨X,0,none⟩=some (.slice (some ⟨g,q,none⟩) m c)) (hL:xf2 g B es W) (hq:q=o*2) {x y:El} (hx:es[o]? = some x) (hy:es[o+i]? = some y) (hm:0<m) (hi:i<m) :
 Calls Tryz.prog 85 #[.int .i64 i,.pointer (some ⟨X,0,none⟩)] W (q8 (vlt x y) W):=by
 have K:Calls Tryz.prog 83 #[.slice (some ⟨g,q,none⟩) m c,.int .i64 0,.int .i64 i] W (q8 (vlt x y) W):=xf3 hL hq (i:=0) (by rw [Nat.add_zero];exact hx) hy hm hi
 have K:=qh K
 clear hL hq hx hy
 go_enter Tryz.func85,Tryz.ntmps85
 go_wp2_with (first | (go_at_call 83;refine K.out.mono ?_;rintro e w1 ⟨rfl,h1⟩))
 go_ret
 exact ⟨rfl,h1⟩
theorem wu5 {es:List El} (h:xf2 g B es W) (hs:o+s≤es.length) (hc:s≤c) (hl:s≤100000):z08 W (.slice (some ⟨g,o*2,none⟩) s c) (((es.drop o).take s).map (·.2)):=by
 have hlen:(((es.drop o).take s).map (·.1)).length=s:=by rw [List.length_map,List.length_take,List.length_drop];omega
 have hlen2:(((es.drop o).take s).map (·.2)).length=s:=by rw [List.length_map,List.length_take,List.length_drop];omega
 have hget:∀ {i:Nat} {α:Type} {f:El→α} {z:α},(((es.drop o).take s).map f)[i]? = some z→∃ e,es[o+i]? = some e∧f e=z:=fun {i α f z} hz=>by
  rw [List.getElem?_map] at hz
  obtain ⟨e,he,rfl⟩:=Option.map_eq_some_iff.1 hz
  have hi:=(List.getElem?_eq_some_iff.1 he).1
  rw [List.length_take] at hi
  rw [List.getElem?_take_of_lt (by omega),List.getElem?_drop] at he
  exact ⟨e,he,rfl⟩
 refine ⟨⟨⟨((es.drop o).take s).map (·.1),⟨_,c,by rw [hlen],by rw [hlen];unfold maxLen;omega,fun _=>⟨g,o*2,rfl,fun i f hf => ?_⟩⟩,by rw [hlen,hlen2],fun i f x hf hx => ?_⟩,by rw [hlen2];exact hl⟩,a7 _ _ _ hc⟩
 ·obtain ⟨e,he,rfl⟩:=hget hf
  have:=h.1 _ _ he
  rw [show (o+i)*2=o*2+i*2 by omega] at this
  exact this
 ·obtain ⟨e,he,rfl⟩:=hget hf
  obtain ⟨e',he',rfl⟩:=hget hx
  rw [he] at he'
  obtain rfl:=Option.some.inj he'
  obtain ⟨k1,k2,k3,k4,_⟩:=h.2 e (List.mem_of_getElem? he)
  exact ⟨k1,k2,k3,k4⟩
def FrS (B:Nat) (e:El) (W:World):Prop:=FrE B e W∧i7 W B e.1.1 e.2.1.length
theorem o4.kc {av0:Nat→Prop} {v:Value} {es:List El} (h:o4 w av0 (FrS w.heap.size) v es W) (hl:es.length≤100000):z08 W v (es.map (·.2))∧y62 W w.heap.size W.heap.size v (shK (es.map (·.2))):=by
 have hfl:(es.map (·.1)).length=es.length:=List.length_map _
 have hrow:=h.row
 rw [← hfl] at hrow
 have hnl:(shK (es.map (·.2))).length=es.length:=by unfold shK;rw [List.length_map,List.length_map]
 have hrow2:=h.row
 refine ⟨⟨⟨⟨_,zc6.knoAt hrow,by simp,fun i f x hf hx => ?_⟩,by simpa using hl⟩,y10 hrow⟩,?_⟩
 ·rw [List.getElem?_map] at hf hx
  obtain ⟨e,he,rfl⟩:=Option.map_eq_some_iff.1 hf
  rw [he] at hx
  obtain rfl:=Option.some.inj hx
  obtain ⟨k1,k2,k3,k4,_⟩:=(h.el e (List.mem_of_getElem? he)).now.1
  exact ⟨k1,k2,k3,k4⟩
 ·rcases h.row.2 with ⟨rfl,h0⟩ | ⟨g,c,cur,rfl,hbg,hgg,hnc,hcm,_⟩
  ·exact ⟨none,0,by rw [hnl,h0],by rw [hnl,h0];exact Nat.zero_le _,fun hne=>absurd (List.eq_nil_of_length_eq_zero (by rw [hnl];exact h0)) hne⟩
  ·refine ⟨_,c,by rw [hnl],by rw [hnl];unfold maxLen;omega,fun _=>⟨g,0,rfl,hbg,(Array.getElem?_eq_some_iff.1 hgg).1,fun i x hx => ?_⟩⟩
   unfold shK at hx
   rw [List.getElem?_map,List.getElem?_map] at hx
   obtain ⟨y,hy,rfl⟩:=Option.map_eq_some_iff.1 hx
   obtain ⟨e,he,rfl⟩:=Option.map_eq_some_iff.1 hy
   obtain ⟨k1,k2⟩:=(h.el e (List.mem_of_getElem? he)).now
   obtain ⟨c0,c1⟩:=zf1 hrow2 hfl.symm i e.1 (by rw [List.getElem?_map,he];rfl)
   rw [Nat.zero_add]
   exact ⟨_,_,c0,c1,k2.num,k1.2.2.2.2.numW⟩
theorem zo6.hold {av:Nat→Prop} {es:List El} (h:zo6 g B av es W) (hX:av X) (hg:g≠X):j9 W (fun k=>k=X) (xf2 g B es):=
 ⟨fun k=>k<W.heap.size∧k≠X,fun k hk=>⟨hk.1,hk.2⟩,fun W' hap=>by
  have hq:∀ k,k<W.heap.size→¬ (k<W.heap.size∧k≠X)→av k:=fun k hk hn=>by
   have:k=X:=Classical.byContradiction fun hne=>hn ⟨hk,hne⟩
   exact this ▸ hX
  refine ⟨fun i e he => ?_,fun e he=>((h.el e he).mv hap hq fun k hk => .inl hk).now⟩
  obtain ⟨c0,c1⟩:=h.cell i e he
  exact ⟨hap.cell c0 fun hn=>hn ⟨h.lt,hg⟩,hap.cell c1 fun hn=>hn ⟨h.lt,hg⟩⟩⟩
def zp4 (es:List El) (o:Nat) (e0:El):Nat:=((es.drop o).takeWhile fun e => !vlt e0 e).length
theorem wk0 (es:List El) (o:Nat) (e0:El):o+zp4 es o e0≤max o es.length:=by
 have:=(List.takeWhile_sublist (fun e => !vlt e0 e) (l:=es.drop o)).length_le
 rw [List.length_drop] at this
 unfold zp4
 omega
theorem y29 {α:Type} (p:α→Bool):∀ (l:List α) (i:Nat) (x:α),i<(l.takeWhile p).length→l[i]? = some x→p x=true
 | [],i,x,h,_=>by simp at h
 | y :: l,i,x,h,hx=>by
   by_cases hy:p y=true
   ·rw [List.takeWhile_cons,if_pos hy] at h
    cases i with
    | zero=>simp at hx;rw [← hx];exact hy
    | succ i=>exact y29 p l i x (by simpa using h) (by simpa using hx)
   simp_all
theorem zw0 {α:Type} (p:α→Bool):∀ (l:List α) (x:α),l[(l.takeWhile p).length]? = some x→p x=false
 | [],x,h=>by simp at h
 | y :: l,x,h=>by
   by_cases hy:p y=true
   ·rw [List.takeWhile_cons,if_pos hy] at h
    exact zw0 p l x (by simpa using h)
   simp_all
theorem ym3 {es:List El} (hp:es.Pairwise fun a b=>vlt b a=false) {e0:El} {e:El} (he:es[o+i]? = some e):vlt e0 e=decide (zp4 es o e0≤i):=by
 have hd:(es.drop o)[i]? = some e:=by rw [List.getElem?_drop];exact he
 by_cases hi:zp4 es o e0≤i
 ·rw [decide_eq_true hi]
  obtain ⟨z,hz⟩:∃ z,es[o+zp4 es o e0]? = some z:=by
   have:=(List.getElem?_eq_some_iff.1 he).1
   exact ⟨es[o+zp4 es o e0]'(by omega),by simp [show o+zp4 es o e0<es.length by omega]⟩
  have hzd:(es.drop o)[zp4 es o e0]? = some z:=by rw [List.getElem?_drop];exact hz
  have h1:=zw0 _ _ _ hzd
  have h1:vlt e0 z=true:=by simpa using h1
  rcases Nat.eq_or_lt_of_le hi with e' | hlt
  ·rw [e'] at hz
   rw [hz] at he
   obtain rfl:=Option.some.inj he
   exact h1
  ·obtain ⟨q1,q2⟩:=List.getElem?_eq_some_iff.1 hz
   obtain ⟨q3,q4⟩:=List.getElem?_eq_some_iff.1 he
   have:=List.pairwise_iff_getElem.1 hp _ _ q1 q3 (by omega)
   rw [q2,q4] at this
   cases h2:vlt e0 e with
   | true=>rfl
   | false=>rw [xv9 h2 this] at h1;cases h1
 ·rw [decide_eq_false hi]
  have:=y29 (fun e => !vlt e0 e) _ i e (by unfold zp4 at hi;omega) hd
  simpa using this
theorem wk1 {es:List El} {e0:El} (h0:es[o]? = some e0):1≤zp4 es o e0:=by
 obtain ⟨h1,h2⟩:=List.getElem?_eq_some_iff.1 h0
 unfold zp4
 rw [List.drop_eq_getElem_cons h1,h2,List.takeWhile_cons,if_pos (by rw [x29];rfl)]
 simp
theorem xe1:∀ {A B:t8},A.Sublist B→(flatK A).length≤(flatK B).length:=fun h=>by
 unfold flatK
 induction h with
 | slnil=>exact Nat.le_refl _
 | cons x _ ih=>rw [List.flatMap_cons,List.length_append];omega
 | cons_cons x _ ih=>rw [List.flatMap_cons,List.flatMap_cons,List.length_append,List.length_append];omega
theorem yu7:∀ (F:t8),(flatK (zc9 F)).length≤(flatK F).length
 | []=>Nat.le_refl _
 | x :: F=>by
   have ih:=yu7 F
   grind [yu4,flatK,List.length_append]
def v24 (w:World) (X g:Nat) (es0:List El) (v:Value) (e:Ending) (w3:World):Prop:=e = .returned (.tuple #[])∧∃ es,es.Perm es0∧es.Pairwise (fun a b=>vlt b a=false)∧Below w.heap.size w w3∧(w3.cell? ⟨X,0,none⟩=some v∧w3.frozen? ⟨X,0,none⟩=false)∧j9 w3 (fun k=>k=X) (xf2 g w.heap.size es)
theorem wk2 {w1 W2:World} {pu:Option Addr} {cu:Nat} {es0:List El} (hR:o4 w (fun _=>False) (FrE w.heap.size) (.slice pu es0.length cu) es0 w1) (hn:es0.length≤100000) (hp:wl1 es0.length) (hW:w1.alloc (.cells #[.slice pu es0.length cu] 116)=W2) :
 ∃ g,(0<es0.length→pu=some ⟨g,0,none⟩)∧Calls Tryz.prog 82 #[.iface 116 (.slice pu es0.length cu),g6 (.slice pu es0.length cu)] W2 (v24 w w1.heap.size g es0 (.slice pu es0.length cu)):=by
 have hb:Below w1.heap.size w1 W2:=hW ▸ z8 w1 _
 have c0:W2.cell? ⟨w1.heap.size,0,none⟩=some (.slice pu es0.length cu):=by rw [← hW];simp
 have f0:W2.frozen? ⟨w1.heap.size,0,none⟩=false:=by rw [← hW];exact y30 _ _ _ _
 have hl2:w1.heap.size<W2.heap.size:=by rw [← hW];simp
 have hlow:=z7 hR.low hb
 rcases hR.row.2 with ⟨e0,h0⟩ | ⟨g,c,cur,e0,hbg,hgg,hnc,hcm,_⟩
 ·refine ⟨0,fun h=>absurd h0 (by omega),(xf1 W2 (by omega)).mono ?_⟩
  rintro e w3 ⟨rfl,h3⟩
  have he:es0 = []:=List.eq_nil_of_length_eq_zero h0
  refine ⟨rfl,es0,List.Perm.refl _,by rw [he];exact List.Pairwise.nil,z7 hlow h3,⟨z6 c0 h3,x6 f0 hl2 h3⟩,fun _=>False,fun _ h=>h.elim,fun W' _=>⟨fun i e h=>by rw [he] at h;simp at h,fun e h=>by rw [he] at h;cases h⟩⟩
 ·have e0':=e0
  injection e0' with e1 e2 e3
  have hgl:g<w1.heap.size:=(Array.getElem?_eq_some_iff.1 hgg).1
  have hfl:(es0.map (·.1)).length=es0.length:=List.length_map _
  rw [e1,e3] at c0 hR ⊢
  have hL:zo6 g w.heap.size (fun k=>k=g∨k=w1.heap.size) es0 W2:=by
   refine zo6.below (W:=w1) ⟨fun i e he=>zf1 hR.row hfl.symm i e.1 (by rw [List.getElem?_map,he];rfl),fun i=>hR.row.frozenAt i,fun e he => ?_,.inl rfl,hgl⟩ hb
   refine (hR.el e he).mv (q:=fun _=>False) (y5.refl _ _) (fun _ _ h=>h.elim) fun k hk => ?_
   rcases hk with rfl | rfl
   ·exact .inl (.inr rfl)
   ·exact .inr (Nat.le_refl _)
  refine ⟨g,fun _=>rfl,(x30 rfl hn hp hL).mono ?_⟩
  rintro e w3 ⟨rfl,es,k1,k2,k3,k4⟩
  have hne:¬ w1.heap.size=g:=by omega
  refine ⟨rfl,es,k1,k2,hlow.trans (k4.below hlow.size fun j hj e=>by omega),⟨k4.cell c0 hne,k4.free f0 hl2 hne⟩,k3.hold (.inr rfl) (by omega)⟩
end
section
open Go.RowKit
variable {w W W1:World} {v:Value} {X:Nat}
theorem o4.set {av0:Nat→Prop} {Q:El→World→Prop} {es:List El} (h:o4 w av0 Q v es W) (hX:av0 X) (hv:∀ j,v.ownBlock=some j→j≠X) (hw:w.heap.size≤X) (hap:y5 (fun k=>k=X) W W1):o4 w av0 Q v es W1:=
 ⟨z75 hap h.row fun j hj hn=>hv j hj hn,fun e he=>(h.el e he).mv hap (fun _ _ e => .inl (e ▸ hX)) fun _ h => .inl h,h.low.trans (hap.below h.low.size fun j hj e=>by omega)⟩
theorem w63 {av:Nat→Prop} {L:List Iv} (hi:v7 W1 v L) (hs:i7 W1 W.heap.size v L.length) (hav:∀ k,av k→k<W.heap.size) (h:Nat) (hh:h≤W.heap.size):j9 W1 av (fun W'=>v7 W' v L∧i7 W' h v L.length):=
 ⟨fun k=>W.heap.size≤k∧k<W1.heap.size,fun k hk=>⟨hk.2,fun ha=>by have:=hav k ha;omega⟩,fun W' hap =>
  ⟨zb4 hi hs.num hap fun k hB hT hq=>hq ⟨hB,hT⟩,z89 (hs.ap hap fun k hB hT hq=>hq ⟨hB,hT⟩) hh⟩⟩
structure v26 (w:World) (X g:Nat) (es:List El) (u:Value) (off m cc:Nat) (p:Option Addr) (ees:List El) (W:World):Prop where
 om:off+m=es.length
 mc:m≤cc
 sh:0<m→p=some ⟨g,off*2,none⟩
 cX:W.cell? ⟨X,0,none⟩=some (.slice p m cc)
 fX:W.frozen? ⟨X,0,none⟩=false
 row:o4 w (fun k=>k=X) (FrS w.heap.size) u ees W
 grp:yp2 es off (ees.map (·.2))
 hold:j9 W (fun k=>k=X∨u.ownBlock=some k) (xf2 g w.heap.size es)
 uX:∀ j,u.ownBlock=some j→j≠X
 len:ees.length≤off
theorem wk3 {w4 WA W0:World} {g off m cc s:Nat} {es ees:List El} {u vI:Value} {p:Option Addr} {G:t8} {e0:El} (hR:o4 w (fun k=>k=X) (FrS w.heap.size) u ees w4) (hH:j9 w4 (fun k=>k=X∨u.ownBlock=some k) (xf2 g w.heap.size es)) (he0:e0 ∈ es) (hX:X<w4.heap.size) (hwX:w.heap.size≤X) (huX:∀ j,u.ownBlock=some j→j≠X)
 (hW0:w4.heap.size=W0.heap.size) (hi1:v7 WA vI (z15 G)) (hi2:z02 vI) (hi3:i7 WA W0.heap.size vI (z15 G).length) (hA:Below w4.heap.size w4 WA) (hG:x9 G) (hl:ees.length≤1000) (hcX:w4.cell? ⟨X,0,none⟩=some (.slice p m cc)) (hfX:w4.frozen? ⟨X,0,none⟩=false) (hst:yp2 es (off+s) (ees.map (·.2) ++ [(z15 G,e0.2.2)]))
 (hom:off+m=es.length) (hsm:s≤m) (hs1:1≤s) (hmc:m≤cc) (hel:ees.length≤off) (T:TypeId) (hT:Tryz.prog.underlying T=some (.slice 46)) :
 ∃ v' W1,(Builtin.append_ #[T,T] T #[u,.slice (some ⟨WA.heap.size,0,none⟩) 1 1]).run Tryz.prog (WA.alloc (.cells #[vI,e0.1.2] 46)) = .ok v' W1∧(∃ g' c',v' = .slice (some ⟨g',0,none⟩) (ees.length+1) c')∧(W1.cell? ⟨X,0,none⟩=some (.slice p m cc)∧W1.frozen? ⟨X,0,none⟩=false) ∧
  ∀ p',(0<m - s→p'=some ⟨g,(off+s)*2,none⟩)→v26 w X g es v' (off+s) (m - s) (cc - s) p' (ees ++ [((vI,e0.1.2),(z15 G,e0.2.2))]) (W1.setCell ⟨X,0,none⟩ (.slice p' (m - s) (cc - s))):=by
 have hav:∀ k,(k=X∨u.ownBlock=some k)→k<W0.heap.size:=fun k hk=>by
  rw [← hW0]
  rcases hk with rfl | hk
  ·exact hX
  ·exact (g7 hR.row k hk).2
 have hIA:=w63 hi1 hi3 hav w.heap.size (hW0 ▸ hR.low.size)
 have hHA:=o3 hH hA
 have hRA:=hR.below hA
 have he:j9 WA (fun k=>k=X∨u.ownBlock=some k) (FrS w.heap.size ((vI,e0.1.2),(z15 G,e0.2.2))):=(hIA.and hHA).imp fun W' h=>by
  obtain ⟨_,_,_,k4,k5⟩:=h.2.2 e0 he0
  exact ⟨⟨h.1.1,(zc1 _ [] z34 hG).all,hi2,k4,k5⟩,h.1.2⟩
 have ho:vI.oneCell'=true∧e0.1.2.oneCell'=true:=by
  obtain ⟨_,_,e1,_⟩:=hi1
  obtain ⟨_,_,_,k4,_⟩:=hH.now.2 e0 he0
  obtain ⟨_,_,e2⟩:=k4.m.shape
  rw [e1,e2]
  exact ⟨rfl,rfl⟩
 obtain ⟨v',W1,hr,hsh,hR1,hap,mv,hnew⟩:=hRA.push he ho (by omega) hT T
 have hXA:X<WA.heap.size:=Nat.lt_of_lt_of_le hX hA.size
 have hnX:¬ u.ownBlock=some X:=fun e=>huX X e rfl
 have c1:=hap.cell (z6 hcX hA) hnX
 have f1:=hap.free (x6 hfX hX hA) hXA hnX
 have huX':∀ j,v'.ownBlock=some j→j≠X:=fun j hj=>by
  rcases hnew j hj with h | h
  ·exact huX j h
  ·omega
 refine ⟨v',W1,hr,hsh,⟨c1,f1⟩,fun p' hp' => ?_⟩
 have hapX:y5 (fun k=>k=X) W1 (W1.setCell ⟨X,0,none⟩ (.slice p' (m - s) (cc - s))):=z36 _ _ _ _
 refine ⟨by omega,by omega,hp',World.cell?_setCell_same _ _ _ c1,by rw [World.frozen?_setCell];exact f1,hR1.set rfl huX' hwX hapX,?_,(mv _ hHA).mv hapX (fun _ _ e => .inl e) fun _ h => .inl h,huX',by rw [List.length_append,List.length_singleton];omega⟩
 rw [List.map_append]
 exact hst
attribute [-go_sem] Builtin.append_
set_option maxRecDepth 100000 in
set_option maxHeartbeats 8000000 in
theorem yu8 (F:t8) (v:Value) (w:World) (hv:z08 w v F) (hF:x9 F) (hs:midI F) (hp:∀ n,n≤F.length→wl1 n):Calls Tryz.prog 44 #[v] w (xm1 (q6 F) w):=by
 obtain ⟨p,cap,rfl⟩:=hv.m.shape
 have K1:=qh (yp6 F _ w hv hF (by have:=hs.1;omega))
 have HF:=qh (And.intro hF (And.intro hs hp))
 clear hv hF hs hp
 go_enter Tryz.func44,Tryz.ntmps44
 go_wp2_with fail
 refine K1.out.mono ?_
 rintro e w1 ⟨u,es0,rfl,hR,hes⟩
 obtain ⟨pu,cu,hu⟩:=hR.shape
 subst hu
 have hel:es0.length≤F.length:=by
  have h1:es0.length=(zc9 F).length:=by rw [← hes,List.length_map]
  have h2:(zc9 F).length≤F.length:=by unfold zc9;rw [List.length_map];exact List.length_filter_le _ _
  omega
 have hl5:F.length≤500:=HF.out.2.1.1
 obtain ⟨X,hX⟩:∃ X,w1.heap.size=X:=⟨_,rfl⟩
 obtain ⟨W2,hW2⟩:∃ W2,w1.alloc (.cells #[.slice pu es0.length cu] 116)=W2:=⟨_,rfl⟩
 have c0:W2.cell? ⟨X,0,none⟩=some (.slice pu es0.length cu):=by rw [← hW2,← hX];simp
 obtain ⟨g,hg,K2⟩:=wk2 hR (by omega) (HF.out.2.2 _ hel) hW2
 rw [hX] at K2
 replace K2:=qh K2
 have HX:=qh (show w.heap.size≤X from hX ▸ hR.low.size)
 have HG:=qh (And.intro hg hes)
 have hcap:es0.length≤cu:=by
  rcases hR.row.2 with ⟨e0,h0⟩ | ⟨g,c,cur,e0,hbg,hgg,hnc,hcm,_⟩
  ·omega
  ·injection e0 with _ _ e3;omega
 have HCU:=qh (And.intro hcap hel)
 clear hR hg hes hcap
 go_wp2_with fail
 refine K2.out.mono ?_
 rintro e w3 ⟨rfl,es,hpm,hps,hlow,⟨cX,fX⟩,hH⟩
 have hl:=hpm.length_eq
 have HP:=qh (And.intro hps (show (es.map (·.2)).Perm (zc9 F) from HG.out.2 ▸ hpm.map (·.2)))
 have HI:=qh (show v26 w X g es (.slice none 0 0) 0 es0.length cu pu [] w3 from ⟨by omega,HCU.out.1,fun h=>by rw [Nat.zero_mul];exact HG.out.1 h,cX,fX,o4.nil hlow,yp2.start es,hH.mv (q:=fun _=>False) (y5.refl _ _) (fun _ _ h=>h.elim) (fun k hk=>hk.elim .inl fun h=>by cases h),fun j hj=>(by cases hj),Nat.le_refl _⟩)
 have HEL:=qh (show es.length≤500 by omega)
 clear hpm hps hlow cX fX hH hl c0 hW2 hel hX hl5
 go_wp2_with fail
 go_loopw [4] (fun u wr=>∃ off m cc p ees,v26 w X g es u off m cc p ees wr) (fun _ wr=>xq8 X wr)
 case atStart=>exact ⟨_,_,_,_,_,HI.out⟩
 case round =>
  clear HI
  obtain ⟨off,m,cc,pl,ees,hI⟩:=hrel
  obtain ⟨pr,cr,hu⟩:=hI.row.shape
  subst hu
  have cX:=hI.cX
  have hlen:=y00 cX
  have hm12:m≤500:=by have:=hI.om;have:=HEL.out;omega
  by_cases hm:0<m
  ·have hsh:=hI.sh hm
   subst hsh
   have hol:off<es.length:=by have:=hI.om;omega
   obtain ⟨e0,he0⟩:∃ e0,es[off]? = some e0:=⟨es[off],by simp [hol]⟩
   obtain ⟨s,hs⟩:∃ s,zp4 es off e0=s:=⟨_,rfl⟩
   have hs1:1≤s:=hs ▸ wk1 he0
   have hsm:s≤m:=by have:=wk0 es off e0;have:=hI.om;omega
   have hscc:s≤cc:=Nat.le_trans hsm hI.mc
   obtain ⟨G,hG⟩:∃ G,((es.drop off).take s).map (·.2)=G:=⟨_,rfl⟩
   have hck:w62 (es.map (·.2)):=fun x hx=>wj8 HF.out.1 x (HP.out.2.mem_iff.1 hx)
   obtain ⟨hst,hvec⟩:=hI.grp.step hck HP.out.1 he0 hs1 (fun i e hi he=>by rw [ym3 HP.out.1 he,hs];exact decide_eq_false (by omega)) (fun i e hi he=>by rw [ym3 HP.out.1 he,hs];exact decide_eq_true hi)
   rw [hG] at hst hvec
   have hGs:x9 G∧midI G:=by
    have h1:G.Sublist (es.map (·.2)):=by rw [← hG];exact ((List.take_sublist _ _).trans (List.drop_sublist _ _)).map _
    refine ⟨fun x hx=>hck.good x (h1.subset hx),?_,?_⟩
    ·have:=h1.length_le
     rw [List.length_map] at this
     have:=HEL.out
     omega
    ·have h2:=xe1 h1
     have h3:(flatK (es.map (·.2))).length=(flatK (zc9 F)).length:=by unfold flatK;exact (HP.out.2.flatMap_right _).length_eq
     have h4:=yu7 F
     have:=HF.out.2.1.2
     omega
   have K:=qh (xe8 m s X wr hsm (by omega) fun k W hk hb=>by
    have hek:off+k<es.length:=by have:=hI.om;omega
    have h1:=wj9 (c:=cc) (z6 cX hb) (o3 hI.hold hb).now (q:=off*2) rfl he0 (show es[off+k]? = some es[off+k] by simp [hek]) hm hk
    rw [ym3 HP.out.1 (show es[off+k]? = some es[off+k] by simp [hek]),hs] at h1
    exact h1)
   have HI:=qh hI
   have HS:=qh (And.intro hst (And.intro hGs (And.intro hG (And.intro he0 (And.intro hs1 hol)))))
   have i1:(0:Int)<(m:Int):=by omega
   have i2:(s:Int)≤(m:Int):=by omega
   clear hst hvec hGs hG he0 hs1 hol hck hI hs
   go_wp2_with fail
   refine K.out.mono ?_
   rintro e w4 ⟨rfl,h4⟩
   have hI:=HI.out
   have hH4:=o3 hI.hold h4
   have hR4:=hI.row.below h4
   have he0m:=List.mem_of_getElem? HS.out.2.2.2.1
   obtain ⟨_,cv⟩:=hH4.now.1 off e0 HS.out.2.2.2.1
   obtain ⟨pV,cV,eV⟩:=(hH4.now.2 e0 he0m).2.2.2.1.m.shape
   rw [eV] at cv
   replace cX:=z6 cX h4
   have hKG:∀ W',Below w4.heap.size w4 W'→z08 W' (.slice (some ⟨g,off*2,none⟩) s cc) G:=fun W' hb=>by
    have:=wu5 (o3 hH4 hb).now (o:=off) (s:=s) (c:=cc) (by have:=hI.om;omega) hscc (by omega)
    rw [HS.out.2.2.1] at this
    exact this
   have KI:=qh (fun W' (hb:Below w4.heap.size w4 W')=>yj2 G _ W' (hKG W' hb) HS.out.2.1.1 HS.out.2.1.2)
   have H4:=qh (And.intro h4 (And.intro hH4 (And.intro hR4 (And.intro eV he0m))))
   have hXl:X<wr.heap.size:=World.block_lt_of_cell? wr _ hI.cX
   have HFX:=qh (And.intro (x6 hI.fX hXl h4) hXl)
   have i3:(0:Int)≤(s:Int):=by omega
   have i4:s≤1000:=by omega
   clear hI hH4 hR4 he0m hKG h4 hXl eV
   go_wp2_with fail
   go_region_with (first
    | (go_at_call 86;refine (KI.out _ (by first | exact Below.refl _ _ | exact (Below.refl _ _).drew)).mono ?_;rintro e WA ⟨iv,rfl,hi1,hi2,hi3,hA⟩
       have hi1':=hi1
       obtain ⟨pI,cI,e5,_⟩:=hi1
       subst e5
       have hA':Below w4.heap.size w4 WA:=by first | exact hA | exact z7 (Below.refl _ _).drew hA
       have hI:=HI.out
       obtain ⟨v',WB,hr,⟨g',c',rfl⟩,⟨cX',fX'⟩,hfin⟩:=wk3 (m:=m) (cc:=cc) (s:=s) (p:=some ⟨g,off*2,none⟩) (W0:=w4) H4.out.2.2.1 H4.out.2.1 H4.out.2.2.2.2 (Nat.lt_of_lt_of_le HFX.out.2 H4.out.1.size) HX.out hI.uX rfl hi1' hi2 hi3 hA' HS.out.2.1.1 (by have:=hI.len;have:=hI.om;have:=HEL.out;omega) cX HFX.out.1 HS.out.1 hI.om hsm HS.out.2.2.2.2.1 hI.mc hI.len 23 Tryz.underlying23
       rw [H4.out.2.2.2.1] at hr
       have HFIN:=qh hfin
       have cv:=z6 cv hA'
       have cX:=z6 cX hA'
       clear hfin hI hA hi1' hi2 hi3))
   all_goals go_wp2_with fail
   all_goals
    have hmc:=HI.out.mc
    have hs1:=HS.out.2.2.2.2.1
    have hgw:=HFIN.out (if cc=s then some ⟨g,off*2,none⟩ else some ⟨g,off*2+s*2,none⟩) fun h=>by
     rw [if_neg (by omega),show off*2+s*2=(off+s)*2 by omega]
    have HGW:=qh hgw
    clear hgw
    go_roundw
    case rel=>exact ⟨_,_,_,_,_,HGW.out⟩
    case measure =>
     rw [y00 HGW.out.cX,hlen]
     omega
  ·have HI:=qh hI
   have i1:¬ (0:Int)<(m:Int):=by omega
   obtain rfl:m=0:=by omega
   clear hI
   go_wp2_with fail
   go_ret
   have hI:=HI.out
   have e1:off=es.length:=by have:=hI.om;omega
   have hgr:=hI.grp
   rw [e1] at hgr
   obtain ⟨k1,k2⟩:=hI.row.kc (by have:=hI.len;have:=HEL.out;omega)
   rw [hgr.done HF.out.1 HP.out.2] at k1 k2
   exact ⟨_,rfl,k1,k2,hI.row.low⟩
end
section
open Go.RowKit
variable {I:List Iv} {v:v6} {out:t8} {q:Nat}
theorem x22 {I:List Iv} {v:v6}:∀ {out:t8} {q:Nat},q≤out.length→(∀ (j:Nat) y,j<q→out[j]? = some y→g9 (r3 y.2) (r3 v)<0)→z49 I v out=out.take q++z49 I v (out.drop q)
 | _,0,_,_=>rfl
 | [],q+1,h,_=>by simp at h
 | y :: out,q+1,h,hb=>by
   have h0:=hb 0 y (Nat.succ_pos _) rfl
   rw [show z49 I v (y :: out)=y :: z49 I v out by rw [z49,if_pos h0],List.take_succ_cons,List.drop_succ_cons,List.cons_append,
    ← x22 (q:=q) (by simpa using h) fun j z hj hz=>hb (j+1) z (by omega) hz]
theorem wu6 (hb:∀ (j:Nat) y,j<q→out[j]? = some y→g9 (r3 y.2) (r3 v)<0) {y:List Iv × v6} (hy:out[q]? = some y) (h0:g9 (r3 y.2) (r3 v)=0) :
 z49 I v out=out.set q (orL y.1 I,v):=by grind [List.getElem?_eq_some_iff,List.drop_eq_getElem_cons,x22,z49,List.set_eq_take_append_cons_drop]
theorem wk4 (hq:q≤out.length) (hb:∀ (j:Nat) y,j<q→out[j]? = some y→g9 (r3 y.2) (r3 v)<0) (hn:∀ y,out[q]? = some y→0<g9 (r3 y.2) (r3 v)) :
 z49 I v out=out.take q++(I,v) :: out.drop q:=by
 rw [x22 hq hb]
 congr 1
 cases hd:out.drop q with
 | nil=>rfl
 | cons y l =>
   have hy:out[q]? = some y:=by
    have:=List.getElem?_drop (xs:=out) (i:=q) (j:=0)
    grind
   grind [z49]
theorem xo3 {F:t8} {k:Nat} {x:List Iv × v6} (h:F[k]? = some x):q6 (F.take (k+1))=z01 (q6 (F.take k)) x:=by grind [q6,List.take_add_one]
theorem xe2 {I:List Iv} {v:v6}:∀ (out:t8),(z49 I v out).length≤out.length+1
 | []=>by simp [z49]
 | y :: out=>by
   have:=xe2 (I:=I) (v:=v) out
   grind [z49]
theorem yu9:∀ (F out:t8),(F.foldl z01 out).length≤out.length+F.length
 | [],_=>Nat.le_refl _
 | x :: F,out=>by
   have h1:=yu9 F (z01 out x)
   grind [z01,xe2,List.length_cons]
theorem zy4 (F:t8):(q6 F).length≤F.length:=by grind [yu9,q6]
theorem wk5 (fs:List (Value × Value)) (q:Nat):(frC fs).take (q*2)=frC (fs.take q):=by
 induction fs generalizing q with
 | nil=>simp [frC]
 | cons f fs ih =>
   cases q with
   | zero=>simp [frC]
   | succ q =>
     have:=ih q
     unfold frC at this ⊢
     rw [List.take_succ_cons,List.flatMap_cons,List.flatMap_cons,show (q+1)*2=q*2+2 by omega]
     simp [this]
theorem wk6 (fs:List (Value × Value)) (q:Nat):(frC fs).drop (q*2)=frC (fs.drop q):=by
 induction fs generalizing q with
 | nil=>simp [frC]
 | cons f fs ih =>
   cases q with
   | zero=>simp [frC]
   | succ q =>
     have:=ih q
     unfold frC at this ⊢
     rw [List.drop_succ_cons,List.flatMap_cons,show (q+1)*2=q*2+2 by omega]
     simp [this]
section
variable {w W W1:World} {av0:Nat→Prop} {Q:El→World→Prop} {v:Value} {es:List El}
theorem o4.lit (hb:Below w.heap.size w W):o4 w av0 Q (.slice (some ⟨W.heap.size,0,none⟩) 0 0) [] (W.alloc (.cells #[] 46)):=
 ⟨World.ownsRow_lit W #[] 0 hb.size (Nat.zero_le _) rfl,fun _ he=>(nomatch he),z7 hb (z8 _ _)⟩
structure yc6 (W:World) (av:Nat→Prop) (Q:El→World→Prop) (s:Value) (es:List El):Prop where
 sh:(s = .slice none 0 0∧es = [])∨∃ (ad:Addr) (c:Nat),s = .slice (some ad) es.length c∧(∀ (j:Nat) u,(frC (es.map (·.1)))[j]? = some u→W.cell? (ad.add j)=some u)∧(es ≠ []→¬ av ad.block)
 one:∀ e ∈ es,e.1.1.oneCell'=true∧e.1.2.oneCell'=true
 el:∀ e ∈ es,j9 W av (Q e)
theorem yc6.one2 {av:Nat→Prop} {s:Value} {es2:List El} (h:yc6 W av Q s es2):∀ u ∈ frC (es2.map (·.1)),u.oneCell'=true:=fun u hu=>by
 unfold frC at hu
 obtain ⟨f,hf,hu⟩:=List.mem_flatMap.1 hu
 obtain ⟨e,he,rfl⟩:=List.mem_map.1 hf
 rcases List.mem_cons.1 hu with rfl | hu
 ·exact (h.one e he).1
 ·obtain rfl:=List.mem_singleton.1 hu;exact (h.one e he).2
theorem o4.app {P:Program} (hP:P=Tryz.prog) {ops:Array Oper} {o:Oper} {a:Act} {K:Act→World→Prop} {Q':Exit→Act→World→Prop} {E:Prop} (hgd:o.guard=none) (s x:Operand) (t:TypeId)
 (ho:o.op = .call { callee := .builtin .append,args:=#[s,x],argTypes:=#[t,t] }) (ht:P.underlying t=some (.slice 46)) (hs:a.eval s=v) (h:o4 w av0 Q v es W) {s2:Value} {es2:List El} (hx:a.eval x=s2)
 (h2:yc6 W (fun j=>av0 j∨v.ownBlock=some j) Q s2 es2) (hl:es.length+es2.length≤100000)
 (hk:∀ v' W1,o4 w av0 Q v' (es++es2) W1→y5 (fun j=>v.ownBlock=some j) W W1→(∀ P,j9 W (fun j=>av0 j∨v.ownBlock=some j) P→j9 W1 (fun j=>av0 j∨v'.ownBlock=some j) P)→(∀ j,v'.ownBlock=some j→v.ownBlock=some j∨W.heap.size≤j)→K (a.put o.dst v') W1) :
 if Region.wanted o (yielded ops a.tmps)=true then Oper.wp P o a W K Q' else E:=by
 subst hP
 obtain ⟨i0,hi',hz0,hz1,hz2⟩:=info_parts zw9
 rw [if_pos (by simp [Region.wanted,hgd])]
 rcases h2.sh with ⟨rfl,rfl⟩ | ⟨ad,c,rfl,hc,_⟩
 ·have hr:=run_append_owned_none (P:=Tryz.prog) W w.heap.size t o.type 46 i0 2 ht hi' v es.length (frC (es.map (·.1))) h.row
  unfold Oper.wp execOp
  simp only [ho,resolve,invoke,builtin,Sem.run_bind,Sem.run_pure,Result.andThen_ok,List.map_toArray,List.map_cons,List.map_nil,hs,hx,hr]
  exact hk v W (by rw [List.append_nil];exact h) (y5.refl _ _) (fun _ h=>h) fun j hj => .inl hj
 ·obtain ⟨v',W1,hr,h1,h2',_,h3⟩:=run_append_own_at (P:=Tryz.prog) W w.heap.size t o.type 46 i0 (.agg #[.slice none 0 0,.slice none 0 0]) 2 48 ht hi' hz0 hz1 hz2 rfl (by decide) v es.length (frC (es.map (·.1))) h.row ad es2.length c (frC (es2.map (·.1))) (by rw [yw9];simp) hc h2.one2 (by unfold maxLen;omega) (by omega) h.low.size
  have k1:y5 (fun j=>v.ownBlock=some j) W W1:=y5.of_grown h2' fun r hr=>hr
  have mv:∀ P,j9 W (fun j=>av0 j∨v.ownBlock=some j) P→j9 W1 (fun j=>av0 j∨v'.ownBlock=some j) P:=fun P hP=>hP.mv k1 (fun j _ hj => .inr hj) fun j hj=>by
   rcases hj with hj | hj
   ·exact .inl (.inl hj)
   ·rcases h3 with e' | e'
    ·exact .inl (.inr (e' ▸ hj))
    ·rw [e'] at hj
     have:=Option.some.inj hj
     exact .inr (by omega)
  unfold Oper.wp execOp
  simp only [ho,resolve,invoke,builtin,Sem.run_bind,Sem.run_pure,Result.andThen_ok,List.map_toArray,List.map_cons,List.map_nil,hs,hx,hr]
  refine hk v' W1 ⟨?_,fun e he => ?_,h.low.trans (k1.below h.low.size fun j hj hj2=>by have:=(g7 h.row j hj2).1;omega)⟩ k1 mv fun j hj=>by
   rcases h3 with e' | e'
   ·exact .inl (e' ▸ hj)
   ·rw [e'] at hj
    have:=Option.some.inj hj
    exact .inr (by omega)
  ·rw [List.length_append,List.map_append]
   simpa [frC] using h1
  ·rcases List.mem_append.1 he with he | he
   ·exact mv _ (h.el e he)
   ·exact mv _ (h2.el e he)
end
end
section
open Go.RowKit
variable {x:List Iv × v6}
theorem xe3 {I:List Iv} {v:v6} (hI:t6 I):∀ {out:t8},x9 out→(flatK (z49 I v out)).length≤(flatK out).length+I.length
 | [],_=>by simp [z49,flatK]
 | y :: out,h=>by
   have ho:x9 out:=fun x hx=>h x (List.mem_cons_of_mem _ hx)
   have ih:=xe3 (v:=v) hI ho
   have hy:=(h y (by simp)).1
   grind [zf3,z49,flatK,List.length_append]
theorem w64 {out:t8} (h:x9 out) (hx:t6 x.1):(flatK (z01 out x)).length≤(flatK out).length+x.1.length:=by grind [z01,xe3]
theorem zy5:∀ (F out:t8),x9 out→x9 F→(flatK (F.foldl z01 out)).length≤(flatK out).length+(flatK F).length
 | [],_,_,_=>by simp
 | x :: F,out,h,hF=>by
   have hx:=hF x (by simp)
   have h1:=zy5 F (z01 out x) (ze8 h hx) fun y hy=>hF y (List.mem_cons_of_mem _ hy)
   grind [w64,flatK,List.length_append]
theorem ym4:∀ (F out:t8),x9 out→x9 F→x9 (F.foldl z01 out)
 | [],_,h,_=>h
 | x :: F,out,h,hF=>ym4 F (z01 out x) (ze8 h (hF x (by simp))) fun y hy=>hF y (List.mem_cons_of_mem _ hy)
theorem xe4 {G:t8} (h:x ∈ G):x.1.length≤(flatK G).length:=by
 unfold flatK
 exact (List.sublist_flatten_of_mem (List.mem_map.2 ⟨x,h,rfl⟩)).length_le
theorem yv0:∀ (F out:t8) (P:v6→Prop),(∀ x ∈ out,P x.2)→(∀ x ∈ F,P (j8 x.2))→∀ x ∈ F.foldl z01 out,P x.2
 | [],_,_,h,_=>h
 | y :: F,out,P,h,hF=>by
   refine yv0 F (z01 out y) P (fun x hx => ?_) fun z hz=>hF z (List.mem_cons_of_mem _ hz)
   have ins:∀ out:t8,(∀ x ∈ out,P x.2)→∀ x ∈ z49 y.1 (j8 y.2) out,P x.2:=by
    intro out
    induction out with
    | nil=>intro _ x hx;obtain rfl:=List.mem_singleton.1 hx;exact hF y (by simp)
    | cons z out ih =>
      grind [z49,List.mem_cons_of_mem]
   grind [z01]
end
end Go.Proofs.YtchndljcahjldaaGreatDoor
