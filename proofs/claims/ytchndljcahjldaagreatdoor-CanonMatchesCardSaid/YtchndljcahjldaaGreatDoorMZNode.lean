/- The tree of package atoms in memory: a row of slices, each of the call's own. -/
import Derived.Test.YtchndljcahjldaaGreatDoorMZCells
namespace Go.Proofs.YtchndljcahjldaaGreatDoor
section
open Go.RowKit
abbrev z92:=(Value × Value) × v6
def avT (g n:Nat) (sv:Nat→Value) (k:Nat):Prop:=k=g∨∃ i,i<n∧(sv i).ownBlock=some k
def xe5 (f:Value × Value) (V:v6) (W:World):Prop:=v7 W f.1 zh1∧z02 f.1∧z30 W f.2 V
def upd {α:Type} (f:Nat→α) (i:Nat) (x:α):Nat→α:=fun k=>if k=i then x else f k
theorem zy6 {α:Type} (f:Nat→α) (i:Nat) (x:α):upd f i x i=x:=if_pos rfl
theorem zo4 {α:Type} (f:Nat→α) {i k:Nat} (x:α) (h:k≠i):upd f i x k=f k:=if_neg h
theorem xv4 {α:Type} (f:Nat→α) (n i:Nat) (x:α):((List.range n).map f).set i x=(List.range n).map (upd f i x):=by
 refine List.ext_getElem? fun j => ?_
 rw [List.getElem?_set,List.getElem?_map,List.getElem?_map]
 by_cases hj:j<n
 ·rw [List.getElem?_range hj]
  by_cases e:i=j
  ·subst e;rw [if_pos rfl,if_pos (by simpa using hj)];simp [upd]
  ·rw [if_neg e];simp [upd,Ne.symm e]
 ·have:(List.range n)[j]? = none:=by simp;omega
  rw [this]
  by_cases e:i=j
  ·subst e;rw [if_pos rfl,if_neg (by simpa using hj)];rfl
  ·rw [if_neg e];rfl
structure za4 (w:World) (g n:Nat) (sv:Nat→Value) (T:Nat→List z92) (W:World):Prop where
 row:W.ownsRow w.heap.size 23 1 (.slice (some ⟨g,0,none⟩) n n) n ((List.range n).map sv)
 rows:∀ i,i<n→W.ownsRow w.heap.size 46 2 (sv i) (T i).length (frC ((T i).map (·.1)))
 one:∀ i j b,i<n→j<n→(sv i).ownBlock=some b→(sv j).ownBlock=some b→i=j
 off:∀ i,i<n→(sv i).ownBlock≠some g
 el:∀ i,i<n→∀ e ∈ T i,j9 W (avT g n sv) (xe5 e.1 e.2)
 low:Below w.heap.size w W
section
variable {w W W1:World} {g n:Nat} {sv:Nat→Value} {T:Nat→List z92}
theorem za4.below (h:za4 w g n sv T W) (hb:Below W.heap.size W W1):za4 w g n sv T W1:=
 ⟨y6 h.row hb,fun i hi=>y6 (h.rows i hi) hb,h.one,h.off,fun i hi e he=>(h.el i hi e he).mv (y5.of_below (fun _=>False) hb) (fun _ _ h=>h.elim) fun _ hk => .inl hk,h.low.trans (hb.mono h.low.size)⟩
theorem o3 {av:Nat→Prop} {P:World→Prop} (h:j9 W av P) (hb:Below W.heap.size W W1):j9 W1 av P:=h.mv (y5.of_below (fun _=>False) hb) (fun _ _ h=>h.elim) fun _ hk => .inl hk
theorem za4.g_lt (h:za4 w g n sv T W):w.heap.size≤g∧g<W.heap.size:=h.row.lt g rfl
theorem za4.cell (h:za4 w g n sv T W) {i:Nat} (hi:i<n):W.cell? ⟨g,i,none⟩=some (sv i)∧W.frozen? ⟨g,i,none⟩=false:=by
 refine ⟨?_,h.row.frozenAt i⟩
 rw [h.row.cellAt i (by omega)]
 simp [hi]
theorem za4.av_lt (h:za4 w g n sv T W):∀ k,avT g n sv k→w.heap.size≤k∧k<W.heap.size:=fun k hk=>by
 rcases hk with rfl | ⟨i,hi,hb⟩
 ·exact h.g_lt
 ·exact g7 (h.rows i hi) k hb
theorem za4.shape (h:za4 w g n sv T W) {i:Nat} (hi:i<n):∃ p c,sv i = .slice p (T i).length c:=by
 obtain ⟨p,c,e,_⟩:=y8 (h.rows i hi)
 exact ⟨p,c,e⟩
theorem za4.push (h:za4 w g n sv T W) {i:Nat} (hi:i<n) {tmp:Obj} {v':Value} {e:z92}
 (hrow:W1.ownsRow w.heap.size 46 2 v' ((T i).length+1) (frC ((T i).map (·.1)) ++ [e.1.1,e.1.2])) (hg:(W.alloc tmp).grownBy W1 (sv i).ownBlock)
 (hat:v'.ownBlock=(sv i).ownBlock∨v'.ownBlock=some (W.alloc tmp).heap.size) (he:j9 W (avT g n sv) (xe5 e.1 e.2)) :
 (W1.cell? ⟨g,i,none⟩=some (sv i)∧W1.frozen? ⟨g,i,none⟩=false)∧za4 w g n (upd sv i v') (upd T i (T i ++ [e])) (W1.setCell ⟨g,i,none⟩ v') ∧
   ∀ P,j9 W (avT g n sv) P→j9 (W1.setCell ⟨g,i,none⟩ v') (avT g n (upd sv i v')) P:=by
 have hgl:=h.g_lt
 have hoff:=h.off i hi
 have k1:y5 (fun k=>(sv i).ownBlock=some k) W W1:=(y5.alloc _ W tmp).trans (y5.of_grown hg fun r hr=>hr)
 have k2:y5 (fun k=>k=g) W1 (W1.setCell ⟨g,i,none⟩ v'):=y5.set W1 v' rfl
 have k3:y5 (fun k=>k=g∨(sv i).ownBlock=some k) W (W1.setCell ⟨g,i,none⟩ v'):=(k1.mono fun k _ hk => .inr hk).trans (k2.mono fun k _ hk => .inl hk)
 have hv'g:v'.ownBlock≠some g:=by
  rcases hat with e' | e'
  ·rw [e'];exact hoff
  ·rw [e'];intro e2;have:=Option.some.inj e2;simp at this;omega
 have hnew:∀ b,v'.ownBlock=some b→(sv i).ownBlock=some b∨W.heap.size≤b:=fun b hb=>by
  rcases hat with e' | e'
  ·exact .inl (e' ▸ hb)
  ·rw [e'] at hb;have:=Option.some.inj hb;simp at this;exact .inr (by omega)
 have hq:∀ k,k<W.heap.size→(k=g∨(sv i).ownBlock=some k)→avT g n sv k:=fun k _ hk=>by
  rcases hk with hk | hk
  ·exact .inl hk
  ·exact .inr ⟨i,hi,hk⟩
 have hav:∀ k,avT g n (upd sv i v') k→avT g n sv k∨W.heap.size≤k:=fun k hk=>by
  rcases hk with hk | ⟨j,hj,hb⟩
  ·exact .inl (.inl hk)
  ·by_cases e':j=i
   ·subst e'
    rw [zy6] at hb
    rcases hnew k hb with h1 | h1
    ·exact .inl (.inr ⟨j,hj,h1⟩)
    ·exact .inr h1
   ·rw [zo4 _ _ e'] at hb
    exact .inl (.inr ⟨j,hj,hb⟩)
 have hc:=h.cell hi
 refine ⟨⟨k1.cell hc.1 hoff,k1.free hc.2 hgl.2 hoff⟩,⟨?_,fun j hj => ?_,fun a b x ha hb hxa hxb => ?_,fun j hj => ?_,fun j hj x hx => ?_,?_⟩,fun P hP=>hP.mv k3 hq hav⟩
 ·have h1:=z75 k1 h.row fun b hb=>by rw [show b=g from (Option.some.inj hb).symm];exact hoff
  rw [← xv4]
  exact (h1.stored i v').1
 ·by_cases e':j=i
  ·subst e'
   rw [zy6,zy6]
   refine z75 k2 ?_ fun b hb hbg=>hv'g (by rw [hb,hbg])
   rw [List.length_append,List.map_append]
   simpa [frC] using hrow
  ·rw [zo4 _ _ e',zo4 _ _ e']
   exact z75 k3 (h.rows j hj) fun b hb hbg=>by
    rcases hbg with hbg | hbg
    ·exact h.off j hj (by rw [hb,hbg])
    ·exact e' (h.one j i b hj hi hb hbg)
 ·have key:∀ c d,c<n→d<n→c≠i→d=i→(upd sv i v' c).ownBlock=some x→(upd sv i v' d).ownBlock=some x→False:=fun c d hcn hd hci hdi h1 h2=>by
   subst hdi
   rw [zo4 _ _ hci] at h1
   rw [zy6] at h2
   rcases hnew x h2 with h3 | h3
   ·exact hci (h.one c d x hcn hd h1 h3)
   ·have:=(g7 (h.rows c hcn) x h1).2;omega
  by_cases ea:a=i
  ·by_cases eb:b=i
   ·rw [ea,eb]
   ·exact (key b a hb ha eb ea hxb hxa).elim
  ·by_cases eb:b=i
   ·exact (key a b ha hb ea eb hxa hxb).elim
   ·rw [zo4 _ _ ea] at hxa
    rw [zo4 _ _ eb] at hxb
    exact h.one a b x ha hb hxa hxb
 ·by_cases e':j=i
  ·subst e';rw [zy6];exact hv'g
  ·rw [zo4 _ _ e'];exact h.off j hj
 ·by_cases e':j=i
  ·subst e'
   rw [zy6] at hx
   rcases List.mem_append.1 hx with hx | hx
   ·exact (h.el j hj x hx).mv k3 hq hav
   ·obtain rfl:=List.mem_singleton.1 hx
    exact he.mv k3 hq hav
  ·rw [zo4 _ _ e'] at hx
   exact (h.el j hj x hx).mv k3 hq hav
 ·exact h.low.trans (k3.below h.low.size fun k hk hh=>by
   rcases hh with hh | hh
   ·omega
   ·have:=(g7 (h.rows i hi) k hh).1;omega)
end
theorem j9.and {W:World} {av:Nat→Prop} {P Q:World→Prop} (h:j9 W av P) (k:j9 W av Q):j9 W av (fun W'=>P W'∧Q W'):=by
 obtain ⟨f,f1,f2⟩:=h
 obtain ⟨g,g1,g2⟩:=k
 exact ⟨fun j=>f j∨g j,fun j hj=>hj.elim (f1 j) (g1 j),fun W' hW'=>⟨f2 W' (hW'.mono fun j _ hn hf=>hn (.inl hf)),g2 W' (hW'.mono fun j _ hn hg=>hn (.inr hg))⟩⟩
theorem j9.imp {W:World} {av:Nat→Prop} {P Q:World→Prop} (h:j9 W av P) (k:∀ W',P W'→Q W'):j9 W av Q:=by
 obtain ⟨f,f1,f2⟩:=h
 exact ⟨f,f1,fun W' hW'=>k W' (f2 W' hW')⟩
def z17 (w:World) (g n:Nat) (Vs:Nat→List (v6)) (Pr:World→Prop) (W:World):Prop:=∃ sv T,za4 w g n sv T W∧(∀ i,i<n→(T i).map (·.2)=Vs i)∧j9 W (avT g n sv) Pr
section
variable {w W W1:World} {g n:Nat} {Vs:Nat→List (v6)} {Pr:World→Prop}
theorem z17.below (h:z17 w g n Vs Pr W) (hb:Below W.heap.size W W1):z17 w g n Vs Pr W1:=by
 obtain ⟨sv,T,h1,h2,h3⟩:=h
 exact ⟨sv,T,h1.below hb,h2,o3 h3 hb⟩
theorem z17.now (h:z17 w g n Vs Pr W):Pr W:=by
 obtain ⟨sv,T,h1,h2,h3⟩:=h
 exact h3.now
theorem z17.imp {Pr':World→Prop} (h:z17 w g n Vs Pr W) (k:∀ W',Pr W'→Pr' W'):z17 w g n Vs Pr' W:=by
 obtain ⟨sv,T,h1,h2,h3⟩:=h
 exact ⟨sv,T,h1,h2,h3.imp k⟩
theorem z17.low (h:z17 w g n Vs Pr W):Below w.heap.size w W:=by
 obtain ⟨sv,T,h1,h2,h3⟩:=h
 exact h1.low
theorem z17.congr {Vs':Nat→List (v6)} (h:z17 w g n Vs Pr W) (k:∀ i,i<n→Vs i=Vs' i):z17 w g n Vs' Pr W:=by
 obtain ⟨sv,T,h1,h2,h3⟩:=h
 exact ⟨sv,T,h1,fun i hi=>(h2 i hi).trans (k i hi),h3⟩
theorem z17.alloc (h:z17 w g n Vs Pr W) {cs:Array Value} {t:TypeId} (hW:W.alloc (.cells cs t)=W1):z17 w g n Vs (fun W'=>Pr W'∧∀ (i:Nat) u,cs[i]? = some u→W'.cell? ⟨W.heap.size,i,none⟩=some u) W1:=by
 obtain ⟨sv,T,h1,h2,h3⟩:=h
 have hb:Below W.heap.size W W1:=hW ▸ z8 W _
 refine ⟨sv,T,h1.below hb,h2,(o3 h3 hb).and ⟨fun k=>k=W.heap.size,fun k hk=>⟨?_,fun ha => ?_⟩,fun W' hap i u hu => ?_⟩⟩
 ·rw [hk,← hW];simp
 ·have:=(h1.av_lt k ha).2;omega
 ·refine hap.cell (a:=⟨W.heap.size,i,none⟩) ?_ (fun hn=>hn rfl)
  rw [← hW,World.cell?_alloc_at _ _ _ _ rfl]
  simpa using hu
end
theorem v99 {W:World} {b:Nat} {x y:Value} (h0:W.cell? ⟨b,0,none⟩=some x) (h1:W.cell? ⟨b,1,none⟩=some y):(loadVar 46 ⟨b,0,none⟩).run Tryz.prog W = .ok (.agg #[x,y]) W:=by
 have h2:=Tryz.isAgg46
 go_simp
def v27 (u:Value) (w:World) (e:Ending) (w':World):Prop:=∃ k,e = .returned (.agg #[.slice (some ⟨k,0,none⟩) 1 1,u])∧(w.heap.size≤k∧k<w'.heap.size∧w'.cell? ⟨k,0,none⟩=some (.int .u64 0)∧w'.cell? ⟨k,1,none⟩=some (.int .u64 18446744073709551615))∧Below w.heap.size w w'
set_option maxRecDepth 100000 in
theorem xv5 (p:Option Addr) (m c:Nat) (w:World):Calls Tryz.prog 134 #[.slice p m c] w (v27 (.slice p m c) w):=by
 go_enter Tryz.func134,Tryz.ntmps134
 go_wp2_with fail
 refine bodyPost_ret (y49 rfl _ _ _ ⟨w.heap.size,0,none⟩ _ rfl (v99 (x := .slice (some ⟨w.heap.size+1,0,none⟩) 1 1) (y := .slice p m c) (z6 (by simp) (z8 _ _)) (z6 (by simp) (z8 _ _)))) rfl ?_
 refine ⟨w.heap.size+1,rfl,⟨by omega,by simp,?_,?_⟩,z7 (z8 _ _) (z8 _ _)⟩
 ·rw [World.cell?_alloc_at _ _ _ _ (by simp only [World.size_alloc])];rfl
 ·rw [World.cell?_alloc_at _ _ _ _ (by simp only [World.size_alloc])];rfl
end
section
open Go.RowKit
variable {w W:World} {g n l r:Nat} {V:v6}
def xo4 (ats:Array TypeId) (ty:TypeId) (args:Array Value):Sem Next:=do pure (.value (← Builtin.append_ ats ty args))
theorem x24 (ats:Array TypeId) (ty:TypeId) (cs:Array Bool) (args:Array Value):builtin .append ats ty cs args=xo4 ats ty args:=rfl
theorem wk7 {P:Program} {ats:Array TypeId} {ty:TypeId} {args:Array Value} {w':World} {v:Value} (h:(Builtin.append_ ats ty args).run P w = .ok v w'):(xo4 ats ty args).run P w = .ok (.value v) w':=by
 unfold xo4
 simp only [Sem.run_bind,Sem.run_pure,h,Result.andThen_ok]
attribute [local go_sem ↓ high] x24
def va0 (w:World) (g n:Nat) (Vs:Nat→List (v6)) (V:v6) (C:Nat→Bool) (Pr:World→Prop) (e:Ending) (W':World):Prop:=
 e = .returned (.tuple #[])∧z17 w g n (fun i=>if C i=true then Vs i ++ [V] else Vs i) Pr W'
def y79 (T:Nat→List z92) (e:z92) (D:Nat→Bool) (i:Nat):List z92:=if D i=true then T i ++ [e] else T i
theorem ym5 (T:Nat→List z92) (e:z92) (D:Nat→Bool) {j:Nat} (h:D j=false):upd (y79 T e D) j (y79 T e D j ++ [e])=y79 T e (fun i=>D i || decide (i=j)):=by
 refine funext fun i => ?_
 unfold upd y79
 by_cases e':i=j
 ·subst e'
  rw [if_pos rfl,h]
  simp
 ·rw [if_neg e']
  simp [e']
structure wk8 (w:World) (g n:Nat) (T:Nat→List z92) (e:z92) (hb:Nat) (C:Nat→Bool) (Pr:World→Prop) (l r:Nat) (W:World):Prop where
 tree:∃ sv D,za4 w g n sv (y79 T e D) W∧(∀ i,D i=true→r≤i)∧(∃ f,r≤f∧∀ i,C i=(D i || ze0 f l r i))∧j9 W (avT g n sv) (fun W'=>(xe5 e.1 e.2 W'∧W'.cell? ⟨hb,0,none⟩=some e.1.1∧W'.cell? ⟨hb,1,none⟩=some e.1.2)∧Pr W')
 rl:r≤2*l
 rn:r≤n
 l1:1≤l
theorem wk8.below {W1:World} {hb:Nat} {T:Nat→List z92} {e:z92} {C:Nat→Bool} {Pr:World→Prop} (h:wk8 w g n T e hb C Pr l r W) (hW:Below W.heap.size W W1):wk8 w g n T e hb C Pr l r W1:=by
 obtain ⟨sv,D,h1,h2,h3,h4⟩:=h.tree
 exact ⟨⟨sv,D,h1.below hW,h2,h3,o3 h4 hW⟩,h.rl,h.rn,h.l1⟩
theorem ym6 {sv:Nat→Value} {T:Nat→List z92} (h:za4 w g n sv T W) {i:Nat} (hi:i<n) {s u:Value} (hl:(T i).length≤100000) (ho:s.oneCell'=true∧u.oneCell'=true) (P:World→Prop) (hP:∀ W',P W'→xe5 (s,u) V W') (hh:j9 W (avT g n sv) P) (ty:TypeId) :
 ∃ v' W1,(xo4 #[23,23] ty #[sv i,.slice (some ⟨W.heap.size,0,none⟩) 1 1]).run Tryz.prog (W.alloc (.cells #[s,u] 46)) = .ok (.value v') W1∧(∃ g' c',v' = .slice (some ⟨g',0,none⟩) ((T i).length+1) c') ∧
  (W1.cell? ⟨g,i,none⟩=some (sv i)∧W1.frozen? ⟨g,i,none⟩=false)∧za4 w g n (upd sv i v') (upd T i (T i ++ [((s,u),V)])) (W1.setCell ⟨g,i,none⟩ v')∧j9 (W1.setCell ⟨g,i,none⟩ v') (avT g n (upd sv i v')) P:=by
 obtain ⟨i0,hi',hz0,hz1,hz2⟩:=info_parts zw9
 have hrow:=y6 (h.rows i hi) (z8 W (.cells #[s,u] 46))
 obtain ⟨v',W1,hr,h1,h2,_,h3⟩:=run_append_own_at (P:=Tryz.prog) (W.alloc (.cells #[s,u] 46)) w.heap.size 23 ty 46 i0 (.agg #[.slice none 0 0,.slice none 0 0]) 2 48 Tryz.underlying23 hi' hz0 hz1 hz2 rfl (by decide) (sv i) (T i).length (frC ((T i).map (·.1))) hrow ⟨W.heap.size,0,none⟩ 1 1 [s,u] rfl (za6 _ _ _ _) (fun x hx=>by
  rcases List.mem_cons.1 hx with rfl | hx
  ·exact ho.1
  ·obtain rfl:=List.mem_singleton.1 hx;exact ho.2) (by unfold maxLen;omega) (by omega) (Nat.le_trans h.low.size (z8 _ _).size)
 obtain ⟨g',c',e⟩:=ownsRow_succ h1
 obtain ⟨k1,k2,k3⟩:=h.push hi (e:=((s,u),V)) h1 h2 h3 (by
  obtain ⟨fp,q1,q2⟩:=hh
  exact ⟨fp,q1,fun W' hW'=>hP W' (q2 W' hW')⟩)
 exact ⟨v',W1,wk7 hr,⟨g',c',e⟩,k1,k2,k3 P hh⟩
theorem y30 (w:World) (cs:Array Value) (t:TypeId) (i:Nat):(w.alloc (.cells cs t)).frozen? ⟨w.heap.size,i,none⟩=false:=by
 have h:=World.alloc_heap_new w (.cells cs t)
 unfold World.frozen?
 rw [h]
 simp
theorem za0 (m:Nat):(m:Int).tdiv 2=((m / 2:Nat):Int):=rfl
theorem zm0 (m:Nat):(m:Int).tmod 2=((m % 2:Nat):Int):=rfl
theorem wk9 {C D:Nat→Bool} {f:Nat} (h2:∀ i,D i=true→r≤i) (h3:r≤f) (h4:∀ i,C i=(D i || ze0 f l r i)) (hlr:l<r) (rl:r≤2*l) :
 (∀ i,(D i || (decide (l % 2=1) && decide (i=l)) || (decide (r % 2=1) && decide (i=r - 1)))=true→r / 2≤i)∧∃ f',r / 2≤f'∧∀ i,C i=((D i || (decide (l % 2=1) && decide (i=l)) || (decide (r % 2=1) && decide (i=r - 1))) || ze0 f' ((l+1) / 2) (r / 2) i):=by
 obtain ⟨f,rfl⟩:∃ f',f=f'+1:=⟨f - 1,by omega⟩
 refine ⟨fun i hi => ?_,f,by omega,fun i => ?_⟩
 ·grind
 ·rw [h4 i,ze0,decide_eq_true hlr,Bool.true_and,show decide (i+1=r)=decide (i=r - 1) from decide_eq_decide.2 (by omega),Bool.or_assoc,Bool.or_assoc,Bool.or_assoc]
set_option maxRecDepth 100000 in
set_option maxHeartbeats 8000000 in
theorem wu7 {n2:Nat} {Vs:Nat→List (v6)} {Pr:World→Prop} (h:z17 w g n2 Vs Pr W) (hn2:n2=2*n) (hn:n≤1000000) (hl:∀ i,i<n2→(Vs i).length≤50000) (px:Option Addr) (mx cx:Nat) {p:Option Addr} {m c:Nat} (hv:z30 w (.slice p m c) V) {a b:Nat} (hab:a≤b) (hbn:b≤n) (h1:1≤n) :
 Calls Tryz.prog 79 #[.slice (some ⟨g,0,none⟩) n2 n2,.agg #[.slice px mx cx,.slice p m c],.int .i64 a,.int .i64 b] W (va0 w g n2 Vs V (ze0 n2 (a+n) (b+n)) Pr):=by
 obtain ⟨sv0,T,hT,hTV,hPr⟩:=h
 obtain ⟨hb,hhb⟩:∃ hb,W.heap.size=hb:=⟨_,rfl⟩
 obtain ⟨W0,hW0⟩:∃ W0,W.alloc (.cells #[.slice px mx cx,.slice p m c] 46)=W0:=⟨_,rfl⟩
 have hb0:Below W.heap.size W W0:=hW0 ▸ z8 W _
 have c0:W0.cell? ⟨W.heap.size,0,none⟩=some (.slice px mx cx):=by rw [← hW0];simp
 have c1:W0.cell? ⟨W.heap.size,1,none⟩=some (.slice p m c):=by rw [← hW0];simp
 have f0:W0.frozen? ⟨W.heap.size,0,none⟩=false:=by rw [← hW0];exact y30 _ _ _ _
 have f1:W0.frozen? ⟨W.heap.size,1,none⟩=false:=by rw [← hW0];exact y30 _ _ _ _
 have hlt0:W.heap.size<W0.heap.size:=by rw [← hW0];simp
 rw [hhb] at c0 c1 f0 f1 hlt0 hb0
 have HHB:=qh hhb
 have KA:=qh (xv5 p m c W0)
 have HC:=qh (And.intro c0 (And.intro c1 (And.intro f0 (And.intro f1 hlt0))))
 have HT:=qh (And.intro hT (And.intro hTV (And.intro hb0 hv)))
 have HPR:=qh hPr
 have HN:=qh (And.intro hn2 (And.intro hab (And.intro hbn (And.intro hl h1))))
 clear hPr hT hTV hb0 hv hn2 hab hbn hl c1 f0 f1 hlt0 c0 h1
 have c1:=HC.out.2.1
 go_enter Tryz.func79,Tryz.ntmps79
 go_wp2_with fail
 refine KA.out.mono ?_
 rintro e W1 ⟨k,rfl,⟨hk1,hk2,hk3,hk4⟩,h1⟩
 have d0:=z6 HC.out.1 h1
 have d1:=z6 HC.out.2.1 h1
 have g0:=x6 HC.out.2.2.1 HC.out.2.2.2.2 h1
 have g1:=x6 HC.out.2.2.2.1 HC.out.2.2.2.2 h1
 have d1':(W1.setCell ⟨hb,0,none⟩ (.slice (some ⟨k,0,none⟩) 1 1)).cell? ⟨hb,1,none⟩=some (.slice p m c):=(World.cell?_setCell_other _ _ _ _ (by intro e;have:=congrArg Addr.off e;simp at this)).trans d1
 have H1:=qh (And.intro h1 (And.intro hk1 (And.intro hk2 (And.intro hk3 hk4))))
 clear h1 hk1 hk2 hk3 hk4 c1
 have e1:(n2:Int).tdiv 2=(n:Int):=by rw [za0,HN.out.1];omega
 obtain ⟨l0,hl0⟩:∃ l0,a+n=l0:=⟨_,rfl⟩
 obtain ⟨r0,hr0⟩:∃ r0,b+n=r0:=⟨_,rfl⟩
 have e2:(a:Int)+(n:Int)=(l0:Int):=by omega
 have e3:(b:Int)+(n:Int)=(r0:Int):=by omega
 have hl0b:l0≤2000000:=by have:=HN.out.2;omega
 have hr0b:r0≤2000000:=by have:=HN.out.2;omega
 have HL:=qh (And.intro hl0 hr0);clear hl0 hr0
 go_wp2_with fail
 obtain ⟨W2,hW2⟩:∃ W2,((W1.setCell ⟨hb,0,none⟩ (.slice (some ⟨k,0,none⟩) 1 1)).setCell ⟨hb,1,none⟩ (.slice p m c))=W2:=⟨_,rfl⟩
 rw [hW2]
 have hI:wk8 w g n2 T ((.slice (some ⟨k,0,none⟩) 1 1,.slice p m c),V) hb (ze0 n2 (a+n) (b+n)) Pr l0 r0 W2:=by
  obtain ⟨t1,t2,t3,t4⟩:=HT.out
  obtain ⟨q1,q2,q3,q4,q5⟩:=H1.out
  obtain ⟨n1,n3,n4,n5,n6⟩:=HN.out
  have ap:y5 (fun j=>j=hb) W1 W2:=hW2 ▸ (z36 _ _ _ _).trans (z36 _ _ _ _)
  have hsz:=t3.size
  rw [HHB.out] at hsz
  have hlow:Below W.heap.size W W2:=by
   rw [HHB.out]
   exact (t3.trans (q1.mono hsz)).trans (ap.below (Nat.le_trans hsz q1.size) fun j hj e=>by omega)
  have hw2:W1.heap.size≤W2.heap.size:=ap.size
  have hav:=t1.av_lt
  have kk0:W2.cell? ⟨k,0,none⟩=some (.int .u64 0):=ap.cell q4 (by show ¬ k=hb;have:=HC.out.2.2.2.2;omega)
  have kk1:W2.cell? ⟨k,1,none⟩=some (.int .u64 18446744073709551615):=ap.cell q5 (by show ¬ k=hb;have:=HC.out.2.2.2.2;omega)
  have z0:W2.cell? ⟨hb,0,none⟩=some (.slice (some ⟨k,0,none⟩) 1 1):=by
   rw [← hW2,World.cell?_setCell_other _ _ _ _ (by intro e;have:=congrArg Addr.off e;simp at this)]
   exact World.cell?_setCell_same _ _ _ d0
  have z1:W2.cell? ⟨hb,1,none⟩=some (.slice p m c):=by rw [← hW2];exact World.cell?_setCell_same _ _ _ d1'
  have hbl:hb<W2.heap.size:=World.block_lt_of_cell? W2 _ z0
  have hlw:Below w.heap.size w W2:=t1.low.trans (hlow.mono t1.low.size)
  refine ⟨⟨sv0,fun _=>false,?_,fun i hi=>by simp at hi,⟨n2,by omega,fun i=>by rw [Bool.false_or,HL.out.1,HL.out.2]⟩,j9.and ⟨fun j=>j<w.heap.size∨j=k∨j=hb,fun j hj=>⟨?_,fun hj2 => ?_⟩,fun W' hap => ?_⟩ (o3 HPR.out hlow)⟩,by omega,by omega,by omega⟩
  ·have e:y79 T ((.slice (some ⟨k,0,none⟩) 1 1,.slice p m c),V) (fun _=>false)=T:=funext fun i=>by unfold y79;rw [if_neg (by simp)]
   rw [e]
   exact t1.below hlow
  ·have:=hlw.size
   rcases hj with hj | hj | hj <;> omega
  ·have:=hav j hj2
   have h6:=HHB.out
   have h7:=HC.out.2.2.2.2
   rcases hj with hj | hj | hj <;> omega
  ·have r0:W'.cell? ⟨k,0,none⟩=some (.int .u64 0):=hap.cell kk0 (fun h=>h (.inr (.inl rfl)))
   have r1:W'.cell? ⟨k,1,none⟩=some (.int .u64 18446744073709551615):=hap.cell kk1 (fun h=>h (.inr (.inl rfl)))
   refine ⟨⟨⟨_,_,rfl,by simp [zh1],fun _=>⟨k,0,rfl,fun i x hx => ?_⟩⟩,a7 _ _ _ (Nat.le_refl _),t4.call (hlw.trans (hap.below hlw.size fun j hj hn=>hn (.inl hj)))⟩,hap.cell z0 (fun h=>h (.inr (.inr rfl))),hap.cell z1 (fun h=>h (.inr (.inr rfl)))⟩
   match i,hx with
   | 0,hx =>
     obtain rfl:(0,UM)=x:=by simpa [zh1] using hx
     exact ⟨r0,r1⟩
 have HI:=qh hI
 clear hI hW2 d0 d1 g0 g1 d1'
 go_loopw [2,3] (fun vl vr wr=>∃ l r:Nat,vl = .int .i64 l∧vr = .int .i64 r∧l≤2000000∧r≤2000000∧wk8 w g n2 T ((.slice (some ⟨k,0,none⟩) 1 1,.slice p m c),V) hb (ze0 n2 (a+n) (b+n)) Pr l r wr) (fun _ vr _=>(intOf vr).toNat)
 case atStart=>exact ⟨l0,r0,rfl,rfl,hl0b,hr0b,HI.out⟩
 case round =>
  clear HI e2 e3 hl0b hr0b
  obtain ⟨l,r,rfl,rfl,hlb,hrb,hI⟩:=hrel
  by_cases hlr:l<r
  ·obtain ⟨⟨sv,D,t1,t2,⟨f,t3,t4⟩,t5⟩,rl,rn,l1⟩:=hI
   obtain ⟨k1,k2⟩:=wk9 t2 t3 t4 hlr rl
   have hlen:∀ i,i<n2→∀ D':Nat→Bool,(y79 T ((.slice (some ⟨k,0,none⟩) 1 1,.slice p m c),V) D' i).length≤100000:=fun i hi D'=>by
    have h1:=HN.out.2.2.2.1 i hi
    rw [← HT.out.2.1 i hi,List.length_map] at h1
    unfold y79
    split
    ·rw [List.length_append,List.length_singleton];omega
    ·omega
   have HLN:=qh hlen;clear hlen
   have HK:=qh (And.intro k1 k2);clear k1 k2 t3 t4
   have HRL:=qh (And.intro rl (And.intro rn l1))
   by_cases hlo:l % 2=1
   ·have m1:(l:Int).tmod 2=1:=by rw [zm0,hlo];rfl
    have hlo':decide (l % 2=1)=true:=decide_eq_true hlo
    obtain ⟨la,hla⟩:∃ la,l+1=la:=⟨_,rfl⟩
    have e4:(l:Int)+1=(la:Int):=by omega
    obtain ⟨lh,hlh⟩:∃ lh,(l+1) / 2=lh:=⟨_,rfl⟩
    have e5:(la:Int).tdiv 2=(lh:Int):=by rw [za0];omega
    have HLH:=qh hlh
    have bL:lh≤2000000:=by omega
    have i3:(l:Int)<(r:Int):=by omega
    have hDA:D l=false:=by
     cases h:D l with
     | false=>rfl
     | true=>have:=t2 l h;omega
    have hdA:=(Below.refl wr.heap.size wr).drew
    obtain ⟨vA,WA,hrA,⟨gA,cA,rfl⟩,⟨xA,yA⟩,tA,hA⟩:=ym6 (t1.below hdA) (i:=l) (by omega) (s := .slice (some ⟨k,0,none⟩) 1 1) (u := .slice p m c) (V:=V) (HLN.out l (by omega) D) ⟨rfl,rfl⟩ _ (fun W' h=>h.1.1) (o3 t5 hdA) 23
    obtain ⟨pSA,cSA,eSA⟩:=t1.shape (i:=l) (by omega)
    have ccA:=(t1.cell (i:=l) (by omega)).1
    have b0:=t5.now.1.2.1
    have b1:=t5.now.1.2.2
    rw [eSA] at ccA hrA xA
    have hgl:g<wr.heap.size:=t1.g_lt.2
    have hbl:hb<wr.heap.size:=World.block_lt_of_cell? wr _ b0
    change (xo4 #[23,23] 23 #[_,.slice (some ⟨wr.heap.size,0,none⟩) 1 1]).run Tryz.prog (wr.alloc (.cells #[.slice (some ⟨k,0,none⟩) 1 1,.slice p m c] 46)).drew=_ at hrA
    rw [ym5 _ _ _ hDA] at tA
    generalize (y79 T ((.slice (some ⟨k,0,none⟩) 1 1,.slice p m c),V) D l).length=nSA at *
    have i1A:(0:Int)≤(l:Int):=by omega
    have i2A:(l:Int)<(n2:Int):=by omega
    have HTA:=qh (And.intro tA hA)
    have HLA:=qh (And.intro hlo' (And.intro hla hlh))
    clear tA hA t1 t5 hDA hlo' hla hlh
    go_wp2_with fail
    go_region
    obtain ⟨WX,hWX⟩:∃ WX,(WA.setCell ⟨g,l,none⟩ (.slice (some ⟨gA,0,none⟩) (nSA+1) cA))=WX:=⟨_,rfl⟩
    rw [hWX] at HTA ⊢
    obtain ⟨tA,hA⟩:=HTA.out
    have hlo':=HLA.out.1
    clear HTA hWX xA yA ccA b0 b1 hgl hbl hrA
    generalize upd sv l (Value.slice (some ⟨gA,0,none⟩) (nSA+1) cA)=sA at *
    by_cases hro:r % 2=1
    ·have m2:(r:Int).tmod 2=1:=by rw [zm0,hro];rfl
     obtain ⟨j,hj⟩:∃ j,r - 1=j:=⟨_,rfl⟩
     have e6:(r:Int) - 1=(j:Int):=by omega
     obtain ⟨rh,hrh⟩:∃ rh,r / 2=rh:=⟨_,rfl⟩
     have e7:(j:Int).tdiv 2=(rh:Int):=by rw [za0];omega
     have bR:rh≤2000000:=by omega
     have hDB:(fun i=>D i || decide (i=l)) j=false:=by
      cases h:(fun i=>D i || decide (i=l)) j with
      | false=>rfl
      | true =>
        dsimp only at h
        rw [Bool.or_eq_true,decide_eq_true_eq] at h
        rcases h with h | h
        ·have:=t2 j h;omega
        ·omega
     have hdB:=(Below.refl WX.heap.size WX).drew
     obtain ⟨vB,WB,hrB,⟨gB,cB,rfl⟩,⟨xB,yB⟩,tB,hB⟩:=ym6 (tA.below hdB) (i:=j) (by omega) (s := .slice (some ⟨k,0,none⟩) 1 1) (u := .slice p m c) (V:=V) (HLN.out j (by omega) (fun i=>D i || decide (i=l))) ⟨rfl,rfl⟩ _ (fun W' h=>h.1.1) (o3 hA hdB) 23
     obtain ⟨pSB,cSB,eSB⟩:=tA.shape (i:=j) (by omega)
     have ccB:=(tA.cell (i:=j) (by omega)).1
     have b0:=hA.now.1.2.1
     have b1:=hA.now.1.2.2
     rw [eSB] at ccB hrB xB
     have hgl:g<WX.heap.size:=tA.g_lt.2
     have hbl:hb<WX.heap.size:=World.block_lt_of_cell? WX _ b0
     change (xo4 #[23,23] 23 #[_,.slice (some ⟨WX.heap.size,0,none⟩) 1 1]).run Tryz.prog (WX.alloc (.cells #[.slice (some ⟨k,0,none⟩) 1 1,.slice p m c] 46)).drew=_ at hrB
     rw [ym5 _ _ _ hDB] at tB
     generalize (y79 T ((.slice (some ⟨k,0,none⟩) 1 1,.slice p m c),V) (fun i=>D i || decide (i=l)) j).length=nSB at *
     have i1B:(0:Int)≤(j:Int):=by omega
     have i2B:(j:Int)<(n2:Int):=by omega
     have HRH:=qh (And.intro hrh (And.intro hj hro))
     have eD:(fun i=>(fun i=>D i || decide (i=l)) i || decide (i=j))=fun i=>(D i || (decide (l % 2=1) && decide (i=l)) || (decide (r % 2=1) && decide (i=r - 1))):=funext fun i=>by
      rw [hlo',decide_eq_true hro,← hj,Bool.true_and];rw [Bool.true_and]
     rw [eD] at tB
     have HTB:=qh (And.intro tB hB)
     clear tB hB tA hA t2 hj hrh eD hDB
     go_wp2_with fail
     go_region
     go_wp2_with fail
     go_roundw
     case rel=>exact ⟨lh,rh,rfl,rfl,by have:=HLH.out;omega,by have:=HRH.out.1;omega,⟨⟨_,_,HTB.out.1,HRH.out.1 ▸ HK.out.1,HRH.out.1 ▸ HLH.out ▸ HK.out.2,HTB.out.2⟩,by have:=HLH.out;have:=HRH.out.1;have:=HRL.out;omega,by have:=HRH.out.1;have:=HRL.out;omega,by have:=HLH.out;have:=HRL.out;omega⟩⟩
     case measure=>have:=HRH.out.1;simp [intOf];omega
    ·have hro0:r % 2=0:=by omega
     have m2:(r:Int).tmod 2=0:=by rw [zm0,hro0];rfl
     obtain ⟨rh,hrh⟩:∃ rh,r / 2=rh:=⟨_,rfl⟩
     have e7:(r:Int).tdiv 2=(rh:Int):=by rw [za0,hrh]
     have bR:rh≤2000000:=by omega
     have HRH:=qh hrh
     have eD:(fun i=>D i || decide (i=l))=fun i=>(D i || (decide (l % 2=1) && decide (i=l)) || (decide (r % 2=1) && decide (i=r - 1))):=funext fun i=>by
      rw [hlo',decide_eq_false hro,Bool.false_and,Bool.or_false];rw [Bool.true_and]
     rw [eD] at tA
     have HTB:=qh (And.intro tA hA)
     clear tA hA t2 hrh eD
     go_wp2_with fail
     go_roundw
     case rel=>exact ⟨lh,rh,rfl,rfl,by have:=HLH.out;omega,by have:=HRH.out;omega,⟨⟨_,_,HTB.out.1,HRH.out ▸ HK.out.1,HRH.out ▸ HLH.out ▸ HK.out.2,HTB.out.2⟩,by have:=HLH.out;have:=HRH.out;have:=HRL.out;omega,by have:=HRH.out;have:=HRL.out;omega,by have:=HLH.out;have:=HRL.out;omega⟩⟩
     case measure=>have:=HRH.out;simp [intOf];omega
   ·have hl0:l % 2=0:=by omega
    have m1:(l:Int).tmod 2=0:=by rw [zm0,hl0];rfl
    have hlo':decide (l % 2=1)=false:=decide_eq_false hlo
    obtain ⟨lh,hlh⟩:∃ lh,(l+1) / 2=lh:=⟨_,rfl⟩
    have e5:(l:Int).tdiv 2=(lh:Int):=by rw [za0];omega
    have HLH:=qh hlh
    have bL:lh≤2000000:=by omega
    have i3:(l:Int)<(r:Int):=by omega
    clear hlh
    by_cases hro:r % 2=1
    ·have m2:(r:Int).tmod 2=1:=by rw [zm0,hro];rfl
     obtain ⟨j,hj⟩:∃ j,r - 1=j:=⟨_,rfl⟩
     have e6:(r:Int) - 1=(j:Int):=by omega
     obtain ⟨rh,hrh⟩:∃ rh,r / 2=rh:=⟨_,rfl⟩
     have e7:(j:Int).tdiv 2=(rh:Int):=by rw [za0];omega
     have bR:rh≤2000000:=by omega
     have hDB:(D) j=false:=by
      cases h:(D) j with
      | false=>rfl
      | true =>
        have:=t2 j h;omega
     have hdB:=(Below.refl wr.heap.size wr).drew
     obtain ⟨vB,WB,hrB,⟨gB,cB,rfl⟩,⟨xB,yB⟩,tB,hB⟩:=ym6 (t1.below hdB) (i:=j) (by omega) (s := .slice (some ⟨k,0,none⟩) 1 1) (u := .slice p m c) (V:=V) (HLN.out j (by omega) (D)) ⟨rfl,rfl⟩ _ (fun W' h=>h.1.1) (o3 t5 hdB) 23
     obtain ⟨pSB,cSB,eSB⟩:=t1.shape (i:=j) (by omega)
     have ccB:=(t1.cell (i:=j) (by omega)).1
     have b0:=t5.now.1.2.1
     have b1:=t5.now.1.2.2
     rw [eSB] at ccB hrB xB
     have hgl:g<wr.heap.size:=t1.g_lt.2
     have hbl:hb<wr.heap.size:=World.block_lt_of_cell? wr _ b0
     change (xo4 #[23,23] 23 #[_,.slice (some ⟨wr.heap.size,0,none⟩) 1 1]).run Tryz.prog (wr.alloc (.cells #[.slice (some ⟨k,0,none⟩) 1 1,.slice p m c] 46)).drew=_ at hrB
     rw [ym5 _ _ _ hDB] at tB
     generalize (y79 T ((.slice (some ⟨k,0,none⟩) 1 1,.slice p m c),V) (D) j).length=nSB at *
     have i1B:(0:Int)≤(j:Int):=by omega
     have i2B:(j:Int)<(n2:Int):=by omega
     have HRH:=qh (And.intro hrh (And.intro hj hro))
     have eD:(fun i=>(D) i || decide (i=j))=fun i=>(D i || (decide (l % 2=1) && decide (i=l)) || (decide (r % 2=1) && decide (i=r - 1))):=funext fun i=>by
      rw [hlo',decide_eq_true hro,← hj,Bool.true_and];rw [Bool.false_and,Bool.or_false]
     rw [eD] at tB
     have HTB:=qh (And.intro tB hB)
     clear tB hB t1 t5 t2 hj hrh eD hDB
     go_wp2_with fail
     go_region
     go_wp2_with fail
     go_roundw
     case rel=>exact ⟨lh,rh,rfl,rfl,by have:=HLH.out;omega,by have:=HRH.out.1;omega,⟨⟨_,_,HTB.out.1,HRH.out.1 ▸ HK.out.1,HRH.out.1 ▸ HLH.out ▸ HK.out.2,HTB.out.2⟩,by have:=HLH.out;have:=HRH.out.1;have:=HRL.out;omega,by have:=HRH.out.1;have:=HRL.out;omega,by have:=HLH.out;have:=HRL.out;omega⟩⟩
     case measure=>have:=HRH.out.1;simp [intOf];omega
    ·have hro0:r % 2=0:=by omega
     have m2:(r:Int).tmod 2=0:=by rw [zm0,hro0];rfl
     obtain ⟨rh,hrh⟩:∃ rh,r / 2=rh:=⟨_,rfl⟩
     have e7:(r:Int).tdiv 2=(rh:Int):=by rw [za0,hrh]
     have bR:rh≤2000000:=by omega
     have HRH:=qh hrh
     have eD:(D)=fun i=>(D i || (decide (l % 2=1) && decide (i=l)) || (decide (r % 2=1) && decide (i=r - 1))):=funext fun i=>by
      rw [hlo',decide_eq_false hro,Bool.false_and,Bool.or_false];rw [Bool.false_and,Bool.or_false]
     rw [eD] at t1
     have HTB:=qh (And.intro t1 t5)
     clear t1 t5 t2 hrh eD
     go_wp2_with fail
     go_roundw
     case rel=>exact ⟨lh,rh,rfl,rfl,by have:=HLH.out;omega,by have:=HRH.out;omega,⟨⟨_,_,HTB.out.1,HRH.out ▸ HK.out.1,HRH.out ▸ HLH.out ▸ HK.out.2,HTB.out.2⟩,by have:=HLH.out;have:=HRH.out;have:=HRL.out;omega,by have:=HRH.out;have:=HRL.out;omega,by have:=HLH.out;have:=HRL.out;omega⟩⟩
     case measure=>have:=HRH.out;simp [intOf];omega
  ·obtain ⟨⟨sv,D,t1,t2,⟨f,t3,t4⟩,t5⟩,rl,rn,l1⟩:=hI
   go_wp2_with fail
   go_end0
   refine ⟨rfl,sv,_,t1,fun i hi => ?_,t5.imp fun _ h=>h.2⟩
   have hc:ze0 n2 (a+n) (b+n) i=D i:=by rw [t4 i,yv2 (by omega),Bool.or_false]
   show _=if ze0 n2 (a+n) (b+n) i=true then Vs i ++ [V] else Vs i
   unfold y79
   rw [hc,← HT.out.2.1 i hi]
   split
   ·rw [List.map_append];rfl
   ·rfl
end
end Go.Proofs.YtchndljcahjldaaGreatDoor
