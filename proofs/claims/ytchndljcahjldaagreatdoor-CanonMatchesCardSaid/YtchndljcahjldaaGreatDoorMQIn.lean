/- Knowledge and versions that came in, read as data: lists, entries, vectors, fragments. -/
import Derived.Test.YtchndljcahjldaaGreatDoorMPOpen
import Derived.Lib.SmallJoins
namespace Go.Proofs.YtchndljcahjldaaGreatDoor
open Go.RowKit Go.ChangeShapes Go.WideShapes Go.Deep
section
variable {H:Type} {enc:TypeId × Value→H}
set_option maxRecDepth 100000 in
theorem xa2 {W:World} {fuel:Nat} {s:Value} {x:DataW H × List MemPlace} (h:DataW.trod enc Tryz.prog W 0 (fun _=>true) true fuel 42 [s]=some x) (lim:Nat) (hlim:lim≤1048576):z02 s∧zt9 lim W s:=by
 rcases open_slice_pairs Tryz.underlying42 Tryz.underlying65 (by kernel_rfl) rfl rfl (by kernel_rfl) (by kernel_rfl) h with ⟨hcs,_⟩ | ⟨a,len0,cap0,m,n,V0,V1,D0,D1,P0,P1,hcs,_,hl,_,hm,_,hi⟩
 ·obtain rfl:=(List.cons.inj hcs).1
  exact ⟨zf2,.inr ⟨[],by simp,(fun x hx=>by cases hx),none,0,rfl,by simp,fun h=>absurd rfl h⟩⟩
 ·obtain rfl:=(List.cons.inj hcs).1
  refine ⟨a7 a len0 cap0 hl,?_⟩
  by_cases hn:lim<len0
  ·exact .inl ⟨_,_,_,rfl,hn⟩
  refine .inr ?_
  simp only [if_true] at hm
  subst hm
  have num:∀ i,i<len0→∃ x y:Int,V0 i = .int .u64 x∧V1 i = .int .u64 y∧(0≤x∧x≤18446744073709551615)∧(0≤y∧y≤18446744073709551615):=fun i h=>by
   obtain ⟨_,_,h0,h1⟩:=hi i (by omega)
   obtain ⟨x,e0,_,w0⟩:=DataW.trod_int Tryz.underlying36 h0
   obtain ⟨y,e1,_,w1⟩:=DataW.trod_int Tryz.underlying36 h1
   simp at e0 e1
   exact ⟨x,y,e0,e1,bounds_u64 w0,bounds_u64 w1⟩
  obtain ⟨b,o,spot⟩:=a
  refine ⟨(List.range len0).map fun i=>(intOf (V0 i),intOf (V1 i)),by simp;omega,fun z hz => ?_,some ⟨b,o,spot⟩,m,by simp,by simp;omega,fun hne => ?_⟩
  ·obtain ⟨i,hi',rfl⟩:=List.mem_map.1 hz
   obtain ⟨x,y,e0,e1,hx,hy⟩:=num i (List.mem_range.1 hi')
   rw [e0,e1]
   exact ⟨hx,hy⟩
  ·have hp:0<len0:=by
    rcases Nat.eq_zero_or_pos len0 with h0 | h0
    ·subst h0;exact absurd (by simp) hne
    ·exact h0
   have hspot:spot=none:=by simpa [Addr.add] using World.cell?_spot (hi 0 (by omega)).1
   subst hspot
   refine ⟨b,o,rfl,fun i x hx => ?_⟩
   rw [List.getElem?_map] at hx
   obtain ⟨j,hj,rfl⟩:=Option.map_eq_some_iff.1 hx
   obtain ⟨hlt,hj⟩:=List.getElem?_eq_some_iff.1 hj
   have hil:i<len0:=by simpa using hlt
   obtain rfl:i=j:=by simpa using hj
   obtain ⟨x,y,e0,e1,_,_⟩:=num i hil
   obtain ⟨c0,c1,_,_⟩:=hi i (by omega)
   rw [add_plain] at c0 c1
   rw [e0] at c0
   rw [e1] at c1
   rw [e0,e1]
   exact ⟨c0,by simpa [Nat.add_assoc,intOf] using c1⟩
set_option maxRecDepth 100000 in
theorem wf7 {W:World} {fuel:Nat} {cs:List Value} {x:DataW H × List MemPlace} (h:DataW.trod enc Tryz.prog W 0 (fun _=>true) true fuel 63 cs=some x) (lim:Nat) (hlim:lim≤1048576) :
 ∃ e:Int × Int × Value,cs = [.int .u64 e.1,.int .u64 e.2.1,e.2.2]∧zp1 lim W e:=by
 have c3:Tryz.prog.cellsOf 63=3:=by kernel_rfl
 have cu:Tryz.prog.cellsOf 36=1:=by kernel_rfl
 have cr:Tryz.prog.cellsOf 42=1:=by kernel_rfl
 obtain ⟨xs,k,_,_,hlen,hxl,hf⟩:=DataW.trod_struct Tryz.underlying63 h
 rw [c3] at hlen
 match xs,hxl,cs,hlen with
 | [y0,y1,y2],_,[v0,v1,v2],_ =>
   have g0:=hf 0 _ rfl
   have g1:=hf 1 _ rfl
   have g2:=hf 2 _ rfl
   simp [cu,cr] at g0 g1 g2
   obtain ⟨r,e0,_,w0⟩:=DataW.trod_int Tryz.underlying36 g0
   obtain ⟨m,e1,_,w1⟩:=DataW.trod_int Tryz.underlying36 g1
   simp at e0 e1
   obtain ⟨hs,hh⟩:=xa2 g2 lim hlim
   exact ⟨(r,m,v2),by rw [e0,e1],bounds_u64 w0,bounds_u64 w1,hs,hh⟩
set_option maxRecDepth 100000 in
set_option maxRecDepth 100000 in
theorem wf8 {W:World} {fuel:Nat} {v:Value} {x:DataW H × List MemPlace} (h:DataW.trod enc Tryz.prog W 0 (fun _=>true) true fuel 44 [v]=some x) (lim:Nat) (hlim:lim≤1048576) :
 z02 v∧∃ es,zp0 W v es∧∀ e ∈ es,zp1 lim W e:=by
 rcases open_slice Tryz.underlying44 h with ⟨hcs,_⟩ | ⟨a,len,cap,m,n,D,Pl,hcs,_,hl,hcap,hm,_,hi⟩
 ·obtain rfl:=(List.cons.inj hcs).1
  exact ⟨zf2,[],⟨none,0,rfl,Nat.zero_le _,fun h=>absurd rfl h⟩,fun e he=>by cases he⟩
 ·obtain rfl:=(List.cons.inj hcs).1
  refine ⟨a7 a len cap hl,?_⟩
  simp only [if_true] at hm
  subst hm
  have c3:Tryz.prog.cellsOf 63=3:=by kernel_rfl
  have each:∀ i,i<len→∃ e:Int × Int × Value,(W.cell? (a.add (i*3))=some (.int .u64 e.1)∧W.cell? (a.add (i*3+1))=some (.int .u64 e.2.1)∧W.cell? (a.add (i*3+2))=some e.2.2)∧zp1 lim W e:=by
   intro i hlt
   obtain ⟨cs',h1,h2⟩:=hi i (by omega)
   rw [c3] at h1
   obtain ⟨e,rfl,he⟩:=wf7 h2 lim hlim
   obtain ⟨_,_,hcell⟩:=World.cells?_some h1
   have e0:=hcell 0 (by omega)
   have e1:=hcell 1 (by omega)
   have e2:=hcell 2 (by omega)
   rw [add_add] at e0 e1 e2
   exact ⟨e,⟨by simpa using e0,by simpa using e1,by simpa using e2⟩,he⟩
  obtain ⟨q,hq⟩:=choose_lt each
  obtain ⟨b,o,spot⟩:=a
  refine ⟨(List.range len).map q,⟨some ⟨b,o,spot⟩,m,by simp,by simp;omega,fun hne => ?_⟩,fun e he => ?_⟩
  ·have hp:0<len:=by
    rcases Nat.eq_zero_or_pos len with h0 | h0
    ·subst h0;exact absurd (by simp) hne
    ·exact h0
   have hspot:spot=none:=by simpa [Addr.add] using World.cell?_spot (hq 0 hp).1.1
   subst hspot
   refine ⟨b,o,rfl,fun i e he => ?_⟩
   rw [List.getElem?_map] at he
   obtain ⟨j,hj,rfl⟩:=Option.map_eq_some_iff.1 he
   obtain ⟨hlt,hj⟩:=List.getElem?_eq_some_iff.1 hj
   have hil:i<len:=by simpa using hlt
   obtain rfl:i=j:=by simpa using hj
   obtain ⟨c0,c1,c2⟩:=(hq i hil).1
   rw [add_plain] at c0 c1 c2
   exact ⟨c0,by simpa [Nat.add_assoc] using c1,by simpa [Nat.add_assoc] using c2⟩
  ·obtain ⟨i,hi',rfl⟩:=List.mem_map.1 he
   exact (hq i (List.mem_range.1 hi')).2
set_option maxRecDepth 100000 in
theorem w22 {W:World} {fuel:Nat} {cs:List Value} {x:DataW H × List MemPlace} (h:DataW.trod enc Tryz.prog W 0 (fun _=>true) true fuel 46 cs=some x) (lim:Nat) (hlim:lim≤1048576) :
 ∃ f:Value × Value,cs = [f.1,f.2]∧zf8 lim W f:=by
 have c2:Tryz.prog.cellsOf 46=2:=by kernel_rfl
 have cv:Tryz.prog.cellsOf 44=1:=by kernel_rfl
 have cr:Tryz.prog.cellsOf 42=1:=by kernel_rfl
 obtain ⟨xs,k,_,_,hlen,hxl,hf⟩:=DataW.trod_struct Tryz.underlying46 h
 rw [c2] at hlen
 match xs,hxl,cs,hlen with
 | [y0,y1],_,[v0,v1],_ =>
   have g0:=hf 0 _ rfl
   have g1:=hf 1 _ rfl
   simp [cr,cv] at g0 g1
   obtain ⟨hs,hh⟩:=xa2 g0 lim hlim
   obtain ⟨hs2,hh2⟩:=wf8 g1 lim hlim
   exact ⟨(v0,v1),rfl,hs,hh,hs2,hh2⟩
set_option maxRecDepth 100000 in
theorem wf9 {W:World} {fuel:Nat} {v:Value} {x:DataW H × List MemPlace} (h:DataW.trod enc Tryz.prog W 0 (fun _=>true) true fuel 23 [v]=some x) (lim:Nat) (hlim:lim≤1048576) :
 z02 v∧∃ fs,zr3 W v fs∧∀ f ∈ fs,zf8 lim W f:=by
 rcases open_slice Tryz.underlying23 h with ⟨hcs,_⟩ | ⟨a,len,cap,m,n,D,Pl,hcs,_,hl,hcap,hm,_,hi⟩
 ·obtain rfl:=(List.cons.inj hcs).1
  exact ⟨zf2,[],⟨none,0,rfl,Nat.zero_le _,fun h=>absurd rfl h⟩,fun e he=>by cases he⟩
 ·obtain rfl:=(List.cons.inj hcs).1
  refine ⟨a7 a len cap hl,?_⟩
  simp only [if_true] at hm
  subst hm
  have c2:Tryz.prog.cellsOf 46=2:=by kernel_rfl
  have each:∀ i,i<len→∃ f:Value × Value,(W.cell? (a.add (i*2))=some f.1∧W.cell? (a.add (i*2+1))=some f.2)∧zf8 lim W f:=by
   intro i hlt
   obtain ⟨cs',h1,h2⟩:=hi i (by omega)
   rw [c2] at h1
   obtain ⟨f,rfl,hf⟩:=w22 h2 lim hlim
   obtain ⟨_,_,hcell⟩:=World.cells?_some h1
   have e0:=hcell 0 (by omega)
   have e1:=hcell 1 (by omega)
   rw [add_add] at e0 e1
   exact ⟨f,⟨by simpa using e0,by simpa using e1⟩,hf⟩
  obtain ⟨q,hq⟩:=choose_lt each
  obtain ⟨b,o,spot⟩:=a
  refine ⟨(List.range len).map q,⟨some ⟨b,o,spot⟩,m,by simp,by simp;omega,fun hne => ?_⟩,fun e he => ?_⟩
  ·have hp:0<len:=by
    rcases Nat.eq_zero_or_pos len with h0 | h0
    ·subst h0;exact absurd (by simp) hne
    ·exact h0
   have hspot:spot=none:=by simpa [Addr.add] using World.cell?_spot (hq 0 hp).1.1
   subst hspot
   refine ⟨b,o,rfl,fun i e he => ?_⟩
   rw [List.getElem?_map] at he
   obtain ⟨j,hj,rfl⟩:=Option.map_eq_some_iff.1 he
   obtain ⟨hlt,hj⟩:=List.getElem?_eq_some_iff.1 hj
   have hil:i<len:=by simpa using hlt
   obtain rfl:i=j:=by simpa using hj
   obtain ⟨c0,c1⟩:=(hq i hil).1
   rw [add_plain] at c0 c1
   exact ⟨c0,by simpa [Nat.add_assoc] using c1⟩
  ·obtain ⟨i,hi',rfl⟩:=List.mem_map.1 he
   exact (hq i (List.mem_range.1 hi')).2
set_option maxRecDepth 100000 in
theorem wg0 {W:World} {v:Value} {d:DataW H} {p:List MemPlace} {base:Nat} (hv:Value.okWide Tryz.prog W .any base 23 v) (h:DataW.Trod enc Tryz.prog W 0 (fun _=>true) true 23 v d p):y55 W v:=by
 obtain ⟨a0,len0,cap0,rfl⟩:=okWide_slice Tryz.underlying23 hv
 obtain ⟨fuel,hf⟩:=h
 have hc:(Value.slice a0 len0 cap0).cells.toList = [Value.slice a0 len0 cap0]:=rfl
 rw [hc] at hf
 exact wf9 hf 30 (by omega)
set_option maxRecDepth 100000 in
theorem v79 {W:World} {base:Nat} {v:Value} {d:DataW H} {p:List MemPlace} (hv:Value.okWide Tryz.prog W .any base 38 v) (h:DataW.Trod enc Tryz.prog W 0 (fun _=>true) true 38 v d p) :
 ∃ t r c:Int,v = .agg #[.int .u64 t,.int .u64 r,.int .u64 c]∧(0≤t∧t≤18446744073709551615)∧(0≤r∧r≤18446744073709551615)∧(0≤c∧c≤18446744073709551615):=by
 obtain ⟨c0,c1,c2,y0,y1,y2,n,rfl,_,_,hy0,hy1,hy2⟩:=Go.Joins.open_agg3 Tryz.underlying38 (by kernel_rfl) (by kernel_rfl) hv h
 obtain ⟨a,e0,_,wa⟩:=DataW.trod_int Tryz.underlying36 hy0
 obtain ⟨b,e1,_,wb⟩:=DataW.trod_int Tryz.underlying36 hy1
 obtain ⟨c,e2,_,wc⟩:=DataW.trod_int Tryz.underlying36 hy2
 simp at e0 e1 e2
 subst e0 e1 e2
 exact ⟨a,b,c,rfl,bounds_u64 wa,bounds_u64 wb,bounds_u64 wc⟩
end
end Go.Proofs.YtchndljcahjldaaGreatDoor
