/- Knowledge that a call builds: a row of its own whose fragments lie in blocks apart from it. -/
import Derived.Test.YtchndljcahjldaaGreatDoorKKFold
import Derived.Test.YtchndljcahjldaaGreatDoorKGMath
namespace Go.Proofs.YtchndljcahjldaaGreatDoor
section
open Go.RowKit
structure IvG (w:World) (g:Option Nat) (s:Value) (L:List Iv):Prop where
 ivs:u7 w s L
 apart:0<L.length→∃ b,s.ownBlock=some b∧b<w.heap.size∧g≠some b
theorem IvG.of {w:World} {g:Option Nat} {s:Value} {L:List Iv} (h:u7 w s L) (hn:0<L.length→∀ b,s.ownBlock=some b→g≠some b):IvG w g s L:=by
 refine ⟨h,fun h0 => ?_⟩
 obtain ⟨p,cap,rfl,h2,h3⟩:=h
 obtain ⟨b,o,rfl,h6⟩:=h3 (List.length_pos_iff.1 h0)
 have h7:=(h6 0 L[0] (by simp [h0])).1
 exact ⟨b,rfl,World.block_lt_of_cell? w _ h7,hn h0 b rfl⟩
theorem IvG.call {w w':World} {g:Option Nat} {s:Value} {L:List Iv} (h:IvG w g s L) (hb:Below w.heap.size w w'):IvG w' g s L:=by
 refine ⟨h.ivs.call hb,fun h0 => ?_⟩
 obtain ⟨b,h1,h2,h3⟩:=h.apart h0
 exact ⟨b,h1,Nat.lt_of_lt_of_le h2 hb.size,h3⟩
theorem y94 {w:World} {g g':Option Nat} {b:Nat} (hlt:b<w.heap.size) (hn:g≠some b) (hat:g'=g∨g'=some w.heap.size):g'≠some b:=by
 rcases hat with rfl | rfl
 ·exact hn
 ·intro e;have:=Option.some.inj e;omega
theorem IvG.grown {w w':World} {g g':Option Nat} {s:Value} {L:List Iv} (h:IvG w g s L) (hg:w.grownBy w' g) (hat:g'=g∨g'=some w.heap.size):IvG w' g' s L:=by
 obtain ⟨⟨p,cap,h1,h2,h3⟩,ha⟩:=h
 refine ⟨⟨p,cap,h1,h2,fun hne => ?_⟩,fun h0 => ?_⟩
 ·obtain ⟨b,o,rfl,h6⟩:=h3 hne
  obtain ⟨b',e,hlt,hn⟩:=ha (List.length_pos_iff.2 hne)
  rw [h1] at e
  obtain rfl:b=b':=Option.some.inj e
  have hblk:=hg.block b hlt (fun e=>hn e.symm)
  have hc:∀ i,w'.cell? ⟨b,i,none⟩=w.cell? ⟨b,i,none⟩:=fun i=>World.cell?_of_block hblk
  refine ⟨b,o,rfl,fun i x hx => ?_⟩
  rw [hc,hc]
  exact h6 i x hx
 ·obtain ⟨b,e,hlt,hn⟩:=ha h0
  exact ⟨b,e,Nat.lt_of_lt_of_le hlt hg.size,y94 hlt hn hat⟩
structure yg5 (w:World) (g:Option Nat) (v:Value) (V:x6):Prop where
 sh:∃ es,zn4 w v es∧es.length=V.length∧∀ (i:Nat) (e:Int × Int × Value) (x:Int × Int × List Iv),es[i]? = some e→V[i]? = some x→e.1=x.1∧e.2.1=x.2.1∧IvG w g e.2.2 x.2.2
 len:V.length≤100000
 apart:0<V.length→∃ b,v.ownBlock=some b∧b<w.heap.size∧g≠some b
theorem yg5.i {w:World} {g:Option Nat} {v:Value} {V:x6} (h:yg5 w g v V):zl9 w v V:=by
 obtain ⟨⟨es,h1,h2,h3⟩,h4,_⟩:=h
 exact ⟨⟨es,h1,h2,fun i e x he hx=>⟨(h3 i e x he hx).1,(h3 i e x he hx).2.1,(h3 i e x he hx).2.2.ivs⟩⟩,h4⟩
theorem yg5.call {w w':World} {g:Option Nat} {v:Value} {V:x6} (h:yg5 w g v V) (hb:Below w.heap.size w w'):yg5 w' g v V:=by
 obtain ⟨⟨es,h1,h2,h3⟩,h4,h5⟩:=h
 refine ⟨⟨es,h1.call hb,h2,fun i e x he hx=>⟨(h3 i e x he hx).1,(h3 i e x he hx).2.1,(h3 i e x he hx).2.2.call hb⟩⟩,h4,fun h0 => ?_⟩
 obtain ⟨b,k1,k2,k3⟩:=h5 h0
 exact ⟨b,k1,Nat.lt_of_lt_of_le k2 hb.size,k3⟩
theorem yg5.grown {w w':World} {g g':Option Nat} {v:Value} {V:x6} (h:yg5 w g v V) (hg:w.grownBy w' g) (hat:g'=g∨g'=some w.heap.size):yg5 w' g' v V:=by
 obtain ⟨⟨es,⟨p,cap,h1,h2,h3⟩,hel,hal⟩,h4,h5⟩:=h
 refine ⟨⟨es,⟨p,cap,h1,h2,fun hne => ?_⟩,hel,fun i e x he hx=>⟨(hal i e x he hx).1,(hal i e x he hx).2.1,(hal i e x he hx).2.2.grown hg hat⟩⟩,h4,fun h0 => ?_⟩
 ·obtain ⟨b,o,rfl,h6⟩:=h3 hne
  obtain ⟨b',e,hlt,hn⟩:=h5 (by rw [← hel];exact List.length_pos_iff.2 hne)
  rw [h1] at e
  obtain rfl:b=b':=Option.some.inj e
  have hblk:=hg.block b hlt (fun e=>hn e.symm)
  have hc:∀ i,w'.cell? ⟨b,i,none⟩=w.cell? ⟨b,i,none⟩:=fun i=>World.cell?_of_block hblk
  refine ⟨b,o,rfl,fun i x hx => ?_⟩
  rw [hc,hc,hc]
  exact h6 i x hx
 ·obtain ⟨b,e,hlt,hn⟩:=h5 h0
  exact ⟨b,e,Nat.lt_of_lt_of_le hlt hg.size,y94 hlt hn hat⟩
def zi4 (w:World) (B:Nat) (v:Value) (F:u9):Prop:=
 ∃ fs:List (Value × Value),fs.length=F.length∧w.ownsRow B 46 2 v fs.length (frC fs)∧∀ (i:Nat) (f:Value × Value) (x:List Iv × x6),fs[i]? = some f→F[i]? = some x→IvG w v.ownBlock f.1 x.1∧yg5 w v.ownBlock f.2 x.2
theorem zi4.nil (w:World) (B:Nat):zi4 w B (.slice none 0 0) []:=⟨[],rfl,World.ownsRow_nil w B _ 2,fun i f x h=>by simp at h⟩
theorem zi4.shape {w:World} {B:Nat} {v:Value} {F:u9} (h:zi4 w B v F):∃ p cap,v = .slice p F.length cap:=by
 obtain ⟨fs,h1,h2,_⟩:=h
 obtain ⟨p,cap,e,_⟩:=x8 h2
 exact ⟨p,cap,by rw [e,h1]⟩
theorem zi4.call {w w':World} {B:Nat} {v:Value} {F:u9} (h:zi4 w B v F) (hb:Below w.heap.size w w'):zi4 w' B v F:=by
 obtain ⟨fs,h1,h2,h3⟩:=h
 exact ⟨fs,h1,y7 h2 hb,fun i f x hf hx=>⟨(h3 i f x hf hx).1.call hb,(h3 i f x hf hx).2.call hb⟩⟩
theorem zi4.base {w:World} {B B':Nat} {v:Value} {F:u9} (h:zi4 w B v F) (hB:B'≤B):zi4 w B' v F:=by
 obtain ⟨fs,h1,h2,h3⟩:=h
 exact ⟨fs,h1,c6 h2 hB,h3⟩
theorem x66 (fs:List (Value × Value)) (a b:Value):frC (fs ++ [(a,b)])=frC fs ++ [a,b]:=by unfold frC;rw [List.flatMap_append];rfl
theorem zi4.push {w w2:World} {B:Nat} {v v2:Value} {fs:List (Value × Value)} {F:u9} {L:List Iv} {V:x6} {s u:Value} (hel:fs.length=F.length)
 (hall:∀ (i:Nat) (f:Value × Value) (x:List Iv × x6),fs[i]? = some f→F[i]? = some x→IvG w v.ownBlock f.1 x.1∧yg5 w v.ownBlock f.2 x.2)
 (hrow:w2.ownsRow B 46 2 v2 (fs.length+1) (frC fs ++ [s,u])) (hg:w.grownBy w2 v.ownBlock) (hat:v2.ownBlock=v.ownBlock∨v2.ownBlock=some w.heap.size) (hs:IvG w v.ownBlock s L) (hu:yg5 w v.ownBlock u V):zi4 w2 B v2 (F ++ [(L,V)]):=by
 refine ⟨fs ++ [(s,u)],by rw [List.length_append,List.length_append,hel];rfl,?_,fun i f x hf hx => ?_⟩
 ·rw [List.length_append,x66];exact hrow
 ·by_cases hi:i<fs.length
  ·rw [List.getElem?_append_left hi] at hf
   rw [List.getElem?_append_left (by omega)] at hx
   obtain ⟨h1,h2⟩:=hall i f x hf hx
   exact ⟨h1.grown hg hat,h2.grown hg hat⟩
  ·rw [List.getElem?_append_right (by omega)] at hf
   rw [List.getElem?_append_right (by omega)] at hx
   have h0:i - fs.length=0:=by
    have:=(List.getElem?_eq_some_iff.1 hf).1
    simpa using this
   have h0':i - F.length=0:=by omega
   rw [h0] at hf;rw [h0'] at hx
   obtain rfl:(s,u)=f:=by simpa using hf
   obtain rfl:(L,V)=x:=by simpa using hx
   exact ⟨hs.grown hg hat,hu.grown hg hat⟩
theorem zi4.knoAt {w:World} {B:Nat} {t:TypeId} {v:Value} {fs:List (Value × Value)} (h:w.ownsRow B t 2 v fs.length (frC fs)):zh1 w v fs:=by
 have h3:=h
 rcases h.2 with ⟨rfl,h0⟩ | ⟨g,cap,cur,rfl,hbg,hg,hnc,hcm,_⟩
 ·exact ⟨none,0,by rw [h0],by omega,fun e=>absurd (List.eq_nil_of_length_eq_zero h0) e⟩
 ·refine ⟨_,cap,rfl,Nat.le_trans hnc hcm,fun _=>⟨g,0,rfl,fun i f he => ?_⟩⟩
  have hi:=(List.getElem?_eq_some_iff.1 he).1
  obtain ⟨c0,c1⟩:=yy0 fs i f he
  rw [Nat.zero_add]
  exact ⟨by rw [h3.cellAt (i*2) (by omega)];exact c0,by rw [h3.cellAt (i*2+1) (by omega)];exact c1⟩
theorem zi4.i {w:World} {B:Nat} {v:Value} {F:u9} (h:zi4 w B v F) (hl:F.length≤100000):zv4 w v F:=by
 obtain ⟨fs,h1,h2,h3⟩:=h
 exact ⟨⟨fs,zi4.knoAt h2,h1,fun i f x hf hx=>⟨(h3 i f x hf hx).1.ivs,(h3 i f x hf hx).2.i⟩⟩,hl⟩
end
section
open Go.RowKit
theorem zl1 (w:World) (x y:Value) (t:TypeId):∀ j u,[x,y][j]? = some u→(w.alloc (.cells #[x,y] t)).cell? ((⟨w.heap.size,0,none⟩:Addr).add j)=some u:=by
 intro j u h
 match j,h with
 | 0,h=>simp at h;subst h;simp [Addr.add]
 | 1,h=>simp at h;subst h;simp [Addr.add]
def apB (F:u9):Bool:=decide (F.Pairwise fun x y=>zv0 y.1 x.1 = [])
theorem yc8 {W w1 w2:World} {p0 p1:Addr} {a0 a1:Value} (h:Below W.heap.size W w1∧w1.cell? p0=some a0∧w1.cell? p1=some a1) (hb:Below w1.heap.size w1 w2):Below W.heap.size W w2∧w2.cell? p0=some a0∧w2.cell? p1=some a1:=⟨z7 h.1 hb,z6 h.2.1 hb,z6 h.2.2 hb⟩
end
end Go.Proofs.YtchndljcahjldaaGreatDoor
