/- The reference's calculations with vectors: what is known of a replica, one version, how many; and the laws' look at their vectors. -/
import Derived.Test.YtchndljcahjldaaGreatDoorKPMath
import Derived.Test.YtchndljcahjldaaGreatDoorKVPieces
namespace Go.Proofs.YtchndljcahjldaaGreatDoor
section
open Go.RowKit
def j7 (n h:Nat) (V:x6):Prop:=V.length≤n∧∀ x ∈ V,x.2.2.length≤h
end
section
open Go.RowKit
theorem wd0 {n n' h h':Nat} {f:List Iv→List Iv→List Iv} (hf:∀ K L,v7 K→v7 L→v7 (f K L)) (hc:∀ K L,v7 K→v7 L→(f K L).length≤K.length+L.length) {A B:x6} (gA:t6 A) (gB:t6 B) (sA:j7 n h A) (sB:j7 n' h' B):j7 (n+n') (h+h'+3) (opV f A B):=by
 refine ⟨Nat.le_trans (wq5 f A B) (by have:=sA.1;have:=sB.1;omega),fun y hy => ?_⟩
 obtain ⟨r,_,e⟩:=List.mem_filterMap.1 hy
 obtain ⟨_,_,e2⟩:=zj4 e
 have key:∀ {n h:Nat} {V:x6},t6 V→j7 n h V→(knV V r).length≤h+1:=fun g s=>by
  rcases z75 g.asc r with ⟨x,hx,_,e⟩ | ⟨_,e⟩
  ·rw [e];have:=zp8 (g.ent x hx);have:=s.2 x hx;omega
  ·rw [e];exact Nat.zero_le _
 have h1:=key gA sA
 have h2:=key gB sB
 have h3:=hc _ _ (o5 gA r) (o5 gB r)
 have h4:=y97 (hf _ _ (o5 gA r) (o5 gB r))
 rw [e2]
 dsimp only
 omega
theorem x73 {n n' h h':Nat} {A B:x6} (gA:t6 A) (gB:t6 B) (sA:j7 n h A) (sB:j7 n' h' B):j7 (n+n') (h+h'+3) (opV orL A B):=wd0 (fun _ _ h h'=>z10 h h') (fun _ _ h h'=>zp7 h h') gA gB sA sB
theorem j7.mono {n h n' h':Nat} {V:x6} (s:j7 n h V) (hn:n≤n') (hh:h≤h'):j7 n' h' V:=⟨Nat.le_trans s.1 hn,fun x hx=>Nat.le_trans (s.2 x hx) hh⟩
theorem yd1 {A B:x6} (gA:t6 A) (gB:t6 B):t6 (opV orL A B):=(zj5 (fun _ _ h h'=>z10 h h') gA gB).1
theorem wd1 {A B:x6} (gA:t6 A) (gB:t6 B) (r:Int):knV (opV orL A B) r=orL (knV A r) (knV B r):=wz5 (fun _ _ h h'=>z10 h h') rfl gA gB r
end
section
open Go.RowKit
theorem v60 {m:Int} (h0:0≤m) (h1:m≤18446744073709551615):z15 m []:=⟨z17,h0,h1,fun y hy=>by cases hy⟩
end
section
open Go.RowKit
structure T3 (w:World) (L b:Nat):Prop where
 lo:L≤b
 c0:w.cell? ⟨b,0,none⟩=some (.int .u64 0)
 c1:w.cell? ⟨b,1,none⟩=some (.int .u64 0)
 c2:w.cell? ⟨b,2,none⟩=some (.slice none 0 0)
 f0:w.frozen? ⟨b,0,none⟩=false
 f1:w.frozen? ⟨b,1,none⟩=false
 f2:w.frozen? ⟨b,2,none⟩=false
 lt:b<w.heap.size
theorem T3.call {w w':World} {L b:Nat} (h:T3 w L b) (hb:Below w.heap.size w w'):T3 w' L b:=⟨h.lo,z6 h.c0 hb,z6 h.c1 hb,z6 h.c2 hb,y9 h.f0 h.lt hb,y9 h.f1 h.lt hb,y9 h.f2 h.lt hb,Nat.lt_of_lt_of_le h.lt hb.size⟩
theorem T3.new {w w':World} {L:Nat} {t:TypeId} (hL:L≤w.heap.size) (h:Below (w.alloc (.cells #[.int .u64 0,.int .u64 0,.slice none 0 0] t)).heap.size (w.alloc (.cells #[.int .u64 0,.int .u64 0,.slice none 0 0] t)) w'):T3 w' L w.heap.size:=
 T3.call (w:=w.alloc (.cells #[.int .u64 0,.int .u64 0,.slice none 0 0] t)) ⟨hL,by simp,by simp,by simp,by simp,by simp,by simp,by simp⟩ h
theorem zq3.base {w:World} {B B':Nat} {v:Value} {V:x6} (h:zq3 w B v V) (hB:B'≤B):zq3 w B' v V:=by
 obtain ⟨es,h1,h2,h3⟩:=h
 exact ⟨es,h1,c6 h2 hB,fun i e x he hx=>⟨(h3 i e x he hx).1,(h3 i e x he hx).2.1,(h3 i e x he hx).2.2.ivs,(h3 i e x he hx).2.2.soft.base hB,(h3 i e x he hx).2.2.apart⟩⟩
end
end Go.Proofs.YtchndljcahjldaaGreatDoor
