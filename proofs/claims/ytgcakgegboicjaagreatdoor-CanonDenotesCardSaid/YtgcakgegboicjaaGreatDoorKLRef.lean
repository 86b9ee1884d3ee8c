/- The reference's calculations with vectors: what is known of a replica, one version, how many; and the laws' look at their vectors. -/
import Derived.Test.YtgcakgegboicjaaGreatDoorKPMath
import Derived.Test.YtgcakgegboicjaaGreatDoorKVPieces
namespace Go.Proofs.YtgcakgegboicjaaGreatDoor
section
open Go.RowKit
def smallV (n h:Nat) (V:VcT):Prop:=V.length≤n∧∀ x ∈ V,x.2.2.length≤h
end
section
open Go.RowKit
theorem small_op {n n' h h':Nat} {f:List Iv→List Iv→List Iv} (hf:∀ K L,GoodL K→GoodL L→GoodL (f K L)) (hc:∀ K L,GoodL K→GoodL L→(f K L).length≤K.length+L.length) {A B:VcT} (gA:GoodV A) (gB:GoodV B) (sA:smallV n h A) (sB:smallV n' h' B):smallV (n+n') (h+h'+3) (opV f A B):=by
 refine ⟨Nat.le_trans (opV_len f A B) (by have:=sA.1;have:=sB.1;omega),fun y hy => ?_⟩
 obtain ⟨r,_,e⟩:=List.mem_filterMap.1 hy
 obtain ⟨_,_,e2⟩:=opE_some e
 have key:∀ {n h:Nat} {V:VcT},GoodV V→smallV n h V→(knV V r).length≤h+1:=fun g s=>by
  rcases knV_cases g.asc r with ⟨x,hx,_,e⟩ | ⟨_,e⟩
  ·rw [e];have:=known_count (g.ent x hx);have:=s.2 x hx;omega
  ·rw [e];exact Nat.zero_le _
 have h1:=key gA sA
 have h2:=key gB sB
 have h3:=hc _ _ (knV_good gA r) (knV_good gB r)
 have h4:=holes_count (hf _ _ (knV_good gA r) (knV_good gB r))
 rw [e2]
 dsimp only
 omega
theorem small_or {n n' h h':Nat} {A B:VcT} (gA:GoodV A) (gB:GoodV B) (sA:smallV n h A) (sB:smallV n' h' B):smallV (n+n') (h+h'+3) (opV orL A B):=small_op (fun _ _ h h'=>orL_good h h') (fun _ _ h h'=>or_count h h') gA gB sA sB
theorem smallV.mono {n h n' h':Nat} {V:VcT} (s:smallV n h V) (hn:n≤n') (hh:h≤h'):smallV n' h' V:=⟨Nat.le_trans s.1 hn,fun x hx=>Nat.le_trans (s.2 x hx) hh⟩
theorem or_good {A B:VcT} (gA:GoodV A) (gB:GoodV B):GoodV (opV orL A B):=(opV_good (fun _ _ h h'=>orL_good h h') gA gB).1
theorem or_kn {A B:VcT} (gA:GoodV A) (gB:GoodV B) (r:Int):knV (opV orL A B) r=orL (knV A r) (knV B r):=opV_kn (fun _ _ h h'=>orL_good h h') rfl gA gB r
end
section
open Go.RowKit
theorem ent10 {m:Int} (h0:0≤m) (h1:m≤18446744073709551615):GoodE m []:=⟨good_nil,h0,h1,fun y hy=>by cases hy⟩
end
section
open Go.RowKit
structure T3 (w:World) (L b:Nat):Prop where
 lo:L≤b
 c0:w.cell? ⟨b,0,none⟩=some (.int .u64 0)
 c1:w.cell? ⟨b,1,none⟩=some (.int .u64 0)
 c2:w.cell? ⟨b,2,none⟩=some (.slice none 0 0)
 f0:w.frozen? ⟨b,0,none⟩=false
 f1:w.frozen? ⟨b,1,none⟩=false
 f2:w.frozen? ⟨b,2,none⟩=false
 lt:b<w.heap.size
theorem T3.call {w w':World} {L b:Nat} (h:T3 w L b) (hb:Below w.heap.size w w'):T3 w' L b:=⟨h.lo,keep_cell h.c0 hb,keep_cell h.c1 hb,keep_cell h.c2 hb,keep_free h.f0 h.lt hb,keep_free h.f1 h.lt hb,keep_free h.f2 h.lt hb,Nat.lt_of_lt_of_le h.lt hb.size⟩
theorem T3.new {w w':World} {L:Nat} {t:TypeId} (hL:L≤w.heap.size) (h:Below (w.alloc (.cells #[.int .u64 0,.int .u64 0,.slice none 0 0] t)).heap.size (w.alloc (.cells #[.int .u64 0,.int .u64 0,.slice none 0 0] t)) w'):T3 w' L w.heap.size:=
 T3.call (w:=w.alloc (.cells #[.int .u64 0,.int .u64 0,.slice none 0 0] t)) ⟨hL,by simp,by simp,by simp,by simp,by simp,by simp,by simp⟩ h
theorem OutV.base {w:World} {B B':Nat} {v:Value} {V:VcT} (h:OutV w B v V) (hB:B'≤B):OutV w B' v V:=by
 obtain ⟨es,h1,h2,h3⟩:=h
 exact ⟨es,h1,own_base h2 hB,fun i e x he hx=>⟨(h3 i e x he hx).1,(h3 i e x he hx).2.1,(h3 i e x he hx).2.2.ivs,(h3 i e x he hx).2.2.soft.base hB,(h3 i e x he hx).2.2.apart⟩⟩
end
end Go.Proofs.YtgcakgegboicjaaGreatDoor
