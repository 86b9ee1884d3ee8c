/- The reference's canonical form. -/
import Derived.Test.YtchndljcahjldaaGreatDoorMZRefG
import Derived.Test.YtchndljcahjldaaGreatDoorMZAlive
namespace Go.Proofs.YtchndljcahjldaaGreatDoor
open Go.RowKit
variable {F:t8}
theorem xp5 {t:Int}:∀ {F:t8} {A:v6},(∀ y ∈ A,0≤y.1∧y.1≤18446744073709551615)→(∀ x ∈ F,∀ y ∈ x.2,0≤y.1∧y.1≤18446744073709551615)→∀ y ∈ F.foldl (z09 t) A,0≤y.1∧y.1≤18446744073709551615
 | [],_,hA,_=>hA
 | x :: F,A,hA,hF=>by
   refine xp5 (F:=F) (fun y hy => ?_) fun z hz=>hF z (List.mem_cons_of_mem _ hz)
   unfold z09 at hy
   split at hy
   ·rcases (zk6 A x.2 y.1).1 (wq6 y hy) with ⟨z,hz,e⟩ | ⟨z,hz,e⟩
    all_goals grind
   grind
theorem xg5 (hF:∀ x ∈ F,∀ y ∈ x.2,0≤y.1∧y.1≤18446744073709551615):∀ x ∈ s5 F,∀ y ∈ x.2,0≤y.1∧y.1≤18446744073709551615:=fun x hx=>by
 unfold s5 at hx
 obtain ⟨p,_,rfl⟩:=List.mem_map.1 hx
 exact xp5 (fun y hy=>by cases hy) hF
theorem wn5 {w:World} {v:Value} (hv:z85 w v F):∀ x ∈ F,∀ y ∈ x.2,0≤y.1∧y.1≤18446744073709551615:=fun x hx y hy=>by
 obtain ⟨i,hi⟩:=List.mem_iff_getElem?.1 hx
 obtain ⟨_,_,_,_,_,_,_,_,_,_,hf⟩:=hv.elem (L:=x.1) (V:=x.2) hi
 exact hf.vec.rng y hy
theorem xg6 (hF:x9 F) (hs:z58 F):∀ x ∈ s5 F,∀ y ∈ x.2,y.2.2.length≤1000:=fun x hx y hy=>by
 unfold s5 at hx
 obtain ⟨p,_,rfl⟩:=List.mem_map.1 hx
 have h:=(y60 (t:=p.1) (n:=20) (m:=30) F [] 0 0 z10 hF ⟨Nat.zero_le _,fun x hx=>(by cases hx)⟩ (fun x hx=>⟨(hs.2 x hx).2.1,(hs.2 x hx).2.2⟩)).2 y hy
 have:=hs.1
 omega
def va6 (G:t8) (w:World) (e:Ending) (w':World):Prop:=∃ u,e = .returned u∧zn8 w' u G∧Below w.heap.size w w'
theorem ye5 (F:t8) (v:Value) (w:World) (hv:z85 w v F) (hF:x9 F) (hs:z58 F):Calls Tryz.prog 19 #[v] w (va6 (q6 (s5 F)) w):=by
 have hm:=zy3 hs
 have K1:=qh (yb9 F v w hv hF hs)
 have K2:=qh (fun u W (h:zn8 W u (s5 F))=>x26 (s5 F) u W h (xg5 (wn5 hv)) (z11 hF) (by have:=hm.2;omega) (by have:=hm.1;omega) (xg6 hF hs))
 have HL:=qh (show (s5 F).length≤100000 by have:=hm.1;omega)
 have HL2:=qh (show (q6 (s5 F)).length≤100000 by have:=hm.1;have:=zy4 (s5 F);omega)
 obtain ⟨p,cap,rfl⟩:=hv.shape
 clear hv hF hs hm
 generalize q6 (s5 F)=G at *
 generalize s5 F=R at *
 go_enter Tryz.func19,Tryz.ntmps19
 go_wp2_with fail
 refine K1.out.mono ?_
 rintro e w1 ⟨u,rfl,hu,h⟩
 have H1:=qh h;clear h
 have K2':=qh (K2.out u w1 (hu.i HL.out))
 obtain ⟨pu,cu,rfl⟩:=hu.shape
 clear hu
 go_wp2_with fail
 refine K2'.out.mono ?_
 rintro e w2 ⟨u2,es,rfl,hR,he⟩
 have hi:=hR.i (by have e3:=congrArg List.length he;rw [List.length_map] at e3;rw [e3];exact HL2.out)
 rw [he] at hi
 have HI:=qh (And.intro hi (z7 H1.out hR.low))
 obtain ⟨p2,c2,rfl⟩:=hi.shape
 clear hi hR he
 go_wp2_with fail
 go_ret
 exact ⟨_,rfl,HI.out.1,HI.out.2⟩
end Go.Proofs.YtchndljcahjldaaGreatDoor
