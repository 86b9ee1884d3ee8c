/- Right, Check, Has, Relate of package span and the reference's. Conditions: the ends are numbers of 64 bits. -/
import Derived.Test.YtchndljcahjldaaGreatDoorMLaw
import Derived.Outline
import Derived.Deep.QuietTactic
import Derived.BigQuiet
import Derived.WalkLawsBesides
namespace Go.Proofs.YtchndljcahjldaaGreatDoor
set_option maxRecDepth 100000
section
open Go.RowKit
variable {a b c d:Int}
def wx2 (a:Int) (b:Bool) (w:World) (e:Ending) (w':World):Prop:=e = .returned (.tuple #[.int .u64 a,.bool b])∧w=w'
theorem xm9 (a b:Int) (w:World) (h0:0≤a) (h:a<b) (h1:b≤18446744073709551615) :
 Calls Tryz.prog 167 #[.int .u64 a,.int .u64 b] w (wx2 (b - a - 1) true w):=by
 go_enter Tryz.func167,Tryz.ntmps167
 go_wp2
 go_ret2
 exact ⟨rfl,rfl⟩
theorem xn0 (a b:Int) (w:World) (h:b≤a) :
 Calls Tryz.prog 167 #[.int .u64 a,.int .u64 b] w (wx2 0 false w):=by
 go_enter Tryz.func167,Tryz.ntmps167
 go_wp2
 go_ret2
 exact ⟨rfl,rfl⟩
theorem yu0 (a b:Int) (w:World) :
 Calls Tryz.prog 115 #[.agg #[.int .u64 a,.int .u64 b]] w (q8 (decide (a≤b)) w):=by
 go_enter Tryz.func115,Tryz.ntmps115
 go_wp2
 go_ret
 exact ⟨rfl,y7 (Below.refl _ _) _⟩
def x07 (a b:Int):Option (Int × Option Int):=if a≤b then none else some (2,none)
theorem yu1 (a b:Int) (w:World) :
 Calls Tryz.prog 211 #[.agg #[.int .u64 a,.int .u64 b]] w fun e w'=>e = .returned (zj1 (x07 a b))∧Below w.heap.size w w':=by
 by_cases h:a≤b
 ·have e:zj1 (x07 a b) = .nilIface:=by unfold x07;rw [if_pos h];rfl
  rw [e]
  go_enter Tryz.func211,Tryz.ntmps211
  go_wp2
  go_ret
  exact ⟨rfl,y7 (Below.refl _ _) _⟩
 ·have e:zj1 (x07 a b) = .iface 31 (.int .i64 2):=by unfold x07;rw [if_neg h];rfl
  rw [e]
  go_enter Tryz.func211,Tryz.ntmps211
  go_wp2
  go_ret
  exact ⟨rfl,y7 (Below.refl _ _) _⟩
def zv3 (a b x:Int):Bool:=decide (a≤x) && decide (x≤b)
theorem wt6 (a b x:Int) (w:World) :
 Calls Tryz.prog 151 #[.agg #[.int .u64 a,.int .u64 b],.int .u64 x] w (q8 (zv3 a b x) w):=by
 by_cases h:a≤x
 ·have hd:decide (a≤x)=true:=by simpa using h
  have e:=qh (show zv3 a b x=decide (x≤b) by unfold zv3;rw [hd];rfl)
  clear h
  go_enter Tryz.func151,Tryz.ntmps151
  go_wp2
  go_ret
  exact ⟨b9 e.out.symm,y7 (Below.refl _ _) _⟩
 ·have hd:decide (a≤x)=false:=by simpa using h
  have e:=qh (show zv3 a b x=false by unfold zv3;rw [hd];rfl)
  clear h
  go_enter Tryz.func151,Tryz.ntmps151
  go_wp2
  go_ret
  exact ⟨b9 e.out.symm,y7 (Below.refl _ _) _⟩
theorem xn1 (a b x:Int) (w:World) :
 Calls Tryz.prog 97 #[.agg #[.int .u64 a,.int .u64 b],.int .u64 x] w (q8 (zv3 a b x) w):=by
 by_cases h:a≤x
 ·have hd:decide (a≤x)=true:=by simpa using h
  have e:=qh (show zv3 a b x=decide (x≤b) by unfold zv3;rw [hd];rfl)
  clear h
  go_enter Tryz.func97,Tryz.ntmps97
  go_wp2
  go_ret
  exact ⟨b9 e.out.symm,y7 (Below.refl _ _) _⟩
 ·have hd:decide (a≤x)=false:=by simpa using h
  have e:=qh (show zv3 a b x=false by unfold zv3;rw [hd];rfl)
  clear h
  go_enter Tryz.func97,Tryz.ntmps97
  go_wp2
  go_ret
  exact ⟨b9 e.out.symm,y7 (Below.refl _ _) _⟩
theorem ya6 (a b c d:Int) (w:World) (hb:0≤b) (hc:c≤18446744073709551615) :
 Calls Tryz.prog 126 #[.agg #[.int .u64 a,.int .u64 b],.agg #[.int .u64 c,.int .u64 d]] w (q8 (decide (b+1=c)) w):=by
 by_cases h:b<c
 ·have K:=qh (fun w=>xm9 b c w hb h hc)
  have e:=qh (show (c - b - 1 == 0)=decide (b+1=c) by rw [Bool.eq_iff_iff];simp;omega)
  clear h hb hc
  go_enter Tryz.func126,Tryz.ntmps126
  go_wp2_with fail
  refine (K.out _).mono ?_
  rintro e w' ⟨rfl,rfl⟩
  go_wp2_with fail
  go_ret
  exact ⟨b9 e.out,y7 (y7 (Below.refl _ _) _) _⟩
 ·have K:=qh (fun w=>xn0 b c w (by omega))
  have e:=qh (show decide (b+1=c)=false by simp;omega)
  clear h hb hc
  go_enter Tryz.func126,Tryz.ntmps126
  go_wp2_with fail
  refine (K.out _).mono ?_
  rintro e w' ⟨rfl,rfl⟩
  go_wp2_with fail
  go_ret
  exact ⟨b9 e.out.symm,y7 (y7 (Below.refl _ _) _) _⟩
theorem z91 {W w1 w2:World} {k m:Nat} {a b c d:Value}
 (h:Below W.heap.size W w1∧w1.cell? ⟨k,0,none⟩=some a∧w1.cell? ⟨k,1,none⟩=some b∧w1.cell? ⟨m,0,none⟩=some c∧w1.cell? ⟨m,1,none⟩=some d)
 (hb:Below w1.heap.size w1 w2) :
 Below W.heap.size W w2∧w2.cell? ⟨k,0,none⟩=some a∧w2.cell? ⟨k,1,none⟩=some b∧w2.cell? ⟨m,0,none⟩=some c∧w2.cell? ⟨m,1,none⟩=some d:=
 ⟨zx0 h.1 (Nat.le_refl _) hb,z6 h.2.1 hb,z6 h.2.2.1 hb,z6 h.2.2.2.1 hb,z6 h.2.2.2.2 hb⟩
theorem xn2 (w:World) (a b c d:Value) (t u:TypeId) :
 Below w.heap.size w ((w.alloc (.cells #[a,b] t)).alloc (.cells #[c,d] u))∧((w.alloc (.cells #[a,b] t)).alloc (.cells #[c,d] u)).cell? ⟨w.heap.size,0,none⟩=some a ∧
  ((w.alloc (.cells #[a,b] t)).alloc (.cells #[c,d] u)).cell? ⟨w.heap.size,1,none⟩=some b∧((w.alloc (.cells #[a,b] t)).alloc (.cells #[c,d] u)).cell? ⟨w.heap.size+1,0,none⟩=some c ∧
  ((w.alloc (.cells #[a,b] t)).alloc (.cells #[c,d] u)).cell? ⟨w.heap.size+1,1,none⟩=some d:=
 ⟨y7 (y7 (Below.refl _ _) _) _,by simp,by simp,by simp,by simp⟩
def z73 (a b c d:Int):Int:=if b+1=c then 1 else if b<c then 0 else if d+1=a then 3 else if d<a then 4 else 2
theorem v89 (h:b+1=c):z73 a b c d=1:=by unfold z73;rw [if_pos h]
theorem v90 (h:¬ b+1=c) (h2:b<c):z73 a b c d=0:=by unfold z73;rw [if_neg h,if_pos h2]
theorem v91 (h2:¬ b<c) (h3:d+1=a):z73 a b c d=3:=by unfold z73;rw [if_neg (by omega),if_neg h2,if_pos h3]
theorem v92 (h2:¬ b<c) (h3:¬ d+1=a) (h4:d<a):z73 a b c d=4:=by unfold z73;rw [if_neg (by omega),if_neg h2,if_neg h3,if_pos h4]
theorem v08 (h2:¬ b<c) (h4:¬ d<a):z73 a b c d=2:=by unfold z73;rw [if_neg (by omega),if_neg h2,if_neg (by omega),if_neg h4]
def zi6 (n:Int) (w:World) (e:Ending) (w':World):Prop:=e = .returned (.int .i64 n)∧Below w.heap.size w w'
theorem zo1 (a b c d:Int) (w:World) (hb:0≤b) (hc:c≤18446744073709551615) (hd:0≤d) (ha:a≤18446744073709551615) :
 Calls Tryz.prog 73 #[.agg #[.int .u64 a,.int .u64 b],.agg #[.int .u64 c,.int .u64 d]] w (zi6 (z73 a b c d) w):=by
 have K1:=qh (fun w=>ya6 a b c d w hb hc)
 have K2:=qh (fun w=>ya6 c d a b w hd ha)
 have hs:=xn2 w (.int .u64 a) (.int .u64 b) (.int .u64 c) (.int .u64 d) 65 65
 have HS:=qh hs;clear hs
 by_cases h1:b+1=c
 ·have hd1:decide (b+1=c)=true:=by simpa using h1
  have R:=qh (v89 (a:=a) (d:=d) h1)
  rw [hd1] at K1
  clear h1 hd1 hb hc hd ha K2
  go_enter Tryz.func73,Tryz.ntmps73
  go_wp2_with fail
  refine (K1.out _).mono ?_
  rintro e w1 ⟨rfl,h1⟩
  have H1:=qh (z91 HS.out h1);clear h1
  go_wp2_with fail
  go_ret
  exact ⟨z62 R.out.symm,H1.out.1⟩
 ·have hd1:decide (b+1=c)=false:=by simpa using h1
  rw [hd1] at K1
  clear hd1
  by_cases h2:b<c
  ·have R:=qh (v90 (a:=a) (d:=d) h1 h2)
   clear h1 hb hc hd ha K2
   go_enter Tryz.func73,Tryz.ntmps73
   go_wp2_with fail
   refine (K1.out _).mono ?_
   rintro e w1 ⟨rfl,h1⟩
   have H1:=qh (z91 HS.out h1);clear h1
   obtain ⟨_,c0,c1,d0,d1⟩:=H1.out
   go_wp2_with fail
   go_ret
   exact ⟨z62 R.out.symm,H1.out.1⟩
  ·clear h1
   by_cases h3:d+1=a
   ·have hd1:decide (d+1=a)=true:=by simpa using h3
    have R:=qh (v91 (a:=a) (d:=d) h2 h3)
    rw [hd1] at K2
    clear h3 hd1 hb hc hd ha
    go_enter Tryz.func73,Tryz.ntmps73
    go_wp2_with fail
    refine (K1.out _).mono ?_
    rintro e w1 ⟨rfl,h1⟩
    have H1:=qh (z91 HS.out h1);clear h1
    obtain ⟨_,c0,c1,d0,d1⟩:=H1.out
    go_wp2_with fail
    refine (K2.out _).mono ?_
    rintro e w2 ⟨rfl,h2⟩
    have H2:=qh (z91 H1.out h2);clear h2 c0 c1 d0 d1
    go_wp2_with fail
    go_ret
    exact ⟨z62 R.out.symm,H2.out.1⟩
   ·have hd1:decide (d+1=a)=false:=by simpa using h3
    rw [hd1] at K2
    clear hd1
    by_cases h4:d<a
    ·have R:=qh (v92 (a:=a) (d:=d) h2 h3 h4)
     clear h3 hb hc hd ha
     go_enter Tryz.func73,Tryz.ntmps73
     go_wp2_with fail
     refine (K1.out _).mono ?_
     rintro e w1 ⟨rfl,h1⟩
     have H1:=qh (z91 HS.out h1);clear h1
     obtain ⟨_,c0,c1,d0,d1⟩:=H1.out
     go_wp2_with fail
     refine (K2.out _).mono ?_
     rintro e w2 ⟨rfl,h2⟩
     have H2:=qh (z91 H1.out h2);clear h2 c0 c1 d0 d1
     obtain ⟨_,c0,c1,d0,d1⟩:=H2.out
     go_wp2_with fail
     go_ret
     exact ⟨z62 R.out.symm,H2.out.1⟩
    ·have R:=qh (v08 (a:=a) (d:=d) h2 h4)
     clear h3 hb hc hd ha
     go_enter Tryz.func73,Tryz.ntmps73
     go_wp2_with fail
     refine (K1.out _).mono ?_
     rintro e w1 ⟨rfl,h1⟩
     have H1:=qh (z91 HS.out h1);clear h1
     obtain ⟨_,c0,c1,d0,d1⟩:=H1.out
     go_wp2_with fail
     refine (K2.out _).mono ?_
     rintro e w2 ⟨rfl,h2⟩
     have H2:=qh (z91 H1.out h2);clear h2 c0 c1 d0 d1
     obtain ⟨_,c0,c1,d0,d1⟩:=H2.out
     go_wp2_with fail
     go_ret
     exact ⟨z62 R.out.symm,H2.out.1⟩
theorem zj4 (a b c d:Int) (w:World) (hb:0≤b) (hc:c≤18446744073709551615) (hd:0≤d) (ha:a≤18446744073709551615) :
 Calls Tryz.prog 116 #[.agg #[.int .u64 a,.int .u64 b],.agg #[.int .u64 c,.int .u64 d]] w (zi6 (z73 a b c d) w):=by
 have HS:=qh (y7 (y7 (Below.refl w.heap.size w) (.cells #[.int .u64 a,.int .u64 b] 65)) (.cells #[.int .u64 c,.int .u64 d] 65))
 by_cases h2:b<c
 ·by_cases h1:b+1=c
  ·have R:=qh (v89 (a:=a) (d:=d) h1)
   have e:(c - b == 1)=true:=by simp;omega
   clear h1 hd ha
   go_enter Tryz.func116,Tryz.ntmps116
   go_wp2_with fail
   go_ret
   exact ⟨z62 R.out.symm,HS.out⟩
  ·have R:=qh (v90 (a:=a) (d:=d) h1 h2)
   have e:(c - b == 1)=false:=by simp;omega
   clear h1 hd ha
   go_enter Tryz.func116,Tryz.ntmps116
   go_wp2_with fail
   go_ret
   exact ⟨z62 R.out.symm,HS.out⟩
 ·by_cases h4:d<a
  ·by_cases h3:d+1=a
   ·have R:=qh (v91 (a:=a) (d:=d) h2 h3)
    have e:(a - d == 1)=true:=by simp;omega
    clear h3 hb hc
    go_enter Tryz.func116,Tryz.ntmps116
    go_wp2_with fail
    go_ret
    exact ⟨z62 R.out.symm,HS.out⟩
   ·have R:=qh (v92 (a:=a) (d:=d) h2 h3 h4)
    have e:(a - d == 1)=false:=by simp;omega
    clear h3 hb hc
    go_enter Tryz.func116,Tryz.ntmps116
    go_wp2_with fail
    go_ret
    exact ⟨z62 R.out.symm,HS.out⟩
  ·have R:=qh (v08 (a:=a) (d:=d) h2 h4)
   clear hb hc hd ha
   go_enter Tryz.func116,Tryz.ntmps116
   go_wp2_with fail
   go_ret
   exact ⟨z62 R.out.symm,HS.out⟩
def vb3 (a b:Int) (r:Bool) (w:World) (e:Ending) (w':World):Prop:=e = .returned (.tuple #[.agg #[.int .u64 a,.int .u64 b],.bool r])∧Below w.heap.size w w'
theorem wi4 (a b c d lo hi:Int) (w:World) (hlo:(if c<a then c else a)=lo) (hhi:(if b<d then d else b)=hi) (hb:0≤b) (hc:c≤18446744073709551615) (hd:0≤d) (ha:a≤18446744073709551615)
 (h0:z73 a b c d≠0) (h4:z73 a b c d≠4) :
 Calls Tryz.prog 234 #[.agg #[.int .u64 a,.int .u64 b],.agg #[.int .u64 c,.int .u64 d]] w (vb3 lo hi true w):=by
 have K:=qh (fun w=>zo1 a b c d w hb hc hd ha)
 obtain ⟨r,hr'⟩:∃ r,z73 a b c d=r:=⟨_,rfl⟩
 rw [hr'] at K h0 h4
 have e0:(r == 0)=false:=by simpa using h0
 have e4:(r == 4)=false:=by simpa using h4
 clear hb hc hd ha h0 h4 hr'
 go_enter Tryz.func234,Tryz.ntmps234
 go_wp2_with fail
 refine (K.out _).mono ?_
 rintro e w1 ⟨rfl,h1⟩
 obtain ⟨r0,r1,d0,d1,c0,c1,_⟩:=At.call h1 (At.new2 (At.new2 (At.new2 (w:=w) (l := []) trivial _ _ _ w.heap.size rfl) _ _ _ (w.heap.size+1) (by simp)) _ _ _ (w.heap.size+1+1) (by simp))
 obtain ⟨⟨f0,_⟩,⟨f1,_⟩,_⟩:=zq6.call h1 (zq6.new2 (w:=(w.alloc _).alloc _) (l := []) trivial _ _ _ (w.heap.size+1+1) (by simp))
 have H1:=qh h1;clear h1
 go_wp2_with fail
 obtain ⟨q0,q1,_⟩:=At.set2 r0 r1 (l := []) trivial (by simp) (.int .u64 lo) (.int .u64 hi)
 refine bodyPost_ret (v := .tuple #[.agg #[.int .u64 lo,.int .u64 hi],.bool true]) (by simp [results,Tryz.results234,go_sem,q0,q1]) rfl ⟨rfl,?_⟩
 exact j7 (j7 (zx0 (y7 (y7 (y7 (Below.refl _ _) _) _) _) (by simp) H1.out) (by omega) _ _) (by omega) _ _
end
end Go.Proofs.YtchndljcahjldaaGreatDoor
