/- slices.Sort on numbers of 64 bits: what the partitions keep (plain mathematics). -/
import Derived.Test.YtchndljcahjldaaGreatDoorMUMem
namespace Go.Proofs.YtchndljcahjldaaGreatDoor
set_option maxRecDepth 100000
set_option maxHeartbeats 4000000
section
open Go.RowKit
open Go.Sort hiding Below
variable {a b i j:Nat} {d dk:Array Int} {pv:Int}
structure PI (p:Int→Bool) (a b i j:Nat) (pv:Int) (d dk:Array Int):Prop where
 size:dk.size=d.size
 perm:PermIn a b d dk
 piv:dk[a]! = pv
 lo:∀ t,a<t→t<i→p dk[t]! = true
 hi:∀ t,j<t→t<b→p dk[t]! = false
 b1:a<i
 b2:i≤j+1
 b3:j<b
 b4:b≤d.size
theorem PI.start {p:Int→Bool} {q:Nat} (h1:a≤q) (h2:q<b) (hb:b≤d.size):PI p a b (a+1) (b - 1) d[q]! d (swp d a q):=by
 refine ⟨size_swp _ _ _,swp_permIn _ _ _ _ _ (by omega) (by omega) (by omega) (by omega) hb,?_,fun t h3 h4=>by omega,fun t h3 h4=>by omega,by omega,by omega,by omega,hb⟩
 rw [x08 d (by omega) (by omega)]
 by_cases h:a=q
 ·rw [if_pos h,h]
 ·rw [if_neg h,if_pos rfl]
theorem PI.up {p:Int→Bool} (h:PI p a b i j pv d dk) (hij:i≤j) (hp:p dk[i]! = true):PI p a b (i+1) j pv d dk:=
 ⟨h.size,h.perm,h.piv,fun t h1 h2=>by
  rcases Nat.lt_or_eq_of_le (Nat.le_of_lt_succ h2) with h3 | h3
  ·exact h.lo t h1 h3
  ·rw [h3];exact hp,h.hi,by have:=h.b1;omega,by omega,h.b3,h.b4⟩
theorem PI.down {p:Int→Bool} (h:PI p a b i j pv d dk) (hij:i≤j) (hp:p dk[j]! = false):PI p a b i (j - 1) pv d dk:=
 ⟨h.size,h.perm,h.piv,h.lo,fun t h1 h2=>by
  by_cases h3:t=j
  ·rw [h3];exact hp
  ·exact h.hi t (by omega) h2,h.b1,by omega,by have:=h.b3;omega,h.b4⟩
theorem PI.lt {p:Int→Bool} (_:PI p a b i j pv d dk) (hij:i≤j) (h1:p dk[i]! = false) (h2:p dk[j]! = true):i<j:=by
 rcases Nat.lt_or_eq_of_le hij with h | h
 ·exact h
 ·rw [h,h2] at h1;cases h1
theorem PI.swap {p:Int→Bool} (h:PI p a b i j pv d dk) (hij:i<j) (h1:p dk[i]! = false) (h2:p dk[j]! = true):PI p a b (i+1) (j - 1) pv d (swp dk i j):=by
 have b1:=h.b1
 have b3:=h.b3
 have b4:=h.b4
 have hs:=h.size
 have hat:=x08 dk (i:=i) (j:=j) (by omega) (by omega)
 refine ⟨by rw [size_swp];exact hs,permIn_trans _ _ _ _ _ h.perm (swp_permIn _ _ _ _ _ (by omega) (by omega) (by omega) (by omega) (by omega)),?_,fun t h3 h4 => ?_,fun t h3 h4 => ?_,by omega,by omega,by omega,b4⟩
 ·rw [hat,if_neg (by omega),if_neg (by omega)];exact h.piv
 ·rw [hat,if_neg (by omega)]
  by_cases h5:t=i
  ·rw [if_pos h5];exact h2
  ·rw [if_neg h5];exact h.lo t h3 (by omega)
 ·rw [hat]
  by_cases h5:t=j
  ·rw [if_pos h5];exact h1
  ·rw [if_neg h5,if_neg (by omega)];exact h.hi t (by omega) h4
theorem PI.done (h:PI (fun x=>ltInt x pv) a b i j pv d dk) (hij:j<i) :
 a≤j∧j<b∧PermIn a b d (swp dk j a)∧(∀ t,a≤t→t<j→ltInt (swp dk j a)[t]! (swp dk j a)[j]! = true)∧(∀ t,j<t→t<b→ltInt (swp dk j a)[t]! (swp dk j a)[j]! = false):=by
 have b1:=h.b1
 have b2:=h.b2
 have b3:=h.b3
 have b4:=h.b4
 have hs:=h.size
 have hat:=x08 dk (i:=j) (j:=a) (by omega) (by omega)
 have hpj:(swp dk j a)[j]! = pv:=by
  rw [hat]
  by_cases e:j=a
  ·rw [if_pos e,e];exact h.piv
  ·rw [if_neg e,if_pos rfl];exact h.piv
 refine ⟨by omega,b3,permIn_trans _ _ _ _ _ h.perm (swp_permIn _ _ _ _ _ (by omega) (by omega) (by omega) (by omega) (by omega)),fun t h3 h4 => ?_,fun t h3 h4 => ?_⟩
 ·rw [hpj,hat]
  by_cases e:t=a
  ·rw [if_pos e];exact h.lo j (by omega) (by omega)
  ·rw [if_neg e,if_neg (by omega)];exact h.lo t (by omega) (by omega)
 ·rw [hpj,hat,if_neg (by omega),if_neg (by omega)]
  exact h.hi t h3 h4
theorem PI.doneE (h:PI (fun x => !ltInt pv x) a b i j pv d dk) (hij:j<i) :
 a<i∧i≤b∧PermIn a b d dk∧(∀ t,a≤t→t<i→ltInt pv dk[t]! = false)∧(∀ t,i≤t→t<b→ltInt pv dk[t]! = true):=by
 have b1:=h.b1
 have b2:=h.b2
 have b3:=h.b3
 refine ⟨b1,by omega,h.perm,fun t h3 h4 => ?_,fun t h3 h4 => ?_⟩
 ·by_cases e:t=a
  ·rw [e,h.piv];exact swo_ltInt.irrefl pv
  ·have:=h.lo t (by omega) h4
   simpa using this
 ·have:=h.hi t (by omega) h4
  simpa using this
theorem wi7 (g o cap n:Nat) (d:Array Int) (hn:d.size=n) (a b q:Nat) (w:World) (hH:z74 w g o d) (haq:a≤q) (hqb:q<b) (hb:b≤d.size) (hsz:d.size<2305843009213693952) :
 Calls Tryz.prog 265 #[.slice (some ⟨g,o,none⟩) n cap,.int .i64 a,.int .i64 b,.int .i64 q] w (fun e w'=>∃ (i:Nat) (d':Array Int),e = .returned (.int .i64 i)∧(a<i∧i≤b∧PermIn a b d d'∧(∀ t,a≤t→t<i→ltInt d[q]! d'[t]! = false)∧(∀ t,i≤t→t<b→ltInt d[q]! d'[t]! = true))∧m6 w g o d' w'):=by
 subst hn
 have hla:a<d.size:=by omega
 have hlq:q<d.size:=by omega
 have KL:=qh zs5
 have HST:=qh (PI.start (p:=(fun x => !ltInt (d[q]!) x)) haq hqb hb)
 obtain ⟨x,hx⟩:∃ x,d[a]! = x:=⟨_,rfl⟩
 obtain ⟨pv,hpv⟩:∃ pv,d[q]! = pv:=⟨_,rfl⟩
 have ca:=hH.cell hla
 have cq:=hH.cell hlq
 have fa:=hH.free hla
 have fq:=hH.free hlq
 rw [hx] at ca
 rw [hpv] at cq HST
 obtain ⟨v',hy'⟩:=c8 (w:=w) (p:=⟨g,o+a,none⟩) (x := .int .u64 pv) cq
 have HSW:=qh (fun (y z:Value) hy hz=>(m6.start hH).swap (i:=a) (j:=q) (x:=y) (y:=z) hla hlq hy hz)
 rw [hpv]
 have HX:=qh (And.intro hx hpv);clear hx hpv hH
 go_enter Tryz.func265,Tryz.ntmps265
 go_wp2_with fail
 go_region
 go_wp2_with fail
 have HR:=qh (HSW.out _ _ (by rw [HX.out.2]) (by rw [HX.out.1]))
 have HP:=qh HST.out
 clear ca cq fa fq hy' v' HSW HX HST
 generalize (((w.setCell ⟨g,o+a,none⟩ (.int .u64 pv)).setCell ⟨g,o+q,none⟩ (.int .u64 x)).drew)=W0 at HR ⊢
 go_loopw [9,10] (fun vi vj wr=>∃ (i j:Nat) (dk:Array Int),vi = .int .i64 i∧vj = .int .i64 j∧PI (fun x => !ltInt pv x) a b i j pv d dk∧m6 w g o dk wr) (fun vi vj _=>(intOf vj).toNat+1 - (intOf vi).toNat)
 case atStart=>exact ⟨a+1,b - 1,_,by go_num,by congr 1;omega,HP.out,HR.out⟩
 case round =>
  clear HP HR
  obtain ⟨i,j,dk,rfl,rfl,hp,hr⟩:=hrel
  obtain ⟨M,hM0⟩:∃ M:Nat,j+1 - i=M:=⟨_,rfl⟩
  obtain ⟨G,hG⟩:∃ G:Nat→Int,∀ t,dk[t]! = G t:=⟨fun t=>dk[t]!,fun _=>rfl⟩
  have HGA:=qh (show G a=pv by rw [← hG];exact hp.piv)
  have HG:=qh hG;clear hG
  have HP:=qh hp
  have HR:=qh hr
  have b1:=hp.b1
  have b2:=hp.b2
  have b3:=hp.b3
  have b4:=hp.b4
  clear hp hr
  go_wp2_with fail
  go_loopw [9] (fun vi wr=>∃ i:Nat,vi = .int .i64 i∧j+1 - i≤M∧PI (fun x => !ltInt pv x) a b i j pv d dk∧m6 w g o dk wr) (fun vi _=>j+1 - (intOf vi).toNat)
  case atStart=>exact ⟨i,rfl,by omega,HP.out,HR.out⟩
  case round =>
   clear HP HR b1 b2 b3 b4
   obtain ⟨i,rfl,hM,hp,hr⟩:=hrel
   have hcw:∀ t,t<d.size→wr.cell? ⟨g,o+t,none⟩=some (.int .u64 (G t)):=fun t ht=>by rw [hr.row.cell (by have:=hp.size;omega),HG.out]
   have HP:=qh hp
   have HR:=qh hr
   have b1:=hp.b1
   have b2:=hp.b2
   have b3:=hp.b3
   have b4:=hp.b4
   clear hp hr
   have l2:a<d.size:=by omega
   by_cases hle:i≤j
   ·have l1:i<d.size:=by omega
    cases hb:ltInt (G a) (G i) with
    | false =>
      go_wp2_with fail
      go_quiet (first | (go_at_call 264;refine Calls.quiet_of_same (KL.out _ _ _)))
      go_wp2_with fail
      go_roundw
      case rel=>exact ⟨i+1,by go_num,by omega,HP.out.up hle ((by show (!ltInt pv dk[i]!)=_;rw [HG.out,← HGA.out,hb];rfl)),HR.out.drewN _⟩
      case measure=>simp [intOf] <;> omega
    | true =>
      have HS1:=qh (show (fun x => !ltInt pv x) dk[i]! = false from (by show (!ltInt pv dk[i]!)=_;rw [HG.out,← HGA.out,hb];rfl))
      go_wp2_with fail
      go_quiet (first | (go_at_call 264;refine Calls.quiet_of_same (KL.out _ _ _)))
      have HR:=qh (HR.out.drewN nq)
      clear hcw
      generalize wr.drewN nq=W2 at HR ⊢
      clear hb
      go_wp2_with fail
      go_loopw [10] (fun vj wr=>∃ j:Nat,vj = .int .i64 j∧j+1 - i≤M∧PI (fun x => !ltInt pv x) a b i j pv d dk∧m6 w g o dk wr) (fun vj _=>(intOf vj).toNat)
      case atStart=>exact ⟨j,rfl,hM,HP.out,HR.out⟩
      case round =>
       clear HP HR b1 b2 b3 b4 hle hM
       obtain ⟨j,rfl,hM,hp,hr⟩:=hrel
       have hcw:∀ t,t<d.size→wr.cell? ⟨g,o+t,none⟩=some (.int .u64 (G t)):=fun t ht=>by rw [hr.row.cell (by have:=hp.size;omega),HG.out]
       have HP:=qh hp
       have HR:=qh hr
       have b1:=hp.b1
       have b2:=hp.b2
       have b3:=hp.b3
       have b4:=hp.b4
       clear hp hr
       by_cases hle:i≤j
       ·have l3:j<d.size:=by omega
        have l4:0<j:=by omega
        cases hb:ltInt (G a) (G j) with
        | true =>
          go_wp2_with fail
          go_quiet (first | (go_at_call 264;refine Calls.quiet_of_same (KL.out _ _ _)))
          go_wp2_with fail
          go_roundw
          case rel=>exact ⟨j - 1,by congr 1;omega,by omega,HP.out.down hle ((by show (!ltInt pv dk[j]!)=_;rw [HG.out,← HGA.out,hb];rfl)),HR.out.drewN _⟩
          case measure=>simp [intOf] <;> omega
        | false =>
          have HS2:=qh (show (fun x => !ltInt pv x) dk[j]! = true from (by show (!ltInt pv dk[j]!)=_;rw [HG.out,← HGA.out,hb];rfl))
          go_wp2_with fail
          go_quiet (first | (go_at_call 264;refine Calls.quiet_of_same (KL.out _ _ _)))
          have hlt:=HP.out.lt hle HS1.out HS2.out
          have hfw:∀ t,t<d.size→wr.frozen? ⟨g,o+t,none⟩=false:=fun t ht=>HR.out.row.free (by have:=HP.out.size;omega)
          have hcw:∀ t,t<d.size→(wr.drewN nq).cell? ⟨g,o+t,none⟩=some (.int .u64 (G t)):=fun t ht=>hcw t ht
          have hfw:∀ t,t<d.size→(wr.drewN nq).frozen? ⟨g,o+t,none⟩=false:=fun t ht=>hfw t ht
          have HR:=qh (HR.out.drewN nq)
          generalize wr.drewN nq=W2 at HR hcw hfw ⊢
          clear hb
          go_wp2_with fail
          go_region
          go_wp2_with fail
          go_roundw
          case rel=>exact ⟨i+1,j - 1,swp dk i j,by go_num,by congr 1;omega,HP.out.swap hlt HS1.out HS2.out,m6.swap HR.out (by have:=HP.out.size;omega) (by have:=HP.out.size;omega) (by rw [HG.out]) (by rw [HG.out])⟩
          case measure=>simp [intOf] <;> omega
       ·go_wp2_with fail
        go_quiet (first | (go_at_call 264;refine Calls.quiet_of_same (KL.out _ _ _)))
        have HR:=qh (HR.out.drewN nq)
        clear hcw
        generalize wr.drewN nq=W2 at HR ⊢
        go_wp2_with fail
        go_ret
        exact ⟨i,dk,rfl,HP.out.doneE (by omega),HR.out⟩
   ·go_wp2_with fail
    go_quiet (first | (go_at_call 264;refine Calls.quiet_of_same (KL.out _ _ _)))
    have HR:=qh (HR.out.drewN nq)
    clear hcw
    generalize wr.drewN nq=W2 at HR ⊢
    go_wp2_with fail
    go_loopw [10] (fun vj wr=>vj = .int .i64 j∧m6 w g o dk wr) (fun _ _=>0)
    case atStart=>exact ⟨rfl,HR.out⟩
    case round =>
     obtain ⟨rfl,hr⟩:=hrel
     have hcw:∀ t,t<d.size→wr.cell? ⟨g,o+t,none⟩=some (.int .u64 (G t)):=fun t ht=>by rw [hr.row.cell (by have:=HP.out.size;omega),HG.out]
     clear HR
     have HR:=qh hr;clear hr
     go_wp2_with fail
     go_quiet (first | (go_at_call 264;refine Calls.quiet_of_same (KL.out _ _ _)))
     have HR:=qh (HR.out.drewN nq)
     clear hcw
     generalize wr.drewN nq=W2 at HR ⊢
     go_wp2_with fail
     go_ret
     exact ⟨i,dk,rfl,HP.out.doneE (by omega),HR.out⟩
theorem v13 (g o cap n:Nat) (d:Array Int) (hn:d.size=n) (a b q:Nat) (w:World) (hH:z74 w g o d) (haq:a≤q) (hqb:q<b) (hb:b≤d.size) (hsz:d.size<2305843009213693952) :
 Calls Tryz.prog 266 #[.slice (some ⟨g,o,none⟩) n cap,.int .i64 a,.int .i64 b,.int .i64 q] w (fun e w'=>∃ (j:Nat) (x:Bool) (d':Array Int),e = .returned (.tuple #[.int .i64 j,.bool x])∧(a≤j∧j<b∧PermIn a b d d'∧(∀ t,a≤t→t<j→ltInt d'[t]! d'[j]! = true)∧(∀ t,j<t→t<b→ltInt d'[t]! d'[j]! = false))∧m6 w g o d' w'):=by
 subst hn
 have hla:a<d.size:=by omega
 have hlq:q<d.size:=by omega
 have KL:=qh zs5
 have HST:=qh (PI.start (p:=(fun x=>ltInt x (d[q]!))) haq hqb hb)
 obtain ⟨x,hx⟩:∃ x,d[a]! = x:=⟨_,rfl⟩
 obtain ⟨pv,hpv⟩:∃ pv,d[q]! = pv:=⟨_,rfl⟩
 have ca:=hH.cell hla
 have cq:=hH.cell hlq
 have fa:=hH.free hla
 have fq:=hH.free hlq
 rw [hx] at ca
 rw [hpv] at cq HST
 obtain ⟨v',hy'⟩:=c8 (w:=w) (p:=⟨g,o+a,none⟩) (x := .int .u64 pv) cq
 have HSW:=qh (fun (y z:Value) hy hz=>(m6.start hH).swap (i:=a) (j:=q) (x:=y) (y:=z) hla hlq hy hz)
 have HX:=qh (And.intro hx hpv);clear hx hpv hH
 go_enter Tryz.func266,Tryz.ntmps266
 go_wp2_with fail
 go_region
 go_wp2_with fail
 have HR:=qh (HSW.out _ _ (by rw [HX.out.2]) (by rw [HX.out.1]))
 have HP:=qh HST.out
 clear ca cq fa fq hy' v' HSW HX HST
 generalize (((w.setCell ⟨g,o+a,none⟩ (.int .u64 pv)).setCell ⟨g,o+q,none⟩ (.int .u64 x)).drew)=W0 at HR ⊢
 obtain ⟨i,hi⟩:∃ i:Nat,a+1=i:=⟨_,rfl⟩
 obtain ⟨j,hj⟩:∃ j:Nat,b - 1=j:=⟨_,rfl⟩
 have e1:(a:Int)+1=(i:Int):=by omega
 have e2:(b:Int) - 1=(j:Int):=by omega
 rw [e1,e2]
 clear e1 e2
 obtain ⟨dk,hdk⟩:∃ dk,swp d a q=dk:=⟨_,rfl⟩
 rw [hi,hj,hdk] at HP
 rw [hdk] at HR
 clear hi hj hdk
 have hp:=HP.out
 have hr:=HR.out
 clear HP HR
 obtain ⟨M,hM0⟩:∃ M:Nat,j+1 - i=M:=⟨_,rfl⟩
 obtain ⟨G,hG⟩:∃ G:Nat→Int,∀ t,dk[t]! = G t:=⟨fun t=>dk[t]!,fun _=>rfl⟩
 have HGA:=qh (show G a=pv by rw [← hG];exact hp.piv)
 have HG:=qh hG;clear hG
 have HP:=qh hp
 have HR:=qh hr
 have b1:=hp.b1
 have b2:=hp.b2
 have b3:=hp.b3
 have b4:=hp.b4
 clear hp hr
 go_loopw [10] (fun vi wr=>∃ i:Nat,vi = .int .i64 i∧j+1 - i≤M∧PI (fun x=>ltInt x pv) a b i j pv d dk∧m6 w g o dk wr) (fun vi _=>j+1 - (intOf vi).toNat)
 case atStart=>exact ⟨i,rfl,by omega,HP.out,HR.out⟩
 case round =>
  clear HP HR b1 b2 b3 b4
  obtain ⟨i,rfl,hM,hp,hr⟩:=hrel
  have hcw:∀ t,t<d.size→wr.cell? ⟨g,o+t,none⟩=some (.int .u64 (G t)):=fun t ht=>by rw [hr.row.cell (by have:=hp.size;omega),HG.out]
  have HP:=qh hp
  have HR:=qh hr
  have b1:=hp.b1
  have b2:=hp.b2
  have b3:=hp.b3
  have b4:=hp.b4
  clear hp hr
  have l2:a<d.size:=by omega
  by_cases hle:i≤j
  ·have l1:i<d.size:=by omega
   cases hb:ltInt (G i) (G a) with
   | true =>
     go_wp2_with fail
     go_quiet (first | (go_at_call 264;refine Calls.quiet_of_same (KL.out _ _ _)))
     go_wp2_with fail
     go_roundw
     case rel=>exact ⟨i+1,by go_num,by omega,HP.out.up hle ((by show ltInt dk[i]! pv=_;rw [HG.out,← HGA.out,hb])),HR.out.drewN _⟩
     case measure=>simp [intOf] <;> omega
   | false =>
     have HS1:=qh (show (fun x=>ltInt x pv) dk[i]! = false from (by show ltInt dk[i]! pv=_;rw [HG.out,← HGA.out,hb]))
     go_wp2_with fail
     go_quiet (first | (go_at_call 264;refine Calls.quiet_of_same (KL.out _ _ _)))
     have HR:=qh (HR.out.drewN nq)
     clear hcw
     generalize wr.drewN nq=W2 at HR ⊢
     clear hb
     go_wp2_with fail
     go_loopw [11] (fun vj wr=>∃ j:Nat,vj = .int .i64 j∧j+1 - i≤M∧PI (fun x=>ltInt x pv) a b i j pv d dk∧m6 w g o dk wr) (fun vj _=>(intOf vj).toNat)
     case atStart=>exact ⟨j,rfl,hM,HP.out,HR.out⟩
     case round =>
      clear HP HR b1 b2 b3 b4 hle hM
      obtain ⟨j,rfl,hM,hp,hr⟩:=hrel
      have hcw:∀ t,t<d.size→wr.cell? ⟨g,o+t,none⟩=some (.int .u64 (G t)):=fun t ht=>by rw [hr.row.cell (by have:=hp.size;omega),HG.out]
      have HP:=qh hp
      have HR:=qh hr
      have b1:=hp.b1
      have b2:=hp.b2
      have b3:=hp.b3
      have b4:=hp.b4
      clear hp hr
      by_cases hle:i≤j
      ·have l3:j<d.size:=by omega
       have l4:0<j:=by omega
       cases hb:ltInt (G j) (G a) with
       | false =>
         go_wp2_with fail
         go_quiet (first | (go_at_call 264;refine Calls.quiet_of_same (KL.out _ _ _)))
         go_wp2_with fail
         go_roundw
         case rel=>exact ⟨j - 1,by congr 1;omega,by omega,HP.out.down hle ((by show ltInt dk[j]! pv=_;rw [HG.out,← HGA.out,hb])),HR.out.drewN _⟩
         case measure=>simp [intOf] <;> omega
       | true =>
         have HS2:=qh (show (fun x=>ltInt x pv) dk[j]! = true from (by show ltInt dk[j]! pv=_;rw [HG.out,← HGA.out,hb]))
         go_wp2_with fail
         go_quiet (first | (go_at_call 264;refine Calls.quiet_of_same (KL.out _ _ _)))
         have hlt:=HP.out.lt hle HS1.out HS2.out
         have hfw:∀ t,t<d.size→wr.frozen? ⟨g,o+t,none⟩=false:=fun t ht=>HR.out.row.free (by have:=HP.out.size;omega)
         have hcw:∀ t,t<d.size→(wr.drewN nq).cell? ⟨g,o+t,none⟩=some (.int .u64 (G t)):=fun t ht=>hcw t ht
         have hfw:∀ t,t<d.size→(wr.drewN nq).frozen? ⟨g,o+t,none⟩=false:=fun t ht=>hfw t ht
         have HR:=qh (HR.out.drewN nq)
         generalize wr.drewN nq=W2 at HR hcw hfw ⊢
         clear hb
         go_wp2_with fail
         go_region
         go_wp2_with fail
         have HP2:=qh (HP.out.swap hlt HS1.out HS2.out)
         have HR2:=qh (m6.swap HR.out (i:=i) (j:=j) (by have:=HP.out.size;omega) (by have:=HP.out.size;omega) (by rw [HG.out]) (by rw [HG.out]))
         obtain ⟨z1,hz1⟩:∃ z1,(i:Int)+1=z1:=⟨_,rfl⟩
         obtain ⟨z2,hz2⟩:∃ z2,(j:Int) - 1=z2:=⟨_,rfl⟩
         rw [hz1,hz2,show decide (j<i)=false from decide_eq_false (by omega)]
         have HZ1:=qh (And.intro hz1 hz2);clear hz1 hz2
         generalize ltInt (G i) (G a)=q1
         generalize ltInt (G j) (G a)=q2
         go_loopw [10,11] (fun vi vj wr=>∃ (i j:Nat) (dk:Array Int),vi = .int .i64 i∧vj = .int .i64 j∧PI (fun x=>ltInt x pv) a b i j pv d dk∧m6 w g o dk wr) (fun vi vj _=>(intOf vj).toNat+1 - (intOf vi).toNat)
         case atStart=>exact ⟨i+1,j - 1,_,by rw [← HZ1.out.1];go_num,by rw [← HZ1.out.2];congr 1;omega,HP2.out,HR2.out⟩
         case round =>
             clear hcw hfw hlt hle b1 b2 b3 b4
             obtain ⟨i,j,dk,rfl,rfl,hp,hr⟩:=hrel
             obtain ⟨M,hM0⟩:∃ M:Nat,j+1 - i=M:=⟨_,rfl⟩
             obtain ⟨G,hG⟩:∃ G:Nat→Int,∀ t,dk[t]! = G t:=⟨fun t=>dk[t]!,fun _=>rfl⟩
             have HGA:=qh (show G a=pv by rw [← hG];exact hp.piv)
             have HG:=qh hG;clear hG
             have HP:=qh hp
             have HR:=qh hr
             have b1:=hp.b1
             have b2:=hp.b2
             have b3:=hp.b3
             have b4:=hp.b4
             clear hp hr
             go_wp2_with fail
             go_loopw [10] (fun vi wr=>∃ i:Nat,vi = .int .i64 i∧j+1 - i≤M∧PI (fun x=>ltInt x pv) a b i j pv d dk∧m6 w g o dk wr) (fun vi _=>j+1 - (intOf vi).toNat)
             case atStart=>exact ⟨i,rfl,by omega,HP.out,HR.out⟩
             case round =>
              clear HP HR b1 b2 b3 b4
              obtain ⟨i,rfl,hM,hp,hr⟩:=hrel
              have hcw:∀ t,t<d.size→wr.cell? ⟨g,o+t,none⟩=some (.int .u64 (G t)):=fun t ht=>by rw [hr.row.cell (by have:=hp.size;omega),HG.out]
              have HP:=qh hp
              have HR:=qh hr
              have b1:=hp.b1
              have b2:=hp.b2
              have b3:=hp.b3
              have b4:=hp.b4
              clear hp hr
              have l2:a<d.size:=by omega
              by_cases hle:i≤j
              ·have l1:i<d.size:=by omega
               cases hb:ltInt (G i) (G a) with
               | true =>
                 go_wp2_with fail
                 go_quiet (first | (go_at_call 264;refine Calls.quiet_of_same (KL.out _ _ _)))
                 go_wp2_with fail
                 go_roundw
                 case rel=>exact ⟨i+1,by go_num,by omega,HP.out.up hle ((by show ltInt dk[i]! pv=_;rw [HG.out,← HGA.out,hb])),HR.out.drewN _⟩
                 case measure=>simp [intOf] <;> omega
               | false =>
                 have HS1:=qh (show (fun x=>ltInt x pv) dk[i]! = false from (by show ltInt dk[i]! pv=_;rw [HG.out,← HGA.out,hb]))
                 go_wp2_with fail
                 go_quiet (first | (go_at_call 264;refine Calls.quiet_of_same (KL.out _ _ _)))
                 have HR:=qh (HR.out.drewN nq)
                 clear hcw
                 generalize wr.drewN nq=W2 at HR ⊢
                 clear hb
                 go_wp2_with fail
                 go_loopw [11] (fun vj wr=>∃ j:Nat,vj = .int .i64 j∧j+1 - i≤M∧PI (fun x=>ltInt x pv) a b i j pv d dk∧m6 w g o dk wr) (fun vj _=>(intOf vj).toNat)
                 case atStart=>exact ⟨j,rfl,hM,HP.out,HR.out⟩
                 case round =>
                  clear HP HR b1 b2 b3 b4 hle hM
                  obtain ⟨j,rfl,hM,hp,hr⟩:=hrel
                  have hcw:∀ t,t<d.size→wr.cell? ⟨g,o+t,none⟩=some (.int .u64 (G t)):=fun t ht=>by rw [hr.row.cell (by have:=hp.size;omega),HG.out]
                  have HP:=qh hp
                  have HR:=qh hr
                  have b1:=hp.b1
                  have b2:=hp.b2
                  have b3:=hp.b3
                  have b4:=hp.b4
                  clear hp hr
                  by_cases hle:i≤j
                  ·have l3:j<d.size:=by omega
                   have l4:0<j:=by omega
                   cases hb:ltInt (G j) (G a) with
                   | false =>
                     go_wp2_with fail
                     go_quiet (first | (go_at_call 264;refine Calls.quiet_of_same (KL.out _ _ _)))
                     go_wp2_with fail
                     go_roundw
                     case rel=>exact ⟨j - 1,by congr 1;omega,by omega,HP.out.down hle ((by show ltInt dk[j]! pv=_;rw [HG.out,← HGA.out,hb])),HR.out.drewN _⟩
                     case measure=>simp [intOf] <;> omega
                   | true =>
                     have HS2:=qh (show (fun x=>ltInt x pv) dk[j]! = true from (by show ltInt dk[j]! pv=_;rw [HG.out,← HGA.out,hb]))
                     go_wp2_with fail
                     go_quiet (first | (go_at_call 264;refine Calls.quiet_of_same (KL.out _ _ _)))
                     have hlt:=HP.out.lt hle HS1.out HS2.out
                     have hfw:∀ t,t<d.size→wr.frozen? ⟨g,o+t,none⟩=false:=fun t ht=>HR.out.row.free (by have:=HP.out.size;omega)
                     have hcw:∀ t,t<d.size→(wr.drewN nq).cell? ⟨g,o+t,none⟩=some (.int .u64 (G t)):=fun t ht=>hcw t ht
                     have hfw:∀ t,t<d.size→(wr.drewN nq).frozen? ⟨g,o+t,none⟩=false:=fun t ht=>hfw t ht
                     have HR:=qh (HR.out.drewN nq)
                     generalize wr.drewN nq=W2 at HR hcw hfw ⊢
                     clear hb
                     go_wp2_with fail
                     go_region
                     go_wp2_with fail
                     go_roundw
                     case rel=>exact ⟨i+1,j - 1,swp dk i j,by go_num,by congr 1;omega,HP.out.swap hlt HS1.out HS2.out,m6.swap HR.out (by have:=HP.out.size;omega) (by have:=HP.out.size;omega) (by rw [HG.out]) (by rw [HG.out])⟩
                     case measure=>simp [intOf] <;> omega
                  ·go_wp2_with fail
                   go_quiet (first | (go_at_call 264;refine Calls.quiet_of_same (KL.out _ _ _)))
                   have HR:=qh (HR.out.drewN nq)
                   clear hcw
                   generalize wr.drewN nq=W2 at HR ⊢
                   go_wp2_with fail
                   obtain ⟨v4,hy4⟩:=c8 (w:=W2) (p:=⟨g,o+j,none⟩) (x := .int .u64 (G a)) (HR.out.row.cell (j:=a) (by have:=HP.out.size;omega))
                   have hcw:∀ t,t<d.size→W2.cell? ⟨g,o+t,none⟩=some (.int .u64 (G t)):=fun t ht=>by rw [HR.out.row.cell (by have:=HP.out.size;omega),HG.out]
                   have hfw:∀ t,t<d.size→W2.frozen? ⟨g,o+t,none⟩=false:=fun t ht=>HR.out.row.free (by have:=HP.out.size;omega)
                   have l5:j<d.size:=by omega
                   have hji:j<i:=by omega
                   go_region
                   go_wp2_with fail
                   go_ret2
                   exact ⟨j,_,_,rfl,HP.out.done hji,m6.swap HR.out (by have:=HP.out.size;omega) (by have:=HP.out.size;omega) (by rw [HG.out]) (by rw [HG.out])⟩
              ·go_wp2_with fail
               go_quiet (first | (go_at_call 264;refine Calls.quiet_of_same (KL.out _ _ _)))
               have HR:=qh (HR.out.drewN nq)
               clear hcw
               generalize wr.drewN nq=W2 at HR ⊢
               go_wp2_with fail
               go_loopw [11] (fun vj wr=>vj = .int .i64 j∧m6 w g o dk wr) (fun _ _=>0)
               case atStart=>exact ⟨rfl,HR.out⟩
               case round =>
                obtain ⟨rfl,hr⟩:=hrel
                have hcw:∀ t,t<d.size→wr.cell? ⟨g,o+t,none⟩=some (.int .u64 (G t)):=fun t ht=>by rw [hr.row.cell (by have:=HP.out.size;omega),HG.out]
                clear HR
                have HR:=qh hr;clear hr
                go_wp2_with fail
                go_quiet (first | (go_at_call 264;refine Calls.quiet_of_same (KL.out _ _ _)))
                have HR:=qh (HR.out.drewN nq)
                clear hcw
                generalize wr.drewN nq=W2 at HR ⊢
                go_wp2_with fail
                obtain ⟨v4,hy4⟩:=c8 (w:=W2) (p:=⟨g,o+j,none⟩) (x := .int .u64 (G a)) (HR.out.row.cell (j:=a) (by have:=HP.out.size;omega))
                have hcw:∀ t,t<d.size→W2.cell? ⟨g,o+t,none⟩=some (.int .u64 (G t)):=fun t ht=>by rw [HR.out.row.cell (by have:=HP.out.size;omega),HG.out]
                have hfw:∀ t,t<d.size→W2.frozen? ⟨g,o+t,none⟩=false:=fun t ht=>HR.out.row.free (by have:=HP.out.size;omega)
                have l5:j<d.size:=by omega
                have hji:j<i:=by omega
                go_region
                go_wp2_with fail
                go_ret2
                exact ⟨j,_,_,rfl,HP.out.done hji,m6.swap HR.out (by have:=HP.out.size;omega) (by have:=HP.out.size;omega) (by rw [HG.out]) (by rw [HG.out])⟩
      ·go_wp2_with fail
       go_quiet (first | (go_at_call 264;refine Calls.quiet_of_same (KL.out _ _ _)))
       have HR:=qh (HR.out.drewN nq)
       clear hcw
       generalize wr.drewN nq=W2 at HR ⊢
       go_wp2_with fail
       obtain ⟨v4,hy4⟩:=c8 (w:=W2) (p:=⟨g,o+j,none⟩) (x := .int .u64 (G a)) (HR.out.row.cell (j:=a) (by have:=HP.out.size;omega))
       have hcw:∀ t,t<d.size→W2.cell? ⟨g,o+t,none⟩=some (.int .u64 (G t)):=fun t ht=>by rw [HR.out.row.cell (by have:=HP.out.size;omega),HG.out]
       have hfw:∀ t,t<d.size→W2.frozen? ⟨g,o+t,none⟩=false:=fun t ht=>HR.out.row.free (by have:=HP.out.size;omega)
       have l5:j<d.size:=by omega
       have hji:j<i:=by omega
       go_region
       go_wp2_with fail
       go_ret2
       exact ⟨j,_,_,rfl,HP.out.done hji,m6.swap HR.out (by have:=HP.out.size;omega) (by have:=HP.out.size;omega) (by rw [HG.out]) (by rw [HG.out])⟩
  ·go_wp2_with fail
   go_quiet (first | (go_at_call 264;refine Calls.quiet_of_same (KL.out _ _ _)))
   have HR:=qh (HR.out.drewN nq)
   clear hcw
   generalize wr.drewN nq=W2 at HR ⊢
   go_wp2_with fail
   go_loopw [11] (fun vj wr=>vj = .int .i64 j∧m6 w g o dk wr) (fun _ _=>0)
   case atStart=>exact ⟨rfl,HR.out⟩
   case round =>
    obtain ⟨rfl,hr⟩:=hrel
    have hcw:∀ t,t<d.size→wr.cell? ⟨g,o+t,none⟩=some (.int .u64 (G t)):=fun t ht=>by rw [hr.row.cell (by have:=HP.out.size;omega),HG.out]
    clear HR
    have HR:=qh hr;clear hr
    go_wp2_with fail
    go_quiet (first | (go_at_call 264;refine Calls.quiet_of_same (KL.out _ _ _)))
    have HR:=qh (HR.out.drewN nq)
    clear hcw
    generalize wr.drewN nq=W2 at HR ⊢
    go_wp2_with fail
    obtain ⟨v4,hy4⟩:=c8 (w:=W2) (p:=⟨g,o+j,none⟩) (x := .int .u64 (G a)) (HR.out.row.cell (j:=a) (by have:=HP.out.size;omega))
    have hcw:∀ t,t<d.size→W2.cell? ⟨g,o+t,none⟩=some (.int .u64 (G t)):=fun t ht=>by rw [HR.out.row.cell (by have:=HP.out.size;omega),HG.out]
    have hfw:∀ t,t<d.size→W2.frozen? ⟨g,o+t,none⟩=false:=fun t ht=>HR.out.row.free (by have:=HP.out.size;omega)
    have l5:j<d.size:=by omega
    have hji:j<i:=by omega
    go_region
    go_wp2_with fail
    go_ret2
    exact ⟨j,_,_,rfl,HP.out.done hji,m6.swap HR.out (by have:=HP.out.size;omega) (by have:=HP.out.size;omega) (by rw [HG.out]) (by rw [HG.out])⟩
end
end Go.Proofs.YtchndljcahjldaaGreatDoor
