/- slices.Sort on numbers of 64 bits: partialInsertionSort.  -/
import Derived.Test.YtchndljcahjldaaGreatDoorMUMem
import Derived.Shelf.Small.Bits
import Derived.Laws.BitsLemmas
import Derived.Lib.EndianBits
namespace Go.Proofs.YtchndljcahjldaaGreatDoor
set_option maxRecDepth 100000
set_option maxHeartbeats 8000000
section
open Go.RowKit
open Go.Sort hiding Below
variable {b i j c:Nat} {d:Array Int} {w:World}
theorem xu6 (h:i<b) (hl:ltInt d[i]! d[i - 1]! = false):scanSorted ltInt d b i=scanSorted ltInt d b (i+1):=by
 rw [scanSorted,if_pos (by rw [hl];simp [h])]
theorem y76 (h:¬ i<b∨ltInt d[i]! d[i - 1]! = true):scanSorted ltInt d b i=i:=by
 rw [scanSorted,if_neg]
 rcases h with h | h
 ·simp [h]
 ·rw [h];simp
theorem xu7 (h:1≤j) (hl:ltInt d[j]! d[j - 1]! = true):shiftDown ltInt j d=shiftDown ltInt (j - 1) (swp d j (j - 1)):=by
 obtain ⟨k,rfl⟩:∃ k,j=k+1:=⟨j - 1,by omega⟩
 rw [Nat.add_sub_cancel] at hl ⊢
 rw [shiftDown,if_neg (by rw [hl];simp)]
theorem zu6 (h:j=0∨ltInt d[j]! d[j - 1]! = false):shiftDown ltInt j d=d:=by
 cases j with
 | zero=>rfl
 | succ k =>
   rw [Nat.add_sub_cancel] at h
   rcases h with h | h
   ·cases h
   ·rw [shiftDown,if_pos (by rw [h];rfl)]
theorem xu8 (h:j<b) (hl:ltInt d[j]! d[j - 1]! = true):shiftUp ltInt b j d=shiftUp ltInt b (j+1) (swp d j (j - 1)):=by
 rw [shiftUp,if_pos h,if_neg (by rw [hl];simp)]
theorem zi7 (h:¬ j<b∨ltInt d[j]! d[j - 1]! = false):shiftUp ltInt b j d=d:=by
 rw [shiftUp]
 by_cases hj:j<b
 ·rcases h with h | h
  ·exact absurd hj h
  ·rw [if_pos hj,if_pos (by rw [h];rfl)]
 ·rw [if_neg hj]
def ya7 (a i:Nat) (d:Array Int):Array Int:=if i - a ≥ 2 then shiftDown ltInt (i - 1) d else d
def upN (b i:Nat) (d:Array Int):Array Int:=if b - i ≥ 2 then shiftUp ltInt b (i+1) d else d
theorem x09 {a s i':Nat} (h:scanSorted ltInt d b i=i'):partialIns ltInt a b (s+1) i d =
 if i'=b then (d,true) else if b - a<50 then (d,false) else partialIns ltInt a b s i' (upN b i' (ya7 a i' (swp d i' (i' - 1)))):=by
 subst h
 rfl
theorem w48 (g o cap n:Nat) (d:Array Int) (hn:d.size=n) (a b:Nat) (w:World) (hH:z74 w g o d) (hab:a<b) (hb:b≤d.size) (hsz:d.size<2305843009213693952) :
 Calls Tryz.prog 263 #[.slice (some ⟨g,o,none⟩) n cap,.int .i64 a,.int .i64 b] w (fun e w'=>e = .returned (.bool (partialInsertionSort ltInt d a b).2)∧m6 w g o (partialInsertionSort ltInt d a b).1 w'):=by
 subst hn
 have HH:=qh hH;clear hH
 have KL:=qh zs5
 go_enter Tryz.func263,Tryz.ntmps263
 go_wp2_with fail
 go_loopw [7,8] (fun vi vc wr=>∃ (c i:Nat) (dk:Array Int),vi = .int .i64 i∧vc = .int .i64 c∧c≤5∧a<i∧i≤b∧dk.size=d.size∧m6 w g o dk wr∧partialIns ltInt a b (5 - c) i dk=partialInsertionSort ltInt d a b) (fun _ vc _=>5 - (intOf vc).toNat)
 case atStart=>exact ⟨0,a+1,d,by go_num,rfl,by omega,by omega,by omega,rfl,m6.start HH.out,rfl⟩
 case round =>
  obtain ⟨c,i,dk,rfl,rfl,hc,hi1,hi2,hs,hr,he⟩:=hrel
  by_cases hc5:c<5
  ·obtain ⟨s,hsc⟩:∃ s,5 - c=s+1:=⟨4 - c,by omega⟩
   rw [hsc] at he
   have HE0:=qh he;clear he
   have HR0:=qh hr;clear hr
   obtain ⟨G,hG⟩:∃ G:Nat→Int,∀ t,dk[t]! = G t:=⟨fun t=>dk[t]!,fun _=>rfl⟩
   have HG:=qh hG;clear hG
   go_wp2_with fail
   go_loopw [7] (fun vi wr=>∃ (i:Nat),vi = .int .i64 i∧a<i∧i≤b∧m6 w g o dk wr∧partialIns ltInt a b (s+1) i dk=partialInsertionSort ltInt d a b) (fun vi _=>b - (intOf vi).toNat)
   case atStart=>exact ⟨i,rfl,hi1,hi2,HR0.out,HE0.out⟩
   case round =>
    clear HE0 HR0 hi1 hi2
    obtain ⟨i,rfl,hi1,hi2,hr,he⟩:=hrel
    have hcw:∀ t,t<d.size→wr.cell? ⟨g,o+t,none⟩=some (.int .u64 (G t)):=fun t ht=>by rw [hr.row.cell (by omega),HG.out]
    have hfw:∀ t,t<d.size→wr.frozen? ⟨g,o+t,none⟩=false:=fun t ht=>hr.row.free (by omega)
    have HR:=qh hr;clear hr
    have HE:=qh he;clear he
    by_cases hib:i<b
    ·have l1:i - 1<d.size:=by omega
     have l2:i<d.size:=by omega
     cases hb1:ltInt (G i) (G (i - 1)) with
     | false =>
       have HZ:=qh (xu6 (d:=dk) hib (by rw [HG.out,HG.out];exact hb1))
       go_wp2_with fail
       go_quiet (first | (go_at_call 264;refine Calls.quiet_of_same (KL.out _ _ _)))
       go_wp2_with fail
       go_roundw
       case rel=>exact ⟨i+1,by go_num,by omega,by omega,HR.out.drewN nq,by rw [← HE.out];unfold partialIns;rw [HZ.out]⟩
       case measure=>simp [intOf] <;> omega
     | true =>
       have he2:=HE.out
       rw [x09 (y76 (d:=dk) (.inr (by rw [HG.out,HG.out];exact hb1))),if_neg (by omega)] at he2
       clear HE
       by_cases h50:b - a<50
       ·rw [if_pos h50] at he2
        have HE:=qh he2;clear he2
        have m3:(b:Int) - (a:Int)<50:=by omega
        have m4:¬ (i:Int)=(b:Int):=by omega
        go_wp2_with fail
        go_quiet (first | (go_at_call 264;refine Calls.quiet_of_same (KL.out _ _ _)))
        go_wp2_with fail
        go_ret
        rw [← HE.out]
        exact ⟨rfl,HR.out.drewN nq⟩
       ·rw [if_neg h50] at he2
        have HE0:=qh he2;clear he2
        have m3:¬ (b:Int) - (a:Int)<50:=by omega
        have m4:¬ (i:Int)=(b:Int):=by omega
        go_wp2_with fail
        go_quiet (first | (go_at_call 264;refine Calls.quiet_of_same (KL.out _ _ _)))
        have HR:=qh (HR.out.drewN nq)
        have hcw:∀ t,t<d.size→(wr.drewN nq).cell? ⟨g,o+t,none⟩=some (.int .u64 (G t)):=fun t ht=>hcw t ht
        have hfw:∀ t,t<d.size→(wr.drewN nq).frozen? ⟨g,o+t,none⟩=false:=fun t ht=>hfw t ht
        generalize wr.drewN nq=W2 at HR hcw hfw ⊢
        go_wp2_with fail
        go_region
        have HR1:=qh (m6.swap HR.out (i:=i) (j:=i - 1) (x := .int .u64 (G (i - 1))) (y := .int .u64 (G i)) (by omega) (by omega) (by rw [HG.out]) (by rw [HG.out]))
        obtain ⟨d1,hd1⟩:∃ d1,swp dk i (i - 1)=d1:=⟨_,rfl⟩
        have hs1:d1.size=d.size:=by rw [← hd1,size_swp];exact hs
        rw [hd1] at HR1
        have HE:=qh (hd1 ▸ HE0.out);clear HE0 hd1 hcw hfw
        generalize ((W2.setCell ⟨g,o+i,none⟩ (.int .u64 (G (i - 1)))).setCell ⟨g,o+(i - 1),none⟩ (.int .u64 (G i))).drew=W3 at HR1 ⊢
        go_wp2_with fail
        ·have m2:(2:Int)≤(i:Int) - (a:Int):=by assumption
         go_loopw [9] (fun vj wr=>∃ (j:Nat) (dj:Array Int),vj = .int .i64 j∧j<i∧dj.size=d.size∧m6 w g o dj wr∧shiftDown ltInt j dj=shiftDown ltInt (i - 1) d1) (fun vj _=>(intOf vj).toNat)
         case atStart=>exact ⟨i - 1,d1,by congr 1;omega,by omega,hs1,HR1.out,rfl⟩
         case round =>
          clear HR1
          obtain ⟨j,dj,rfl,hj1,hsj,hr,hu⟩:=hrel
          obtain ⟨G,hG⟩:∃ G:Nat→Int,∀ t,dj[t]! = G t:=⟨fun t=>dj[t]!,fun _=>rfl⟩
          have hcw:∀ t,t<d.size→wr.cell? ⟨g,o+t,none⟩=some (.int .u64 (G t)):=fun t ht=>by rw [hr.row.cell (by omega),hG]
          have hfw:∀ t,t<d.size→wr.frozen? ⟨g,o+t,none⟩=false:=fun t ht=>hr.row.free (by omega)
          have HG:=qh hG;clear hG
          have HR:=qh hr;clear hr
          have HD2:=qh hu;clear hu
          by_cases hj0:1≤j
          ·cases hb2:ltInt (G j) (G (j - 1)) with
           | false =>
             have HU:=qh (show partialIns ltInt a b s i (upN b i dj)=partialInsertionSort ltInt d a b by
              have:=HE.out
              unfold ya7 at this
              rw [if_pos (by omega),← HD2.out,zu6 (.inr (by rw [HG.out,HG.out];exact hb2))] at this
              exact this)
             go_wp2_with fail
             go_quiet (first | (go_at_call 264;refine Calls.quiet_of_same (KL.out _ _ _)))
             have HR:=qh (HR.out.drewN nq)
             clear hcw hfw
             generalize wr.drewN nq=W2 at HR ⊢
             go_wp2_with fail
             ·have m1:(2:Int)≤(b:Int) - (i:Int):=by assumption
              go_loopw [10] (fun vj wr=>∃ (j:Nat) (dj:Array Int),vj = .int .i64 j∧i<j∧j≤b∧dj.size=d.size∧m6 w g o dj wr∧partialIns ltInt a b s i (shiftUp ltInt b j dj)=partialInsertionSort ltInt d a b) (fun vj _=>b - (intOf vj).toNat)
              case atStart=>exact ⟨i+1,_,by go_num,by omega,by omega,hsj,HR.out,by have:=HU.out;unfold upN at this;rw [if_pos (by omega)] at this;exact this⟩
              case round =>
               obtain ⟨j,dj,rfl,hj1,hj2,hsj,hr,hu⟩:=hrel
               obtain ⟨G,hG⟩:∃ G:Nat→Int,∀ t,dj[t]! = G t:=⟨fun t=>dj[t]!,fun _=>rfl⟩
               have hcw:∀ t,t<d.size→wr.cell? ⟨g,o+t,none⟩=some (.int .u64 (G t)):=fun t ht=>by rw [hr.row.cell (by omega),hG]
               have hfw:∀ t,t<d.size→wr.frozen? ⟨g,o+t,none⟩=false:=fun t ht=>hr.row.free (by omega)
               have HG:=qh hG;clear hG
               have HR:=qh hr;clear hr
               have HU2:=qh hu;clear hu
               by_cases hjb:j<b
               ·cases hb2:ltInt (G j) (G (j - 1)) with
                | false =>
                  have HZ:=qh (zi7 (b:=b) (d:=dj) (j:=j) (.inr (by rw [HG.out,HG.out];exact hb2)))
                  go_wp2_with fail
                  go_quiet (first | (go_at_call 264;refine Calls.quiet_of_same (KL.out _ _ _)))
                  go_wp2_with fail
                  first | go_roundw | refine ⟨?rel,?measure⟩
                  case rel=>exact ⟨c+1,i,dj,by go_num,rfl,by omega,hi1,hi2,hsj,HR.out.drewN nq,by rw [show 5 - (c+1)=s from by omega];exact (by rw [← HU2.out,HZ.out])⟩
                  case measure=>simp [intOf] <;> omega
                | true =>
                  have HZ:=qh (xu8 (b:=b) (d:=dj) (j:=j) hjb (by rw [HG.out,HG.out];exact hb2))
                  have l6:j - 1<d.size:=by omega
                  go_wp2_with fail
                  go_quiet (first | (go_at_call 264;refine Calls.quiet_of_same (KL.out _ _ _)))
                  have HR:=qh (HR.out.drewN nq)
                  have hcw:∀ t,t<d.size→(wr.drewN nq).cell? ⟨g,o+t,none⟩=some (.int .u64 (G t)):=fun t ht=>hcw t ht
                  have hfw:∀ t,t<d.size→(wr.drewN nq).frozen? ⟨g,o+t,none⟩=false:=fun t ht=>hfw t ht
                  generalize wr.drewN nq=W2 at HR hcw hfw ⊢
                  go_wp2_with fail
                  go_region
                  go_wp2_with fail
                  go_roundw
                  case rel=>exact ⟨j+1,swp dj j (j - 1),by go_num,by omega,by omega,by rw [size_swp];exact hsj,m6.swap HR.out (by omega) (by omega) (by rw [HG.out]) (by rw [HG.out]),by rw [← HU2.out,HZ.out]⟩
                  case measure=>simp [intOf] <;> omega
               ·have HZ:=qh (zi7 (b:=b) (d:=dj) (j:=j) (.inl hjb))
                go_wp2_with fail
                first | go_roundw | refine ⟨?rel,?measure⟩
                case rel=>exact ⟨c+1,i,dj,by go_num,rfl,by omega,hi1,hi2,hsj,HR.out,by rw [show 5 - (c+1)=s from by omega];exact (by rw [← HU2.out,HZ.out])⟩
                case measure=>simp [intOf] <;> omega
             ·have m1:(b:Int) - (i:Int)<2:=by assumption
              first | go_roundw | refine ⟨?rel,?measure⟩
              case rel=>exact ⟨c+1,i,dj,by go_num,rfl,by omega,hi1,hi2,hsj,HR.out,by rw [show 5 - (c+1)=s from by omega];exact (by have:=HU.out;unfold upN at this;rw [if_neg (by omega)] at this;exact this)⟩
              case measure=>simp [intOf] <;> omega
           | true =>
             have HZ:=qh (xu7 (d:=dj) hj0 (by rw [HG.out,HG.out];exact hb2))
             have l6:j - 1<d.size:=by omega
             have l7:j<d.size:=by omega
             go_wp2_with fail
             go_quiet (first | (go_at_call 264;refine Calls.quiet_of_same (KL.out _ _ _)))
             have HR:=qh (HR.out.drewN nq)
             have hcw:∀ t,t<d.size→(wr.drewN nq).cell? ⟨g,o+t,none⟩=some (.int .u64 (G t)):=fun t ht=>hcw t ht
             have hfw:∀ t,t<d.size→(wr.drewN nq).frozen? ⟨g,o+t,none⟩=false:=fun t ht=>hfw t ht
             generalize wr.drewN nq=W2 at HR hcw hfw ⊢
             go_wp2_with fail
             go_region
             go_wp2_with fail
             go_roundw
             case rel=>exact ⟨j - 1,swp dj j (j - 1),by congr 1;omega,by omega,by rw [size_swp];exact hsj,m6.swap HR.out (by omega) (by omega) (by rw [HG.out]) (by rw [HG.out]),by rw [← HD2.out,HZ.out]⟩
             case measure=>simp [intOf] <;> omega
          ·have HU:=qh (show partialIns ltInt a b s i (upN b i dj)=partialInsertionSort ltInt d a b by
              have:=HE.out
              unfold ya7 at this
              rw [if_pos (by omega),← HD2.out,zu6 (.inl (by omega))] at this
              exact this)
           clear hcw hfw
           go_wp2_with fail
           ·have m1:(2:Int)≤(b:Int) - (i:Int):=by assumption
            go_loopw [10] (fun vj wr=>∃ (j:Nat) (dj:Array Int),vj = .int .i64 j∧i<j∧j≤b∧dj.size=d.size∧m6 w g o dj wr∧partialIns ltInt a b s i (shiftUp ltInt b j dj)=partialInsertionSort ltInt d a b) (fun vj _=>b - (intOf vj).toNat)
            case atStart=>exact ⟨i+1,_,by go_num,by omega,by omega,hsj,HR.out,by have:=HU.out;unfold upN at this;rw [if_pos (by omega)] at this;exact this⟩
            case round =>
              obtain ⟨j,dj,rfl,hj1,hj2,hsj,hr,hu⟩:=hrel
              obtain ⟨G,hG⟩:∃ G:Nat→Int,∀ t,dj[t]! = G t:=⟨fun t=>dj[t]!,fun _=>rfl⟩
              have hcw:∀ t,t<d.size→wr.cell? ⟨g,o+t,none⟩=some (.int .u64 (G t)):=fun t ht=>by rw [hr.row.cell (by omega),hG]
              have hfw:∀ t,t<d.size→wr.frozen? ⟨g,o+t,none⟩=false:=fun t ht=>hr.row.free (by omega)
              have HG:=qh hG;clear hG
              have HR:=qh hr;clear hr
              have HU2:=qh hu;clear hu
              by_cases hjb:j<b
              ·cases hb2:ltInt (G j) (G (j - 1)) with
               | false =>
                 have HZ:=qh (zi7 (b:=b) (d:=dj) (j:=j) (.inr (by rw [HG.out,HG.out];exact hb2)))
                 go_wp2_with fail
                 go_quiet (first | (go_at_call 264;refine Calls.quiet_of_same (KL.out _ _ _)))
                 go_wp2_with fail
                 first | go_roundw | refine ⟨?rel,?measure⟩
                 case rel=>exact ⟨c+1,i,dj,by go_num,rfl,by omega,hi1,hi2,hsj,HR.out.drewN nq,by rw [show 5 - (c+1)=s from by omega];exact (by rw [← HU2.out,HZ.out])⟩
                 case measure=>simp [intOf] <;> omega
               | true =>
                 have HZ:=qh (xu8 (b:=b) (d:=dj) (j:=j) hjb (by rw [HG.out,HG.out];exact hb2))
                 have l6:j - 1<d.size:=by omega
                 go_wp2_with fail
                 go_quiet (first | (go_at_call 264;refine Calls.quiet_of_same (KL.out _ _ _)))
                 have HR:=qh (HR.out.drewN nq)
                 have hcw:∀ t,t<d.size→(wr.drewN nq).cell? ⟨g,o+t,none⟩=some (.int .u64 (G t)):=fun t ht=>hcw t ht
                 have hfw:∀ t,t<d.size→(wr.drewN nq).frozen? ⟨g,o+t,none⟩=false:=fun t ht=>hfw t ht
                 generalize wr.drewN nq=W2 at HR hcw hfw ⊢
                 go_wp2_with fail
                 go_region
                 go_wp2_with fail
                 go_roundw
                 case rel=>exact ⟨j+1,swp dj j (j - 1),by go_num,by omega,by omega,by rw [size_swp];exact hsj,m6.swap HR.out (by omega) (by omega) (by rw [HG.out]) (by rw [HG.out]),by rw [← HU2.out,HZ.out]⟩
                 case measure=>simp [intOf] <;> omega
              ·have HZ:=qh (zi7 (b:=b) (d:=dj) (j:=j) (.inl hjb))
               go_wp2_with fail
               first | go_roundw | refine ⟨?rel,?measure⟩
               case rel=>exact ⟨c+1,i,dj,by go_num,rfl,by omega,hi1,hi2,hsj,HR.out,by rw [show 5 - (c+1)=s from by omega];exact (by rw [← HU2.out,HZ.out])⟩
               case measure=>simp [intOf] <;> omega
           ·have m1:(b:Int) - (i:Int)<2:=by assumption
            first | go_roundw | refine ⟨?rel,?measure⟩
            case rel=>exact ⟨c+1,i,dj,by go_num,rfl,by omega,hi1,hi2,hsj,HR.out,by rw [show 5 - (c+1)=s from by omega];exact (by have:=HU.out;unfold upN at this;rw [if_neg (by omega)] at this;exact this)⟩
            case measure=>simp [intOf] <;> omega
        ·have m2:(i:Int) - (a:Int)<2:=by assumption
         have HU:=qh (show partialIns ltInt a b s i (upN b i d1)=partialInsertionSort ltInt d a b by
          have:=HE.out
          unfold ya7 at this
          rw [if_neg (by omega)] at this
          exact this)
         have m1:(2:Int)≤(b:Int) - (i:Int):=by assumption
         go_loopw [10] (fun vj wr=>∃ (j:Nat) (dj:Array Int),vj = .int .i64 j∧i<j∧j≤b∧dj.size=d.size∧m6 w g o dj wr∧partialIns ltInt a b s i (shiftUp ltInt b j dj)=partialInsertionSort ltInt d a b) (fun vj _=>b - (intOf vj).toNat)
         case atStart=>exact ⟨i+1,_,by go_num,by omega,by omega,hs1,HR1.out,by have:=HU.out;unfold upN at this;rw [if_pos (by omega)] at this;exact this⟩
         case round =>
          obtain ⟨j,dj,rfl,hj1,hj2,hsj,hr,hu⟩:=hrel
          obtain ⟨G,hG⟩:∃ G:Nat→Int,∀ t,dj[t]! = G t:=⟨fun t=>dj[t]!,fun _=>rfl⟩
          have hcw:∀ t,t<d.size→wr.cell? ⟨g,o+t,none⟩=some (.int .u64 (G t)):=fun t ht=>by rw [hr.row.cell (by omega),hG]
          have hfw:∀ t,t<d.size→wr.frozen? ⟨g,o+t,none⟩=false:=fun t ht=>hr.row.free (by omega)
          have HG:=qh hG;clear hG
          have HR:=qh hr;clear hr
          have HU2:=qh hu;clear hu
          by_cases hjb:j<b
          ·cases hb2:ltInt (G j) (G (j - 1)) with
           | false =>
             have HZ:=qh (zi7 (b:=b) (d:=dj) (j:=j) (.inr (by rw [HG.out,HG.out];exact hb2)))
             go_wp2_with fail
             go_quiet (first | (go_at_call 264;refine Calls.quiet_of_same (KL.out _ _ _)))
             go_wp2_with fail
             first | go_roundw | refine ⟨?rel,?measure⟩
             case rel=>exact ⟨c+1,i,dj,by go_num,rfl,by omega,hi1,hi2,hsj,HR.out.drewN nq,by rw [show 5 - (c+1)=s from by omega];exact (by rw [← HU2.out,HZ.out])⟩
             case measure=>simp [intOf] <;> omega
           | true =>
             have HZ:=qh (xu8 (b:=b) (d:=dj) (j:=j) hjb (by rw [HG.out,HG.out];exact hb2))
             have l6:j - 1<d.size:=by omega
             go_wp2_with fail
             go_quiet (first | (go_at_call 264;refine Calls.quiet_of_same (KL.out _ _ _)))
             have HR:=qh (HR.out.drewN nq)
             have hcw:∀ t,t<d.size→(wr.drewN nq).cell? ⟨g,o+t,none⟩=some (.int .u64 (G t)):=fun t ht=>hcw t ht
             have hfw:∀ t,t<d.size→(wr.drewN nq).frozen? ⟨g,o+t,none⟩=false:=fun t ht=>hfw t ht
             generalize wr.drewN nq=W2 at HR hcw hfw ⊢
             go_wp2_with fail
             go_region
             go_wp2_with fail
             go_roundw
             case rel=>exact ⟨j+1,swp dj j (j - 1),by go_num,by omega,by omega,by rw [size_swp];exact hsj,m6.swap HR.out (by omega) (by omega) (by rw [HG.out]) (by rw [HG.out]),by rw [← HU2.out,HZ.out]⟩
             case measure=>simp [intOf] <;> omega
          ·have HZ:=qh (zi7 (b:=b) (d:=dj) (j:=j) (.inl hjb))
           go_wp2_with fail
           first | go_roundw | refine ⟨?rel,?measure⟩
           case rel=>exact ⟨c+1,i,dj,by go_num,rfl,by omega,hi1,hi2,hsj,HR.out,by rw [show 5 - (c+1)=s from by omega];exact (by rw [← HU2.out,HZ.out])⟩
           case measure=>simp [intOf] <;> omega
    ·obtain rfl:i=b:=by omega
     have he2:=HE.out
     rw [x09 (y76 (d:=dk) (.inl hib)),if_pos rfl] at he2
     clear HE
     have HE:=qh he2;clear he2
     go_wp2_with fail
     go_quiet (first | (go_at_call 264;refine Calls.quiet_of_same (KL.out _ _ _)))
     go_wp2_with fail
     go_ret
     rw [← HE.out]
     exact ⟨rfl,HR.out.drewN nq⟩
  ·obtain rfl:c=5:=by omega
   have HE:=qh (show (dk,false)=partialInsertionSort ltInt d a b from he)
   have HR:=qh hr;clear hr he
   go_wp2_with fail
   go_ret
   rw [← HE.out]
   exact ⟨rfl,HR.out⟩
def CtU (w:World) (c:Nat):Prop:=(∃ s:Int,w.cell? ⟨c,0,none⟩=some (.int .i64 s))∧w.frozen? ⟨c,0,none⟩=false
theorem CtU.drewN (h:CtU w c) (n:Nat):CtU (w.drewN n) c:=h
theorem CtU.set (h:CtU w c) (s:Int):CtU (w.setCell ⟨c,0,none⟩ (.int .i64 s)) c:=
 ⟨⟨s,World.cell?_setCell_same _ _ _ h.1.choose_spec⟩,by rw [World.frozen?_setCell];exact h.2⟩
theorem CtU.new (w:World) (t:TypeId):CtU (w.alloc (.cells #[.int .i64 0] t)) w.heap.size:=⟨⟨0,by simp⟩,by simp⟩
theorem wi8 (g o cap n:Nat) (d:Array Int) (hn:d.size=n) (a b c:Nat) (w:World) (hH:z74 w g o d) (hc:CtU w c) (_hgc:g≠c) (ha:a<d.size) (hb:b<d.size) (_hsz:d.size<2305843009213693952) :
 Calls Tryz.prog 284 #[.slice (some ⟨g,o,none⟩) n cap,.int .i64 a,.int .i64 b,.pointer (some ⟨c,0,none⟩)] w (fun e w' =>
  (e = .returned (.tuple #[.int .i64 a,.int .i64 b])∨e = .returned (.tuple #[.int .i64 b,.int .i64 a]))∧CtU w' c∧y5 (fun k=>k=c) w w'):=by
 subst hn
 have KL:=qh zs5
 obtain ⟨⟨s,hs⟩,hf⟩:=hc
 have HC:=qh (show CtU w c from ⟨⟨s,hs⟩,hf⟩)
 obtain ⟨x,hx⟩:∃ x,d[a]! = x:=⟨_,rfl⟩
 obtain ⟨y,hy⟩:∃ y,d[b]! = y:=⟨_,rfl⟩
 have ca:=hH.cell ha
 have cb:=hH.cell hb
 rw [hx] at ca
 rw [hy] at cb
 clear hx hy hH
 go_enter Tryz.func284,Tryz.ntmps284
 go_wp2_with fail
 go_quiet (first | (go_at_call 264;refine Calls.quiet_of_same (KL.out _ _ _)))
 have hs:(w.drewN nq).cell? ⟨c,0,none⟩=some (.int .i64 s):=hs
 have hf:(w.drewN nq).frozen? ⟨c,0,none⟩=false:=hf
 have HC:=qh (HC.out.drewN nq)
 have HA:=qh (y5.drewN (fun k=>k=c) w nq)
 generalize w.drewN nq=W2 at hs hf HC HA ⊢
 go_wp2_with fail
 ·go_ret2
  exact ⟨.inr rfl,HC.out.set _,HA.out.trans (y5.set _ _ rfl)⟩
 ·go_ret2
  exact ⟨.inl rfl,HC.out,HA.out⟩
theorem xc5 (g o cap n:Nat) (d:Array Int) (hn:d.size=n) (a b c q:Nat) (w:World) (hH:z74 w g o d) (hc:CtU w q) (hgc:g≠q) (ha:a<d.size) (hb:b<d.size) (hcc:c<d.size) (hsz:d.size<2305843009213693952) :
 Calls Tryz.prog 278 #[.slice (some ⟨g,o,none⟩) n cap,.int .i64 a,.int .i64 b,.int .i64 c,.pointer (some ⟨q,0,none⟩)] w (fun e w' =>
  ∃ m:Nat,e = .returned (.int .i64 m)∧(m=a∨m=b∨m=c)∧CtU w' q∧y5 (fun k=>k=q) w w'):=by
 have KO:=qh wi8
 have HH:=qh hH;clear hH
 have HC:=qh hc;clear hc
 go_enter Tryz.func278,Tryz.ntmps278
 go_wp2_with fail
 refine (KO.out g o cap n d hn a b q w HH.out HC.out hgc ha hb hsz).mono ?_
 rintro e w1 ⟨he,hc1,hA1⟩
 have H1:=qh (And.intro hc1 hA1);clear hc1 hA1
 obtain ⟨a1,b1,rfl,h1,h2,h3⟩:∃ a1 b1:Nat,e = .returned (.tuple #[.int .i64 a1,.int .i64 b1])∧a1<d.size∧b1<d.size∧((a1=a∧b1=b)∨(a1=b∧b1=a)):=by
  rcases he with rfl | rfl
  ·exact ⟨a,b,rfl,ha,hb,.inl ⟨rfl,rfl⟩⟩
  ·exact ⟨b,a,rfl,hb,ha,.inr ⟨rfl,rfl⟩⟩
 go_wp2_with fail
 have K2:=qh (KO.out g o cap n d hn b1 c q w1 (HH.out.apart H1.out.2 hgc) H1.out.1 hgc h2 hcc hsz)
 refine K2.out.mono ?_
 rintro e w2 ⟨he,hc2,hA2⟩
 have H2:=qh (And.intro hc2 (H1.out.2.trans hA2));clear hc2 hA2
 obtain ⟨b2,c2,rfl,h4,h5,h6⟩:∃ b2 c2:Nat,e = .returned (.tuple #[.int .i64 b2,.int .i64 c2])∧b2<d.size∧c2<d.size∧((b2=b1∧c2=c)∨(b2=c∧c2=b1)):=by
  rcases he with rfl | rfl
  ·exact ⟨b1,c,rfl,h2,hcc,.inl ⟨rfl,rfl⟩⟩
  ·exact ⟨c,b1,rfl,hcc,h2,.inr ⟨rfl,rfl⟩⟩
 go_wp2_with fail
 have K3:=qh (KO.out g o cap n d hn a1 b2 q w2 (HH.out.apart H2.out.2 hgc) H2.out.1 hgc h1 h4 hsz)
 refine K3.out.mono ?_
 rintro e w3 ⟨he,hc3,hA3⟩
 have H3:=qh (And.intro hc3 (H2.out.2.trans hA3));clear hc3 hA3
 obtain ⟨a3,b3,rfl,h7⟩:∃ a3 b3:Nat,e = .returned (.tuple #[.int .i64 a3,.int .i64 b3])∧(b3=b2∨b3=a1):=by
  rcases he with rfl | rfl
  ·exact ⟨a1,b2,rfl,.inl rfl⟩
  ·exact ⟨b2,a1,rfl,.inr rfl⟩
 go_wp2_with fail
 go_ret
 exact ⟨b3,rfl,by omega,H3.out⟩
theorem xc6 (g o cap n:Nat) (d:Array Int) (hn:d.size=n) (a q:Nat) (w:World) (hH:z74 w g o d) (hc:CtU w q) (hgc:g≠q) (ha0:1≤a) (ha:a+1<d.size) (hsz:d.size<2305843009213693952) :
 Calls Tryz.prog 277 #[.slice (some ⟨g,o,none⟩) n cap,.int .i64 a,.pointer (some ⟨q,0,none⟩)] w (fun e w' =>
  ∃ m:Nat,e = .returned (.int .i64 m)∧(a - 1≤m∧m≤a+1)∧CtU w' q∧y5 (fun k=>k=q) w w'):=by
 have KO:=qh (xc5 g o cap n d hn (a - 1) a (a+1) q w hH hc hgc (by omega) (by omega) ha hsz);clear hH hc
 rw [show ((a - 1:Nat):Int)=(a:Int) - 1 from by omega,show ((a+1:Nat):Int)=(a:Int)+1 from by omega] at KO
 go_enter Tryz.func277,Tryz.ntmps277
 go_wp2_with fail
 refine KO.out.mono ?_
 rintro e w1 ⟨m,rfl,h1,hc1,hA1⟩
 have H1:=qh (And.intro hc1 hA1);clear hc1 hA1
 go_wp2_with fail
 go_ret
 exact ⟨m,rfl,by omega,H1.out⟩
theorem wt7 (g o cap n:Nat) (d:Array Int) (hn:d.size=n) (a b:Nat) (w:World) (hH:z74 w g o d) (hab:a+12<b) (hb:b≤d.size) (hsz:d.size<2305843009213693952) :
 Calls Tryz.prog 261 #[.slice (some ⟨g,o,none⟩) n cap,.int .i64 a,.int .i64 b] w (fun e w' =>
  ∃ (q:Nat) (h:Int),e = .returned (.tuple #[.int .i64 q,.int .i64 h])∧a≤q∧q<b∧(h=0∨h=1∨h=2)∧Below w.heap.size w w'):=by
 have KA:=qh xc6
 have KM:=qh xc5
 obtain ⟨l,hl⟩:∃ l:Nat,b - a=l:=⟨_,rfl⟩
 have e1:(b:Int) - (a:Int)=(l:Int):=by omega
 obtain ⟨q,hq⟩:∃ q:Nat,l / 4=q:=⟨_,rfl⟩
 have e2:(l:Int).tdiv 4=(q:Int):=by rw [show (l:Int).tdiv 4=((l / 4:Nat):Int) from rfl,hq]
 have l1:3≤q:=by omega
 have l2:4*q≤l:=by omega
 obtain ⟨i,hi⟩:∃ i:Nat,a+q=i:=⟨_,rfl⟩
 obtain ⟨j,hj⟩:∃ j:Nat,a+q*2=j:=⟨_,rfl⟩
 obtain ⟨k,hk⟩:∃ k:Nat,a+q*3=k:=⟨_,rfl⟩
 have e3:(a:Int)+(q:Int)=(i:Int):=by omega
 have e4:(a:Int)+(q:Int)*2=(j:Int):=by omega
 have e5:(a:Int)+(q:Int)*3=(k:Int):=by omega
 have hgl:g<w.heap.size:=World.block_lt_of_cell? w _ (hH.cell (j:=a) (by omega))
 obtain ⟨w1,hw1⟩:∃ w1,w.alloc (.cells #[.int .i64 0] 3)=w1:=⟨_,rfl⟩
 have hb1:Below w.heap.size w w1:=hw1 ▸ z8 w _
 have HC:=qh (show CtU w1 w.heap.size from hw1 ▸ CtU.new w _)
 have HH:=qh (hH.apart (y5.of_below (fun _=>False) hb1) id);clear hH
 have HB:=qh hb1;clear hb1
 have hne:g≠w.heap.size:=by omega
 have HE:=qh (And.intro hl (And.intro hq (And.intro hi (And.intro hj hk))));clear hl hq hi hj hk
 go_enter Tryz.func261,Tryz.ntmps261
 go_wp2_with fail
 ·refine (KA.out g o cap n d hn i w.heap.size w1 (HH.out.apart (y5.refl (fun k=>k=w.heap.size) w1) hne) HC.out hne (by have:=HE.out;omega) (by have:=HE.out;omega) hsz).mono ?_
  rintro e w2 ⟨i2,rfl,hm2,hc,hA9⟩
  have H2:=qh (And.intro hc ((y5.refl (fun k=>k=w.heap.size) w1).trans hA9));clear hc hA9
  go_wp2_with fail
  refine (KA.out g o cap n d hn j w.heap.size w2 (HH.out.apart H2.out.2 hne) H2.out.1 hne (by have:=HE.out;omega) (by have:=HE.out;omega) hsz).mono ?_
  rintro e w3 ⟨j2,rfl,hm3,hc,hA9⟩
  have H3:=qh (And.intro hc (H2.out.2.trans hA9));clear hc hA9
  go_wp2_with fail
  refine (KA.out g o cap n d hn k w.heap.size w3 (HH.out.apart H3.out.2 hne) H3.out.1 hne (by have:=HE.out;omega) (by have:=HE.out;omega) hsz).mono ?_
  rintro e w4 ⟨k2,rfl,hm4,hc,hA9⟩
  have H4:=qh (And.intro hc (H3.out.2.trans hA9));clear hc hA9
  go_wp2_with fail
  refine (KM.out g o cap n d hn i2 j2 k2 w.heap.size w4 (HH.out.apart H4.out.2 hne) H4.out.1 hne (by have:=HE.out;omega) (by have:=HE.out;omega) (by have:=HE.out;omega) hsz).mono ?_
  rintro e w9 ⟨m,rfl,hm,hc,hA9⟩
  have hA:=H4.out.2.trans hA9;clear hA9
  have HW:=qh (HB.out.trans (hA.below (Nat.le_of_lt (World.block_lt_of_cell? w1 _ HC.out.1.choose_spec)) (by intro k hk;omega)))
  clear hA
  obtain ⟨⟨s,hs⟩,hf⟩:=hc
  go_wp2_with fail
  all_goals go_ret2
  all_goals exact ⟨m,_,rfl,by have:=HE.out;omega,by have:=HE.out;omega,by simp,HW.out⟩
 ·refine (KM.out g o cap n d hn i j k w.heap.size w1 (HH.out.apart (y5.refl (fun k=>k=w.heap.size) w1) hne) HC.out hne (by have:=HE.out;omega) (by have:=HE.out;omega) (by have:=HE.out;omega) hsz).mono ?_
  rintro e w9 ⟨m,rfl,hm,hc,hA9⟩
  have hA:=(y5.refl (fun k=>k=w.heap.size) w1).trans hA9;clear hA9
  have HW:=qh (HB.out.trans (hA.below (Nat.le_of_lt (World.block_lt_of_cell? w1 _ HC.out.1.choose_spec)) (by intro k hk;omega)))
  clear hA
  obtain ⟨⟨s,hs⟩,hf⟩:=hc
  go_wp2_with fail
  all_goals go_ret2
  all_goals exact ⟨m,_,rfl,by have:=HE.out;omega,by have:=HE.out;omega,by simp,HW.out⟩
end
section
open Go.Shelf
def v14:Go.Shelf.Ren:=⟨fun | 125=>128 | 128=>176 | 129=>177 | n=>n,fun | 46=>164 | 3=>3 | 51=>222 | 53=>36 | 4=>4 | 5=>5 | 9=>9 | n=>n,fun | n=>n⟩
theorem lays125:Go.Proofs.Lays.n125 Tryz.prog v14:={
 mixed:=by kernel_rfl
 f125:=Tryz.func128.trans (congrArg some (by kernel_rfl))
 f128:=Tryz.func176.trans (congrArg some (by kernel_rfl))
 f129:=Tryz.func177.trans (congrArg some (by kernel_rfl))
 t3:=Tryz.underlying3
 a3:=Tryz.isAgg3
 z3:=Tryz.sizeOf3
 v3:=Tryz.zeroValue3
 t4:=Tryz.underlying4
 a4:=Tryz.isAgg4
 z4:=Tryz.sizeOf4
 v4:=Tryz.zeroValue4
 t5:=Tryz.underlying5
 a5:=Tryz.isAgg5
 z5:=Tryz.sizeOf5
 v5:=Tryz.zeroValue5
 t9:=Tryz.underlying9
 a9:=Tryz.isAgg9
 z9:=Tryz.sizeOf9
 v9:=Tryz.zeroValue9
 t46:=Tryz.underlying164
 a46:=Tryz.isAgg164
 z46:=Tryz.sizeOf164
 v46:=Tryz.zeroValue164
 t51:=Tryz.underlying222
 a51:=Tryz.isAgg222
 z51:=Tryz.sizeOf222
 v51:=Tryz.zeroValue222
 t53:=Tryz.underlying36
 a53:=Tryz.isAgg36
 z53:=Tryz.sizeOf36
 v53:=Tryz.zeroValue36 }
theorem zu7 (x:Int) (w:World) (h0:0≤x) (h1:x≤18446744073709551615) :
 Calls Tryz.prog 128 #[.int .u64 x] w fun e w'=>e = .returned (.int .i64 (Lib.bitLen x.toNat))∧w'=w:=Any.bits_Len lays125 x w h0 h1
theorem zv8:∀ (f x:Nat),x<2 ^ f→x<2 ^ Lib.bitLenAux f x∧(0<x→2 ^ Lib.bitLenAux f x≤2*x)∧Lib.bitLenAux f x≤f
 | 0,x,h=>by
   have:x=0:=by simpa using h
   subst this
   exact ⟨by simp [Lib.bitLenAux],fun h=>absurd h (Nat.lt_irrefl 0),Nat.le_refl _⟩
 | f+1,x,h=>by
   unfold Lib.bitLenAux
   by_cases h0:x=0
   ·rw [if_pos h0];exact ⟨by subst h0;simp,fun h=>absurd h0 (Nat.pos_iff_ne_zero.1 h),Nat.zero_le _⟩
   ·rw [if_neg h0]
    obtain ⟨h1,h2,h3⟩:=zv8 f (x / 2) (by rw [Nat.pow_succ] at h;omega)
    rw [Nat.add_comm 1,Nat.pow_succ]
    refine ⟨by omega,fun _ => ?_,by omega⟩
    by_cases h4:0<x / 2
    ·have:=h2 h4;omega
    ·have e:x / 2=0:=by omega
     rw [e]
     have:Lib.bitLenAux f 0=0:=by cases f <;> simp [Lib.bitLenAux]
     rw [this];omega
theorem zo2 {x:Nat} (h:x<2 ^ 64):x<2 ^ Lib.bitLen x∧(0<x→2 ^ Lib.bitLen x≤2*x)∧Lib.bitLen x≤64:=zv8 64 x h
end
section
open Go.RowKit
open Go.Sort hiding Below
theorem xc7 (op:BinOp) (x y:Int):0≤bits op .u64 x y∧bits op .u64 x y<2 ^ 64:=by
 unfold bits
 dsimp only
 rw [IntKind.wrap_u64]
 omega
theorem v15 (n:Nat) (w:World) (hn:0<n) (hsz:n<65536):Calls Tryz.prog 216 #[.int .i64 n] w (fun e w'=>(∃ m:Nat,e = .returned (.int .u64 m)∧n<m∧m≤2*n∧∃ k,m=2 ^ k)∧w'=w):=by
 have K:=qh (zu7 (n:Int) w (by omega) (by omega))
 obtain ⟨h1,h2,_⟩:=zo2 (x:=n) (by omega)
 rw [Int.toNat_natCast] at K
 obtain ⟨k,hk⟩:∃ k,Lib.bitLen n=k:=⟨_,rfl⟩
 rw [hk] at K h1 h2
 have h3:k≤17:=by
  rcases Nat.lt_or_ge k 18 with h | h
  ·omega
  ·have:=Nat.pow_le_pow_right (show 0<2 by decide) h;have:=h2 hn;omega
 have HK:=qh (And.intro h1 (h2 hn));clear h1 h2 hk
 go_enter Tryz.func216,Tryz.ntmps216
 go_wp2_with fail
 refine K.out.mono ?_
 rintro e w' ⟨rfl,rfl⟩
 go_wp2_with fail
 go_ret
 have h2:=HK.out
 have h4:IntKind.u64.wrap (2 ^ k)=((2 ^ k:Nat):Int):=by
  rw [IntKind.wrap_u64,show ((2:Int) ^ k)=((2 ^ k:Nat):Int) from by simp]
  omega
 exact ⟨⟨2 ^ k,by rw [h4];rfl,by omega,by omega,k,rfl⟩,rfl⟩
theorem v96 (c:Nat) (x:Int) (w:World) (hc:w.cell? ⟨c,0,none⟩=some (.int .u64 x)) (hf:w.frozen? ⟨c,0,none⟩=false):Calls Tryz.prog 217 #[.pointer (some ⟨c,0,none⟩)] w (fun e w' =>
 ∃ y:Int,e = .returned (.int .u64 y)∧0≤y∧y<2 ^ 64∧w'.cell? ⟨c,0,none⟩=some (.int .u64 y)∧w'.frozen? ⟨c,0,none⟩=false∧y5 (fun k=>k=c) w w'):=by
 have HA:=qh (y5.refl (fun k=>k=c) w)
 go_enter Tryz.func217,Tryz.ntmps217
 go_wp2_with fail
 go_region
 obtain ⟨x1,hx1⟩:∃ x1,bits BinOp.xor .u64 x (IntKind.u64.wrap (x*8192))=x1:=⟨_,rfl⟩
 rw [hx1]
 clear hx1
 obtain ⟨w1,hw1⟩:∃ w1,(w.setCell ⟨c,0,none⟩ (.int .u64 x1)).drew=w1:=⟨_,rfl⟩
 have HA:=qh (show y5 (fun k=>k=c) w w1 from hw1 ▸ (HA.out.trans (y5.set _ _ rfl)).trans (y5.drew _ _))
 have hc:w1.cell? ⟨c,0,none⟩=some (.int .u64 x1):=hw1 ▸ World.cell?_setCell_same _ _ _ hc
 have hf:w1.frozen? ⟨c,0,none⟩=false:=by rw [← hw1];exact (World.frozen?_setCell _ _ _ _).trans hf
 rw [hw1]
 clear hw1
 go_wp2_with fail
 go_region
 obtain ⟨x2,hx2⟩:∃ x2,bits BinOp.xor .u64 x1 (x1 / 128)=x2:=⟨_,rfl⟩
 rw [hx2]
 clear hx2
 obtain ⟨w2,hw2⟩:∃ w2,(w1.setCell ⟨c,0,none⟩ (.int .u64 x2)).drew=w2:=⟨_,rfl⟩
 have HA:=qh (show y5 (fun k=>k=c) w w2 from hw2 ▸ (HA.out.trans (y5.set _ _ rfl)).trans (y5.drew _ _))
 have hc:w2.cell? ⟨c,0,none⟩=some (.int .u64 x2):=hw2 ▸ World.cell?_setCell_same _ _ _ hc
 have hf:w2.frozen? ⟨c,0,none⟩=false:=by rw [← hw2];exact (World.frozen?_setCell _ _ _ _).trans hf
 rw [hw2]
 clear hw2
 go_wp2_with fail
 go_region
 obtain ⟨x3,hx3⟩:∃ x3,bits BinOp.xor .u64 x2 (IntKind.u64.wrap (x2*131072))=x3:=⟨_,rfl⟩
 rw [hx3]
 have hy:=xc7 .xor x2 (IntKind.u64.wrap (x2*131072))
 rw [hx3] at hy
 have HY:=qh hy;clear hx3 hy
 obtain ⟨w3,hw3⟩:∃ w3,(w2.setCell ⟨c,0,none⟩ (.int .u64 x3)).drew=w3:=⟨_,rfl⟩
 have HA:=qh (show y5 (fun k=>k=c) w w3 from hw3 ▸ (HA.out.trans (y5.set _ _ rfl)).trans (y5.drew _ _))
 have hc:w3.cell? ⟨c,0,none⟩=some (.int .u64 x3):=hw3 ▸ World.cell?_setCell_same _ _ _ hc
 have hf:w3.frozen? ⟨c,0,none⟩=false:=by rw [← hw3];exact (World.frozen?_setCell _ _ _ _).trans hf
 rw [hw3]
 clear hw3
 go_wp2_with fail
 go_ret
 exact ⟨x3,rfl,HY.out.1,HY.out.2,hc,hf,HA.out⟩
theorem xc8 {w:World} {a c:Addr} {y:Int} (h:∃ z:Int,w.cell? c=some (.int .u64 z)):∃ z:Int,(w.setCell a (.int .u64 y)).cell? c=some (.int .u64 z):=by
 obtain ⟨z,hz⟩:=h
 by_cases e:a=c
 ·subst e;exact ⟨y,World.cell?_setCell_same _ _ _ hz⟩
 ·exact ⟨z,(World.cell?_setCell_other _ _ _ _ e).trans hz⟩
structure BrI (g o c:Nat) (a b:Nat) (d:Array Int) (w:World) (dk:Array Int) (wr:World):Prop where
 row:z74 wr g o dk
 rnd:∃ x:Int,wr.cell? ⟨c,0,none⟩=some (.int .u64 x)
 free:wr.frozen? ⟨c,0,none⟩=false
 apart:y5 (fun k=>k=g∨k=c) w wr
 perm:PermIn a b d dk
 size:dk.size=d.size
theorem xc9 {g o c a b i j:Nat} {d dk:Array Int} {w wr:World} (h:BrI g o c a b d w dk wr) (hi1:a≤i) (hi2:i<b) (hj1:a≤j) (hj2:j<b) (hb:b≤d.size) {x y:Value} (hx:x = .int .u64 dk[j]!) (hy:y = .int .u64 dk[i]!) :
 BrI g o c a b d w (swp dk i j) (((wr.setCell ⟨g,o+i,none⟩ x).setCell ⟨g,o+j,none⟩ y).drew):=by
 subst hx hy
 have hs:=h.size
 refine ⟨(h.row.swap (by omega) (by omega)).drew,?_,?_,((h.apart.trans (y5.set _ _ (.inl rfl))).trans (y5.set _ _ (.inl rfl))).trans (y5.drew _ _),permIn_trans _ _ _ _ _ h.perm (swp_permIn _ _ _ _ _ (by omega) (by omega) (by omega) (by omega) (by omega)),by rw [size_swp];exact hs⟩
 ·obtain ⟨z,hz⟩:=h.rnd
  obtain ⟨z1,hz1⟩:=xc8 (a:=⟨g,o+i,none⟩) (y:=dk[j]!) ⟨z,hz⟩
  exact xc8 (a:=⟨g,o+j,none⟩) (y:=dk[i]!) ⟨z1,hz1⟩
 ·exact (World.frozen?_setCell _ _ _ _).trans ((World.frozen?_setCell _ _ _ _).trans h.free)
theorem wt8 (g o cap n:Nat) (d:Array Int) (hn:d.size=n) (a b:Nat) (w:World) (hH:z74 w g o d) (hab:a+12<b) (hb:b≤d.size) (hsz:d.size<65536) :
 Calls Tryz.prog 260 #[.slice (some ⟨g,o,none⟩) n cap,.int .i64 a,.int .i64 b] w (zy0 g o (PermIn a b d) w):=by
 have KX:=qh v96
 obtain ⟨l,hl⟩:∃ l:Nat,b - a=l:=⟨_,rfl⟩
 have e1:(b:Int) - (a:Int)=(l:Int):=by omega
 obtain ⟨q,hq⟩:∃ q:Nat,l / 4=q:=⟨_,rfl⟩
 have e2:(l:Int).tdiv 4=(q:Int):=by rw [show (l:Int).tdiv 4=((l / 4:Nat):Int) from rfl,hq]
 obtain ⟨p,hp⟩:∃ p:Nat,a+q*2=p:=⟨_,rfl⟩
 have e3:(a:Int)+(q:Int)*2=(p:Int):=by omega
 have l1:3≤q:=by omega
 have l2:4*q≤l:=by omega
 have l3:8≤l:=by omega
 have l4:l<65536:=by omega
 have KP:=qh (fun w=>v15 l w (by omega) l4)
 have hgl:g<w.heap.size:=World.block_lt_of_cell? w _ (hH.cell (j:=a) (by omega))
 have hne:g≠w.heap.size:=by omega
 have HB:=qh (show BrI g o w.heap.size a b d w d (w.alloc (.cells #[.int .u64 l] 249)) from
  ⟨hH.apart (y5.alloc (fun _=>False) w _) id,⟨l,by simp⟩,by simp,y5.alloc _ w _,permIn_refl _ _ _,rfl⟩)
 clear hH hq
 have HLP:=qh (And.intro hl hp);clear hl hp
 obtain ⟨c,hc⟩:∃ c,w.heap.size=c:=⟨_,rfl⟩
 have HCC:=qh hc
 go_enter Tryz.func260,Tryz.ntmps260
 go_wp2_with fail
 refine (KP.out _).mono ?_
 rintro e w' ⟨⟨m,rfl,hm1,hm2,k,hmk⟩,rfl⟩
 have HB:=qh (HCC.out ▸ HB.out)
 generalize w.alloc (.cells #[.int .u64 (l:Int)] 249)=W0 at HB ⊢
 have HM:=qh (And.intro hm1 (And.intro hm2 hmk));clear hm1 hm2 hmk
 have l5:m<140000:=by have:=HM.out;omega
 have hgc:g≠c:=by have:=HCC.out;omega
 have v1:IntKind.u64.wrap ((m:Int) - 1)=(m:Int) - 1:=by rw [IntKind.wrap_u64];have:=HM.out;omega
 go_wp2_with fail
 go_loopw [9] (fun vi wr=>∃ (idx:Nat) (dk:Array Int),vi = .int .i64 idx∧p≤idx+1∧idx≤p+2∧BrI g o c a b d w dk wr) (fun vi _=>p+3 - (intOf vi).toNat)
 case atStart=>exact ⟨p - 1,d,by congr 1;omega,by omega,by omega,HB.out⟩
 case round =>
  clear HB
  obtain ⟨idx,dk,rfl,h1,h2,hI⟩:=hrel
  by_cases hlt:idx≤p+1
  ·obtain ⟨x,hx⟩:=hI.rnd
   have K:=qh (KX.out c x wr hx hI.free)
   have HI:=qh hI;clear hI hx
   obtain ⟨G,hG⟩:∃ G:Nat→Int,∀ t,dk[t]! = G t:=⟨fun t=>dk[t]!,fun _=>rfl⟩
   have HG:=qh hG;clear hG
   go_wp2_with fail
   refine K.out.mono ?_
   rintro e w2 ⟨y,rfl,hy0,hy1,hc2,hf2,hA2⟩
   have HI2:=qh (show BrI g o c a b d w dk w2 from ⟨HI.out.row.apart hA2 hgc,⟨y,hc2⟩,hf2,HI.out.apart.trans (hA2.mono fun k _ h => .inr h),HI.out.perm,HI.out.size⟩)
   obtain ⟨u,hu,hum⟩:∃ u:Nat,bits BinOp.and IntKind.u64 y ((m:Int) - 1)=(u:Int)∧u<m:=by
    obtain ⟨h3,h4,h5⟩:=HM.out
    have hk:k≤64:=by
     rcases Nat.lt_or_ge k 65 with h | h
     ·omega
     ·have:=Nat.pow_le_pow_right (show 0<2 by decide) h;omega
    have e:((m:Int))=2 ^ k:=by rw [h5];simp
    have hpos:(0:Int)<2 ^ k:=by rw [← e];omega
    refine ⟨(y % 2 ^ k).toNat,?_,?_⟩
    ·rw [e,bits_mask .u64 64 (by decide) wraps_u64 k hk y hy0 hy1,Int.toNat_of_nonneg (Int.emod_nonneg _ (by omega))]
    ·have:=Int.emod_lt_of_pos y hpos
     have:=Int.emod_nonneg y (show (2:Int) ^ k≠0 by omega)
     omega
   clear hc2 hf2 hA2 hy0 hy1
   have v2:IntKind.i64.wrap (u:Int)=(u:Int):=IntWalk.i64_in _ (by omega)
   by_cases hul:l≤u
   ·obtain ⟨v,hv⟩:∃ v,u - l=v:=⟨_,rfl⟩
    have e5:(u:Int) - (l:Int)=(v:Int):=by omega
    obtain ⟨p2,hp2⟩:∃ p2:Nat,a+v=p2:=⟨_,rfl⟩
    have e6:(a:Int)+(v:Int)=(p2:Int):=by omega
    have HV:=qh (show v<l∧a+v=p2 from ⟨by have:=HM.out;omega,hp2⟩);clear hv hp2
    have l8:p2<d.size:=by have:=HV.out;have:=HLP.out;omega
    have l9:idx<d.size:=by have:=HLP.out;omega
    have hcw:∀ t,t<d.size→w2.cell? ⟨g,o+t,none⟩=some (.int .u64 (G t)):=fun t ht=>by rw [HI2.out.row.cell (by have:=HI2.out.size;omega),HG.out]
    have hfw:∀ t,t<d.size→w2.frozen? ⟨g,o+t,none⟩=false:=fun t ht=>HI2.out.row.free (by have:=HI2.out.size;omega)
    obtain ⟨v',hy'⟩:=c8 (w:=w2) (p:=⟨g,o+idx,none⟩) (x := .int .u64 (G p2)) (hcw p2 l8)
    go_wp2_with fail
    go_region
    all_goals go_wp2_with fail
    go_roundw
    case rel=>exact ⟨idx+1,swp dk idx p2,by go_num,by omega,by omega,xc9 HI2.out (by have:=HLP.out;omega) (by have:=HLP.out;omega) (by have:=HV.out;omega) (by have:=HV.out;have:=HLP.out;omega) hb (by rw [HG.out]) (by rw [HG.out])⟩
    case measure=>simp [intOf] <;> omega
   ·obtain ⟨p2,hp2⟩:∃ p2:Nat,a+u=p2:=⟨_,rfl⟩
    have e6:(a:Int)+(u:Int)=(p2:Int):=by omega
    have HV:=qh (show u<l∧a+u=p2 from ⟨by omega,hp2⟩);clear hp2
    have l8:p2<d.size:=by have:=HV.out;have:=HLP.out;omega
    have l9:idx<d.size:=by have:=HLP.out;omega
    have hcw:∀ t,t<d.size→w2.cell? ⟨g,o+t,none⟩=some (.int .u64 (G t)):=fun t ht=>by rw [HI2.out.row.cell (by have:=HI2.out.size;omega),HG.out]
    have hfw:∀ t,t<d.size→w2.frozen? ⟨g,o+t,none⟩=false:=fun t ht=>HI2.out.row.free (by have:=HI2.out.size;omega)
    obtain ⟨v',hy'⟩:=c8 (w:=w2) (p:=⟨g,o+idx,none⟩) (x := .int .u64 (G p2)) (hcw p2 l8)
    go_wp2_with fail
    go_region
    all_goals go_wp2_with fail
    go_roundw
    case rel=>exact ⟨idx+1,swp dk idx p2,by go_num,by omega,by omega,xc9 HI2.out (by have:=HLP.out;omega) (by have:=HLP.out;omega) (by have:=HV.out;omega) (by have:=HV.out;have:=HLP.out;omega) hb (by rw [HG.out]) (by rw [HG.out])⟩
    case measure=>simp [intOf] <;> omega
  ·go_wp2_with fail
   go_end0
   exact ⟨rfl,dk,hI.perm,hI.row,hI.apart.mono fun k hk h=>by
    rcases h with h | h
    ·exact h
    ·have:=HCC.out;omega⟩
end
end Go.Proofs.YtchndljcahjldaaGreatDoor
