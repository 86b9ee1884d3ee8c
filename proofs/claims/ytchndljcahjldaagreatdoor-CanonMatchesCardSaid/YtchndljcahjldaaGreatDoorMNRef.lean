/- The reference's entries: what is known, the check, the comparison. -/
import Derived.Test.YtchndljcahjldaaGreatDoorMRStarts
namespace Go.Proofs.YtchndljcahjldaaGreatDoor
section
open Go.RowKit
variable {m:Int} {H L:List Iv} {k B b o n:Nat} {w W w1 w2 w':World} {v a c s a0 a1 a2 a3 a4 a5:Value} {p q t p0 p1 p2 p3 p4 p5:Addr}
theorem wd0 (w:World) (x y:Int) (t:TypeId) (k:Nat) (hk:k=w.heap.size) (h:t6 [(x,y)]):z19 (w.alloc (.cells #[.int .u64 x,.int .u64 y] t)) (.slice (some ⟨k,0,none⟩) 1 1) [(x,y)]:=by
 subst hk
 exact ⟨⟨_,_,rfl,by simp,fun _=>⟨w.heap.size,0,rfl,fun i p hp=>by
  match i,hp with
  | 0,hp=>simp at hp;subst hp;simp
  | i+1,hp=>simp at hp⟩⟩,h,by simp⟩
set_option maxRecDepth 100000 in
theorem y05 (r m:Int) (H:List Iv) (s:Value) (w:World) (ho:z19 w s H) (hg:z04 m H):Calls Tryz.prog 206 #[.agg #[.int .u64 r,.int .u64 m,s]] w (z69 (x7 m H) w):=by
 obtain ⟨p,cap,rfl,_⟩:=ho.at'.shape
 have hb:=y7 (z8 w (.cells #[.int .u64 r,.int .u64 m,.slice p H.length cap] 63)) (.cells #[.int .u64 0,.int .u64 m] 65)
 have K:=qh (y25 [(0,m)] H _ _ _ (wd0 (w.alloc (.cells #[.int .u64 r,.int .u64 m,.slice p H.length cap] 63)) 0 m 65 (w.heap.size+1) (by simp) hg.one) (ho.call hb))
 have HB:=qh hb;clear hb ho hg
 go_enter Tryz.func206,Tryz.ntmps206
 go_wp2_with fail
 refine K.out.mono ?_
 rintro e w1 ⟨v,rfl,hv,h⟩
 have HV:=qh hv
 have H1:=qh h;clear hv h
 go_wp2_with fail
 go_ret
 exact ⟨v,rfl,p8 HV.out HB.out.size,z7 HB.out H1.out⟩
set_option maxRecDepth 100000 in
set_option maxHeartbeats 2000000 in
theorem yx6 (r m r' m':Int) (H H':List Iv) (s s':Value) (w:World) (hl:v7 w s H) (hl':v7 w s' H') :
 Calls Tryz.prog 87 #[.agg #[.int .u64 r,.int .u64 m,s],.agg #[.int .u64 r',.int .u64 m',s']] w (q8 (decide (r=r'∧m=m'∧H=H')) w):=by
 obtain ⟨p,cap,rfl,_⟩:=hl.shape
 obtain ⟨p',cap',rfl,_⟩:=hl'.shape
 have hb:=y7 (z8 w (.cells #[.int .u64 r,.int .u64 m,.slice p H.length cap] 63)) (.cells #[.int .u64 r',.int .u64 m',.slice p' H'.length cap'] 63)
 have K:=qh (ya3 H H' _ _ _ (hl.call hb) (hl'.call hb))
 have HB:=qh hb;clear hb hl hl'
 by_cases h1:r=r'
 ·by_cases h2:m=m'
  ·subst h1 h2
   rw [show decide (r=r∧m=m∧H=H')=decide (H=H') from by simp]
   generalize decide (H=H')=b at *
   go_enter Tryz.func87,Tryz.ntmps87
   go_wp2_with fail
   refine K.out.mono ?_
   rintro e w1 ⟨rfl,h⟩
   have H1:=qh (z7 HB.out h);clear h
   go_wp2_with fail
   go_ret
   exact ⟨rfl,H1.out⟩
  ·rw [show decide (r=r'∧m=m'∧H=H')=false from by simp [h2]]
   have e2:(m == m')=false:=by simpa using h2
   subst h1
   clear K h2
   go_enter Tryz.func87,Tryz.ntmps87
   go_wp2_with fail
   go_ret
   exact ⟨rfl,HB.out⟩
 ·rw [show decide (r=r'∧m=m'∧H=H')=false from by simp [h1]]
  have e1:(r == r')=false:=by simpa using h1
  clear K h1
  go_enter Tryz.func87,Tryz.ntmps87
  go_wp2_with fail
  go_ret
  exact ⟨rfl,HB.out⟩
def z67 (m:Int) (H:List Iv):Option Nat:=(List.range H.length).find? fun i=>match H[i]? with | some y=>decide (m<y.2) | none=>false
def z18 (m:Int) (H:List Iv):Option (Int × Option Int):=match z16 H with
 | some e=>some e
 | none=>(z67 m H).map fun i=>(4,some (i:Int))
theorem zq7 (h:∀ (i:Nat) (y:Iv),H[i]? = some y→y.2≤m):z67 m H=none:=by grind [z67,List.find?_eq_none]
theorem y95 {y:Iv} (hy:H[k]? = some y) (hb:m<y.2) (h:∀ (i:Nat) (z:Iv),i<k→H[i]? = some z→z.2≤m):z67 m H=some k:=by
 have hk:k<H.length:=(List.getElem?_eq_some_iff.1 hy).1
 unfold z67
 obtain ⟨d,hd⟩:∃ d,H.length=k+(d+1):=⟨H.length - k - 1,by omega⟩
 rw [hd,List.range_add,List.find?_append]
 have h1:(List.range k).find? (fun i=>match H[i]? with | some y=>decide (m<y.2) | none=>false)=none:=by grind
 simp_all
theorem yr9 (h:z04 m H):z18 m H=none:=by
 unfold z18
 rw [show z16 H=none from by unfold z16;rw [(y65 H).2 h.good.can];rfl]
 simp only
 rw [zq7 fun i y hy=>h.hole y (List.mem_of_getElem? hy)]
 rfl
theorem wd1 (h64:m9 H) (hm:0≤m∧m≤UM):z18 m H=none↔z04 m H:=by
 refine ⟨fun h => ?_,yr9⟩
 unfold z18 at h
 cases hc:z16 H with
 | some e=>rw [hc] at h;cases h
 | none =>
   rw [hc] at h
   have hcan:m5 H:=by grind [y65,z16,zv2]
   have hb:z67 m H=none:=by cases hb:z67 m H with | none=>rfl | some k=>rw [hb] at h;cases h
   refine ⟨yy1 hcan h64,hm.1,hm.2,fun y hy => ?_⟩
   grind [List.mem_iff_getElem?,z67,List.find?_eq_none,List.getElem?_eq_some_iff]
set_option maxRecDepth 100000 in
set_option maxHeartbeats 2000000 in
theorem yo2 (r m:Int) (H:List Iv) (s:Value) (w:World) (hl:v7 w s H) (h64:m9 H) :
 Calls Tryz.prog 117 #[.agg #[.int .u64 r,.int .u64 m,s]] w (yz2 (c5 (z18 m H)) ((atE (z18 m H)).getD (-1)) w):=by
 obtain ⟨p,cap,rfl,hlen⟩:=hl.shape
 have hb:=z8 w (.cells #[.int .u64 r,.int .u64 m,.slice p H.length cap] 63)
 have k:=y18 H _ _ (hl.call hb) h64
 have HL:=qh (hl.call hb);clear hl
 have HB:=qh hb;clear hb
 cases hc:z16 H with
 | some e =>
   rw [hc] at k
   rw [show z18 m H=some e from by unfold z18;rw [hc]]
   have hne:(c5 (some e) == 0)=false:=by
    unfold z16 at hc
    cases hk:zv2 H with
    | none=>rw [hk] at hc;cases hc
    | some x =>
      rw [hk] at hc
      obtain rfl:=Option.some.inj hc
      have:x.1≠0:=by
       unfold zv2 at hk
       obtain ⟨i,_,hi⟩:=List.exists_of_findSome?_eq_some hk
       split at hi
       ·cases hi
       ·rename_i hn
        obtain rfl:=Option.some.inj hi
        exact hn
      simpa [c5] using this
   have K:=qh k;clear k hc
   generalize c5 (some e)=c at *
   generalize (atE (some e)).getD (-1)=a at *
   go_enter Tryz.func117,Tryz.ntmps117
   go_wp2_with fail
   refine K.out.mono ?_
   rintro e w1 ⟨rfl,h⟩
   have H1:=qh (z7 HB.out h);clear h
   go_wp2_with fail
   go_ret2
   exact ⟨rfl,H1.out⟩
 | none =>
   rw [hc] at k
   rw [show z18 m H=(z67 m H).map (fun i=>(4,some (i:Int))) from by unfold z18;rw [hc]]
   rw [show c5 none=0 from rfl,show (atE none).getD (-1) = -1 from rfl] at k
   have K:=qh k;clear k hc
   go_enter Tryz.func117,Tryz.ntmps117
   go_wp2_with fail
   refine K.out.mono ?_
   rintro e w1 ⟨rfl,h⟩
   have b0:=z6 (p:=⟨w.heap.size,1,none⟩) (v := .int .u64 m) (by simp) h
   have b1:=z6 (p:=⟨w.heap.size,2,none⟩) (v := .slice p H.length cap) (by simp) h
   have HL1:=qh (HL.out.call h)
   have H1:=qh (z7 HB.out h);clear h
   go_wp2_with fail
   go_loopw [6] (fun i wr=>∃ k:Nat,i = .int .i64 k∧k≤H.length∧(∀ j z,j<k→H[j]? = some z→z.2≤m)∧Below w1.heap.size w1 wr) (fun i _=>H.length - (intOf i).toNat)
   case atStart=>exact ⟨0,rfl,Nat.zero_le _,fun j z hj=>absurd hj (Nat.not_lt_zero j),Below.refl _ _⟩
   case round =>
    obtain ⟨k,rfl,hk,hbef,hbr⟩:=hrel
    have HBF:=qh hbef;clear hbef
    have d0:=z6 b0 hbr
    have d1:=z6 b1 hbr
    have HL2:=qh (HL1.out.call hbr)
    have H2:=qh (z7 H1.out hbr)
    have HBR:=qh hbr;clear hbr b0 b1
    by_cases hlt:k<H.length
    ·have hy:H[k]? = some H[k]:=by simp [hlt]
     obtain ⟨b,o,cp,e,_,c1⟩:=HL2.out.elem hy
     cases e
     have HY:=qh hy;clear hy
     generalize H[k]=y at *
     obtain ⟨y1,y2⟩:=y
     dsimp only at c1
     have i1:(0:Int)≤(k:Int):=by omega
     have i2:(k:Int)<(H.length:Int):=by omega
     by_cases hgt:m<y2
     ·have e1:decide (m<y2)=true:=by simpa using hgt
      have HZ:=qh (y95 HY.out hgt HBF.out)
      clear hgt
      go_wp2_with fail
      go_quiet (fail)
      go_wp2_with fail
      go_ret2
      exact ⟨by rw [HZ.out];rfl,H2.out.trans ⟨rfl,rfl,rfl,Nat.le_refl _,fun _ _=>rfl⟩⟩
     ·have e1:decide (m<y2)=false:=by simpa using hgt
      have HG:=qh hgt;clear hgt
      go_wp2_with fail
      go_quiet (fail)
      go_wp2_with fail
      go_roundw
      case rel=>exact ⟨k+1,by go_num,by omega,fun j z hj hz=>by
       rcases Nat.lt_or_eq_of_le (Nat.le_of_lt_succ hj) with h | h
       ·exact HBF.out j z h hz
       ·subst h
        have:=HY.out.symm.trans hz
        obtain rfl:=Option.some.inj this
        have:=HG.out
        dsimp only
        omega,HBR.out.trans ⟨rfl,rfl,rfl,Nat.le_refl _,fun _ _=>rfl⟩⟩
      case measure=>simp [intOf];omega
    ·obtain rfl:k=H.length:=by omega
     have HZ:=qh (zq7 fun i y hy=>HBF.out i y (List.getElem?_eq_some_iff.1 hy).1 hy)
     go_wp2_with fail
     go_ret2
     exact ⟨by rw [HZ.out];rfl,H2.out⟩
theorem ys0 {e:Int × Option Int} (h:z18 m H=some e):e.1≠0:=by
 unfold z18 at h
 cases hc:z16 H with
 | some x =>
   grind [Option.some.inj,z16,zv2,List.exists_of_findSome?_eq_some]
 | none =>
   rw [hc] at h
   cases hb:z67 m H with
   | none=>rw [hb] at h;cases h
   | some i=>rw [hb] at h;obtain rfl:=Option.some.inj h;show (4:Int)≠0;decide
def okN (m:Int) (H:List Iv):Bool:=(z18 m H).isNone
theorem x77 (h:z04 m H):okN m H=true:=by unfold okN;rw [yr9 h];rfl
theorem xr2 (h64:m9 H) (hm:0≤m∧m≤UM):okN m H=true↔z04 m H:=by
 rw [← wd1 h64 hm];unfold okN;cases z18 m H <;> simp
theorem x78 (m:Int) (H:List Iv):(c5 (z18 m H) == 0)=okN m H:=by
 unfold okN
 cases h:z18 m H with
 | none=>rfl
 | some e=>have:=ys0 h;simp [c5,this]
def i7 (w:World) (B:Nat) (v:Value) (n:Nat):Prop:=
 ∃ p cap,v = .slice p n cap∧n≤maxLen∧(0<n→∃ g o,p=some ⟨g,o,none⟩∧B≤g∧∀ i,i<n →
  ((∃ z:Int,w.cell? ⟨g,o+i*2,none⟩=some (.int .u64 z))∧w.frozen? ⟨g,o+i*2,none⟩=false)∧(∃ z:Int,w.cell? ⟨g,o+i*2+1,none⟩=some (.int .u64 z))∧w.frozen? ⟨g,o+i*2+1,none⟩=false)
theorem ys1 (h:r9 w B v L):i7 w B v L.length:=by
 have hrow:w.ownsRow B 65 2 v L.length (ivC L):=h
 rcases hrow.2 with ⟨rfl,h0⟩ | ⟨g,cap,cur,rfl,hbg,hg,hnc,hcm,_⟩
 ·rw [h0];exact ⟨none,0,rfl,Nat.zero_le _,fun h=>absurd h (Nat.lt_irrefl 0)⟩
 ·refine ⟨_,cap,rfl,Nat.le_trans hnc hcm,fun _=>⟨g,0,rfl,hbg,fun i hi => ?_⟩⟩
  have hx:L[i]? = some L[i]:=by simp [hi]
  rw [Nat.zero_add]
  exact ⟨⟨⟨L[i].1,by rw [hrow.cellAt (i*2) (by omega)];exact (y72 L i _ hx).1⟩,hrow.frozenAt _⟩,⟨L[i].2,by rw [hrow.cellAt (i*2+1) (by omega)];exact (y72 L i _ hx).2⟩,hrow.frozenAt _⟩
def z56 (r:Int) (L:List Iv):Int:=if L = [] then 0 else r
def z44 (L:List Iv):Bool := !L.isEmpty
def wd2 (r:Int) (L:List Iv) (w:World) (e:Ending) (w':World):Prop:=
 ∃ v,e = .returned (.tuple #[.agg #[.int .u64 (z56 r L),.int .u64 (i8 L),v],.bool (z44 L)])∧v7 w' v (r5 L)∧i7 w' w.heap.size v (r5 L).length∧Below w.heap.size w w'
theorem wd3 (h:L.length=k+1):∃ z,L[k]? = some z∧i8 L=z.2:=by
 have hk:k<L.length:=by omega
 refine ⟨L[k],by simp [hk],?_⟩
 grind [i8,Nat.add_sub_cancel]
theorem yd5 (w:World):v7 w (.slice none 0 0) []:=⟨none,0,rfl,by simp,fun h=>absurd rfl h⟩
theorem yh1 (w:World) (B:Nat):i7 w B (.slice none 0 0) 0:=⟨none,0,rfl,Nat.zero_le _,fun h=>absurd h (Nat.lt_irrefl 0)⟩
theorem ys2:(r5 L).length≤2*(L.length+1)+2:=by grind [r5,yl4,i8,List.length_cons,List.length_nil]
theorem z78 (h:r9 W B v L) (hb:b<B) (u:Value):r9 (W.setCell ⟨b,o,none⟩ u) B v L:=by
 have hrow:W.ownsRow B 65 2 v L.length (ivC L):=h
 refine World.ownsRow.kept hrow (row:=some b) ⟨rfl,rfl,rfl,by simp,fun k _ hk=>Below.heap_setCell _ _ _ k (fun e=>hk (by rw [e]))⟩ ?_
 rcases hrow.2 with ⟨rfl,_⟩ | ⟨g,cap,cur,rfl,hbg,_⟩
 ·exact .inl rfl
 ·refine .inr fun e => ?_
  have h1:g=b:=Option.some.inj e
  omega
theorem z29 {x y z:Value} (h0:w.cell? ⟨b,0,none⟩=some x) (h1:w.cell? ⟨b,1,none⟩=some y) (h2:w.cell? ⟨b,2,none⟩=some z) (u v t:Value) :
 (((w.setCell ⟨b,0,none⟩ u).setCell ⟨b,1,none⟩ v).setCell ⟨b,2,none⟩ t).cell? ⟨b,0,none⟩=some u∧(((w.setCell ⟨b,0,none⟩ u).setCell ⟨b,1,none⟩ v).setCell ⟨b,2,none⟩ t).cell? ⟨b,1,none⟩=some v ∧
   (((w.setCell ⟨b,0,none⟩ u).setCell ⟨b,1,none⟩ v).setCell ⟨b,2,none⟩ t).cell? ⟨b,2,none⟩=some t:=by
 refine ⟨?_,?_,?_⟩
 ·rw [World.cell?_setCell_other _ _ _ _ (by simp),World.cell?_setCell_other _ _ _ _ (by simp)];exact World.cell?_setCell_same' _ _ _ (by rw [h0];rfl)
 ·rw [World.cell?_setCell_other _ _ _ _ (by simp)];exact World.cell?_setCell_same' _ _ _ (by rw [World.cell?_setCell_other _ _ _ _ (by simp),h1];rfl)
 ·exact World.cell?_setCell_same' _ _ _ (by rw [World.cell?_setCell_other _ _ _ _ (by simp),World.cell?_setCell_other _ _ _ _ (by simp),h2];rfl)
set_option maxRecDepth 100000 in
theorem ys3 (r:Int) (L:List Iv) (s:Value) (w:World) (ho:z19 w s L):Calls Tryz.prog 205 #[.int .u64 r,s] w (wd2 r L w):=by
 obtain ⟨p,cap,rfl,_⟩:=ho.at'.shape
 by_cases hL:L = []
 ·have hlen:L.length=0:=by rw [hL];rfl
  unfold wd2
  rw [show z56 r L=0 from by simp [z56,hL],show i8 L=0 from by rw [hL];rfl,show z44 L=false from by rw [hL];rfl,show r5 L = [] from by rw [hL];rfl]
  rw [hlen]
  clear ho hL hlen
  go_enter Tryz.func205,Tryz.ntmps205
  go_wp2_with fail
  refine bodyPost_ret (v := .tuple #[.agg #[.int .u64 0,.int .u64 0,.slice none 0 0],.bool false]) (by simp [results,Tryz.results205,go_sem]) rfl ?_
  exact ⟨_,rfl,yd5 _,yh1 _ _,z8 _ _⟩
 ·obtain ⟨k,hk⟩:∃ k,L.length=k+1:=⟨L.length - 1,by have:=List.length_pos_iff.2 hL;omega⟩
  obtain ⟨z,hz,ht⟩:=wd3 hk
  have htr:=z88 ho.good hL
  obtain ⟨b,o,cp,e,_,c1⟩:=ho.at'.elem hz
  cases e
  rw [← ht] at c1
  have hlen:=ho.len
  have hb0:=z8 w (.cells #[.int .u64 0,.int .u64 0,.slice none 0 0] 63)
  have c1':=z6 c1 hb0
  have hb:=y7 hb0 (.cells #[.int .u64 0,.int .u64 (i8 L)] 65)
  have hgo:t6 [(0,i8 L)]:=z20 htr.1 (Int.le_refl _) htr.2
  have hh:zn0 [(0,i8 L)] L=r5 L:=by unfold r5;rw [if_neg hL]
  have km:=y25 [(0,i8 L)] L _ _ _ (wd0 (w.alloc (.cells #[.int .u64 0,.int .u64 0,.slice none 0 0] 63)) 0 (i8 L) 65 (w.heap.size+1) (by simp) hgo) (ho.call hb)
  rw [hh] at km
  unfold wd2
  rw [show z56 r L=r from by simp [z56,hL],show z44 L=true from by unfold z44;cases L with | nil=>exact absurd rfl hL | cons _ _=>rfl]
  have K:=qh km;clear km
  have HB:=qh hb;clear hb hb0
  have HHL:=qh (ys2 (L:=L))
  rw [hk] at hlen HHL K ⊢
  have i0:¬ (k:Int)+1=0:=by omega
  have i1:(0:Int)≤(k:Int):=by omega
  clear ho hL hk hz ht htr c1 hgo hh
  generalize i8 L=t at *
  generalize r5 L=G at *
  go_enter Tryz.func205,Tryz.ntmps205
  go_wp2_with fail
  refine K.out.mono ?_
  rintro e w1 ⟨v,rfl,hv,h⟩
  obtain ⟨pv,cv,rfl,_⟩:=y8 hv
  have HV:=qh hv
  have e0:=z6 (p:=⟨w.heap.size,0,none⟩) (v := .int .u64 0) (by simp) h
  have e1:=z6 (p:=⟨w.heap.size,1,none⟩) (v := .int .u64 0) (by simp) h
  have e2:=z6 (p:=⟨w.heap.size,2,none⟩) (v := .slice none 0 0) (by simp) h
  have f0:=x6 (p:=⟨w.heap.size,0,none⟩) (by simp) (by simp;omega) h
  have f1:=x6 (p:=⟨w.heap.size,1,none⟩) (by simp) (by simp;omega) h
  have f2:=x6 (p:=⟨w.heap.size,2,none⟩) (by simp) (by simp;omega) h
  have H1:=qh h;clear hv h
  go_wp2_with fail
  have hs3:=z29 e0 e1 e2 (.int .u64 r) (.int .u64 t) (.slice pv G.length cv)
  refine bodyPost_ret (v := .tuple #[.agg #[.int .u64 r,.int .u64 t,.slice pv G.length cv],.bool true]) (by simp [results,Tryz.results205,go_sem,hs3.1,hs3.2.1,hs3.2.2]) rfl ?_
  have hlt:w.heap.size<((w.alloc (.cells #[.int .u64 0,.int .u64 0,.slice none 0 0] 63)).alloc (.cells #[.int .u64 0,.int .u64 t] 65)).heap.size:=by simp;omega
  have ho:=z78 (o:=2) (z78 (o:=1) (z78 (o:=0) HV.out hlt (.int .u64 r)) hlt (.int .u64 t)) hlt (.slice pv G.length cv)
  have hw:=p8 (B':=w.heap.size) ho (Nat.le_of_lt hlt)
  have hl20:G.length≤1048576:=by have:=HHL.out;omega
  exact ⟨_,rfl,r9.ivs hw hl20,ys1 hw,(((z7 HB.out H1.out).setCell (p:=⟨w.heap.size,0,none⟩) (Nat.le_refl _) _).setCell (p:=⟨w.heap.size,1,none⟩) (Nat.le_refl _) _).setCell (p:=⟨w.heap.size,2,none⟩) (Nat.le_refl _) _⟩
theorem ys4:(x7 m H).length≤1+2*(1+H.length):=by grind [yl4,List.length_cons,List.length_nil,x7]
theorem zj9 (h:v7 w v L∧i7 w B v L.length) (hb:b<B) (u:Value):v7 (w.setCell ⟨b,o,none⟩ u) v L∧i7 (w.setCell ⟨b,o,none⟩ u) B v L.length:=by
 obtain ⟨⟨p,cap,h1,h2,h3⟩,⟨p',cap',k1,k2,k3⟩⟩:=h
 rw [h1] at k1
 cases k1
 have far:∀ (g j:Nat),B≤g→(w.setCell ⟨b,o,none⟩ u).cell? ⟨g,j,none⟩=w.cell? ⟨g,j,none⟩:=fun g j hg=>World.cell?_setCell_other _ _ _ _ (fun e=>by cases e;omega)
 have ff:∀ (g j:Nat),B≤g→(w.setCell ⟨b,o,none⟩ u).frozen? ⟨g,j,none⟩=w.frozen? ⟨g,j,none⟩:=fun g j hg=>by
  unfold World.frozen?
  rw [Below.heap_setCell _ _ _ g (fun e=>by have:g=b:=e;omega)]
 refine ⟨⟨p,cap,h1,h2,fun hne => ?_⟩,⟨p,cap,h1,k2,fun hn => ?_⟩⟩
 ·obtain ⟨g,j,e,h6⟩:=h3 hne
  obtain ⟨g',j',e',hB,_⟩:=k3 (List.length_pos_iff.2 hne)
  rw [e] at e'
  cases e'
  exact ⟨g,j,e,fun i x hx=>⟨by rw [far _ _ hB];exact (h6 i x hx).1,by rw [far _ _ hB];exact (h6 i x hx).2⟩⟩
 ·obtain ⟨g,j,e,hB,h7⟩:=k3 hn
  refine ⟨g,j,e,hB,fun i hi => ?_⟩
  obtain ⟨⟨⟨z,hz⟩,hf⟩,⟨y,hy⟩,hg⟩:=h7 i hi
  exact ⟨⟨⟨z,by rw [far _ _ hB];exact hz⟩,by rw [ff _ _ hB];exact hf⟩,⟨y,by rw [far _ _ hB];exact hy⟩,by rw [ff _ _ hB];exact hg⟩
theorem i7.base {B':Nat} (h:i7 w B v n) (hB:B'≤B):i7 w B' v n:=by
 obtain ⟨p,cap,h1,h2,h3⟩:=h
 refine ⟨p,cap,h1,h2,fun hn => ?_⟩
 obtain ⟨g,o,e,h4,h5⟩:=h3 hn
 exact ⟨g,o,e,Nat.le_trans hB h4,h5⟩
theorem zh5 {b:Value} (h:Below W.heap.size W w1∧w1.cell? p=some a∧w1.cell? q=some b∧w1.cell? t=some c) (hb:Hid (Below w1.heap.size w1 w2)) :
 Below W.heap.size W w2∧w2.cell? p=some a∧w2.cell? q=some b∧w2.cell? t=some c:=⟨z7 h.1 hb.out,z6 h.2.1 hb.out,z6 h.2.2.1 hb.out,z6 h.2.2.2 hb.out⟩
theorem yx7 {b:Value} (h:Below W.heap.size W w1∧w1.cell? p=some a∧w1.cell? q=some b∧w1.cell? t=some c) :
 Below W.heap.size W w1.drew∧w1.drew.cell? p=some a∧w1.drew.cell? q=some b∧w1.drew.cell? t=some c:=zh5 h (qh (Below.refl _ _).drew)
theorem xj8 {b:Value} {g:Nat} (h:Below W.heap.size W w1∧w1.cell? p=some a∧w1.cell? q=some b∧w1.cell? t=some c) (hg:W.heap.size≤g) (hp:p.block≠g) (hq:q.block≠g) (ht:t.block≠g) (x y z:Value) :
 Below W.heap.size W (((w1.setCell ⟨g,0,none⟩ x).setCell ⟨g,1,none⟩ y).setCell ⟨g,2,none⟩ z)∧(((w1.setCell ⟨g,0,none⟩ x).setCell ⟨g,1,none⟩ y).setCell ⟨g,2,none⟩ z).cell? p=some a∧(((w1.setCell ⟨g,0,none⟩ x).setCell ⟨g,1,none⟩ y).setCell ⟨g,2,none⟩ z).cell? q=some b ∧
  (((w1.setCell ⟨g,0,none⟩ x).setCell ⟨g,1,none⟩ y).setCell ⟨g,2,none⟩ z).cell? t=some c:=by
 have far:∀ k:Addr,k.block≠g→(((w1.setCell ⟨g,0,none⟩ x).setCell ⟨g,1,none⟩ y).setCell ⟨g,2,none⟩ z).cell? k=w1.cell? k:=fun k hk=>by
  rw [World.cell?_setCell_other _ _ _ _ (fun e=>hk (by rw [← e])),World.cell?_setCell_other _ _ _ _ (fun e=>hk (by rw [← e])),World.cell?_setCell_other _ _ _ _ (fun e=>hk (by rw [← e]))]
 exact ⟨((h.1.setCell (p:=⟨g,0,none⟩) hg _).setCell (p:=⟨g,1,none⟩) hg _).setCell (p:=⟨g,2,none⟩) hg _,by rw [far _ hp];exact h.2.1,by rw [far _ hq];exact h.2.2.1,by rw [far _ ht];exact h.2.2.2⟩
set_option maxRecDepth 100000 in
set_option maxHeartbeats 2000000 in
theorem yx8 (r m:Int) (H:List Iv) (s:Value) (w:World) (ho:z19 w s H) (hg:z04 m H) (hl:H.length≤1000):Calls Tryz.prog 141 #[.agg #[.int .u64 r,.int .u64 m,s]] w (wd2 r (x7 m H) w):=by
 obtain ⟨p,cap,rfl,_⟩:=ho.at'.shape
 obtain ⟨w1,hw1⟩:∃ w1,w.alloc (.cells #[.int .u64 r,.int .u64 m,.slice p H.length cap] 63)=w1:=⟨_,rfl⟩
 have hb1:Below w.heap.size w w1:=hw1 ▸ z8 w _
 have hs1:w1.heap.size=w.heap.size+1:=by rw [← hw1];simp
 have a0:w1.cell? ⟨w.heap.size,0,none⟩=some (.int .u64 r):=by rw [← hw1];simp
 have a1:w1.cell? ⟨w.heap.size,1,none⟩=some (.int .u64 m):=by rw [← hw1];simp
 have a2:w1.cell? ⟨w.heap.size,2,none⟩=some (.slice p H.length cap):=by rw [← hw1];simp
 have hb2:=z8 w1 (.cells #[.int .u64 0,.int .u64 0,.slice none 0 0] 63)
 have HS0:=qh (yx7 (zh5 ⟨Below.refl _ _,a0,a1,a2⟩ (qh hb2)))
 clear a0 a1 a2
 have HO:=qh (ho.call hb1)
 have KK:=qh (fun W h=>y05 r m H (.slice p H.length cap) W h hg)
 have KO:=qh (fun s W h=>ys3 r (x7 m H) s W h)
 have hkg:=z14 hg
 have hkl:=ys4 (m:=m) (H:=H)
 have HG:=qh (And.intro hkg (show (x7 m H).length≤20000 by omega))
 have HB:=qh hb1;clear hb1 hkg hkl hg ho hb2
 go_enter Tryz.func141,Tryz.ntmps141
 go_wp2_with fail
 clear hw1
 have HS1:=qh hs1;clear hs1
 obtain ⟨w2,hw2⟩:∃ w2,w1.alloc (.cells #[.int .u64 0,.int .u64 0,.slice none 0 0] 63)=w2:=⟨_,rfl⟩
 have hB2:Below w1.heap.size w1 w2:=hw2 ▸ z8 w1 _
 have q0:w2.cell? ⟨w.heap.size+1,0,none⟩=some (.int .u64 0):=by rw [← hw2,← HS1.out];simp
 have q1:w2.cell? ⟨w.heap.size+1,1,none⟩=some (.int .u64 0):=by rw [← hw2,← HS1.out];simp
 have q2:w2.cell? ⟨w.heap.size+1,2,none⟩=some (.slice none 0 0):=by rw [← hw2,← HS1.out];simp
 have p0:w2.frozen? ⟨w.heap.size+1,0,none⟩=false:=by rw [← hw2,← HS1.out];simp
 have p1:w2.frozen? ⟨w.heap.size+1,1,none⟩=false:=by rw [← hw2,← HS1.out];simp
 have p2:w2.frozen? ⟨w.heap.size+1,2,none⟩=false:=by rw [← hw2,← HS1.out];simp
 have hlt:w.heap.size+1<w2.heap.size:=World.block_lt_of_cell? w2 _ q0
 rw [hw2] at HS0 ⊢
 have HB2:=qh (z7 HB.out hB2)
 have HLT:=qh hlt
 have HO2:=qh (HO.out.call hB2)
 clear hB2 hlt hw2
 go_region_held3 (fun w'=>Below w1.heap.size w1 w'∧w'.cell? ⟨w.heap.size,0,none⟩=some (.int .u64 r)∧w'.cell? ⟨w.heap.size,1,none⟩=some (.int .u64 m)∧w'.cell? ⟨w.heap.size,2,none⟩=some (.slice p H.length cap))
  (first
    | exact zh5 (by assumption) (by assumption)
    | exact HS0.out
    | exact xj8 (by assumption) (Nat.le_of_eq HS1.out) (by simp) (by simp) (by simp) _ _ _
    | assumption)
  (first
    | (go_at_call 206;refine (KK.out _ (HO2.out.call (Below.refl _ _).drew)).mono ?_;rintro en w3 ⟨vk,rfl,hvk,h'⟩;have hh:Below w2.heap.size w2 w3:=(Below.refl _ _).drew.trans h';have t0:=z6 q0 hh;have t1:=z6 q1 hh;have t2:=z6 q2 hh;have u0:=x6 p0 HLT.out hh;have u1:=x6 p1 HLT.out hh;have u2:=x6 p2 HLT.out hh;have HL3:Hid (w.heap.size+1<w3.heap.size):=qh (Nat.lt_of_lt_of_le HLT.out h'.size);have HVK:=qh hvk;clear hvk hh;have h':=qh h')
    | (go_at_call 205;refine (KO.out _ _ ⟨HVK.out.ivs (by have:=HG.out.2;omega),HG.out.1,HG.out.2⟩).mono ?_;rintro en w4 ⟨vo,rfl,hvo,hso,h'⟩;have t0:=z6 t0 h';have t1:=z6 t1 h';have t2:=z6 t2 h';have u0:=x6 u0 HL3.out h';have u1:=x6 u1 HL3.out h';have u2:=x6 u2 HL3.out h';obtain ⟨po,co,rfl,_⟩:=hvo.shape;have HVO:=qh (And.intro hvo hso);clear hvo hso;have h':=qh h';have hSw:=zh5 (by assumption) h'))
 have hHeld:=hSw
 have HSW:=qh (z7 HB.out hSw.1)
 clear hSw hHeld
 go_wp2_with fail
 have hs3:=z29 t0 t1 t2 (.int .u64 (z56 r (x7 m H))) (.int .u64 (i8 (x7 m H))) (.slice po (r5 (x7 m H)).length co)
 refine bodyPost_ret (v := .tuple #[.agg #[.int .u64 (z56 r (x7 m H)),.int .u64 (i8 (x7 m H)),.slice po (r5 (x7 m H)).length co],.bool (z44 (x7 m H))]) (by simp [results,Tryz.results141,go_sem,hs3.1,hs3.2.1,hs3.2.2]) rfl ?_
 have hv:=zj9 (o:=2) (zj9 (o:=1) (zj9 (o:=0) HVO.out HL3.out (.int .u64 (z56 r (x7 m H)))) HL3.out (.int .u64 (i8 (x7 m H)))) HL3.out (.slice po (r5 (x7 m H)).length co)
 exact ⟨_,rfl,hv.1,hv.2.base (by have:=HL3.out;omega),((HSW.out.setCell (p:=⟨w.heap.size+1,0,none⟩) (Nat.le_succ _) _).setCell (p:=⟨w.heap.size+1,1,none⟩) (Nat.le_succ _) _).setCell (p:=⟨w.heap.size+1,2,none⟩) (Nat.le_succ _) _⟩
def z02 (v:Value):Prop:=xc0 v∧∀ a n c,v = .slice (some a) n c→n≤c
theorem zf2:z02 (.slice none 0 0):=⟨fun n c e=>(by cases e;exact ⟨rfl,rfl⟩),fun a n c e=>(by cases e)⟩
theorem a7 (a:Addr) (n c:Nat) (h:n≤c):z02 (.slice (some a) n c):=⟨fun n c e=>(by cases e),fun a n c e=>(by cases e;exact h)⟩
structure zk0 (w:World) (s:Value) (m:Int) (H:List Iv):Prop where
 at':v7 w s H
 all:m9 H
 sane:z02 s
 low:0≤m
 top:m≤18446744073709551615
 len:H.length≤5000
theorem zk0.call (h:zk0 w s m H) (hb:Below w.heap.size w w'):zk0 w' s m H:=⟨h.at'.call hb,h.all,h.sane,h.low,h.top,h.len⟩
structure ys5 (w:World) (s:Value) (L:List Iv):Prop where
 at':v7 w s L
 good:t6 L
 sane:z02 s
 len:L.length≤15000
theorem ys5.call (h:ys5 w s L) (hb:Below w.heap.size w w'):ys5 w' s L:=⟨h.at'.call hb,h.good,h.sane,h.len⟩
theorem ys5.op (h:ys5 w s L):z19 w s L:=⟨h.at',h.good,by have:=h.len;omega⟩
structure y96 (w:World) (s:Value) (m:Int) (H:List Iv):Prop where
 any:zk0 w s m H
 good:z04 m H
theorem y96.call (h:y96 w s m H) (hb:Below w.heap.size w w'):y96 w' s m H:=⟨h.any.call hb,h.good⟩
theorem y96.op (h:y96 w s m H):z19 w s H:=⟨h.any.at',h.good.good,by have:=h.any.len;omega⟩
def v65 (L:List Iv) (w:World) (e:Ending) (w':World):Prop:=∃ v,e = .returned v∧v7 w' v L∧z02 v∧i7 w' w.heap.size v L.length∧Below w.heap.size w w'
def xj9 (r:Int) (L:List Iv) (w:World) (e:Ending) (w':World):Prop:=
 ∃ v,e = .returned (.tuple #[.agg #[.int .u64 (z56 r L),.int .u64 (i8 L),v],.bool (z44 L)])∧v7 w' v (r5 L)∧z02 v∧i7 w' w.heap.size v (r5 L).length∧Below w.heap.size w w'
theorem xk0 (w:World) (a b:Int) (t:TypeId) (k:Nat) (hk:k=w.heap.size):v7 (w.alloc (.cells #[.int .u64 a,.int .u64 b] t)) (.slice (some ⟨k,0,none⟩) 1 1) [(a,b)]:=by
 subst hk
 refine ⟨_,_,rfl,by simp,fun _=>⟨w.heap.size,0,rfl,fun i p hp => ?_⟩⟩
 match i,hp with
 | 0,hp=>simp at hp;subst hp;simp
 | i+1,hp=>simp at hp
theorem yx9 {a b:Int} (h:0≤a∧a≤18446744073709551615) (h':0≤b∧b≤18446744073709551615):m9 [(a,b)]:=fun x hx=>by rw [List.mem_singleton.1 hx];exact ⟨h,h'⟩
def E3 (w:World) (b:Nat) (r m:Int) (s:Value):Prop:=w.cell? ⟨b,0,none⟩=some (.int .u64 r)∧w.cell? ⟨b,1,none⟩=some (.int .u64 m)∧w.cell? ⟨b,2,none⟩=some s
theorem E3.call {r:Int} (h:E3 w b r m s) (hb:Below w.heap.size w w'):E3 w' b r m s:=⟨z6 h.1 hb,z6 h.2.1 hb,z6 h.2.2 hb⟩
theorem E3.new (w:World) (r m:Int) (s:Value) (t:TypeId) (k:Nat) (hk:k=w.heap.size):E3 (w.alloc (.cells #[.int .u64 r,.int .u64 m,s] t)) k r m s:=by
 subst hk
 refine ⟨?_,?_,?_⟩ <;> simp
theorem yd6 (h:Below W.heap.size W w1∧w1.cell? p0=some a0∧w1.cell? p1=some a1∧w1.cell? p2=some a2∧w1.cell? p3=some a3∧w1.cell? p4=some a4∧w1.cell? p5=some a5) (hb:Hid (Below w1.heap.size w1 w2)):Below W.heap.size W w2∧w2.cell? p0=some a0∧w2.cell? p1=some a1∧w2.cell? p2=some a2∧w2.cell? p3=some a3∧w2.cell? p4=some a4∧w2.cell? p5=some a5:=
 ⟨z7 h.1 hb.out,z6 h.2.1 hb.out,z6 h.2.2.1 hb.out,z6 h.2.2.2.1 hb.out,z6 h.2.2.2.2.1 hb.out,z6 h.2.2.2.2.2.1 hb.out,z6 h.2.2.2.2.2.2 hb.out⟩
theorem yy0 (h:Below W.heap.size W w1∧w1.cell? p0=some a0∧w1.cell? p1=some a1∧w1.cell? p2=some a2∧w1.cell? p3=some a3∧w1.cell? p4=some a4∧w1.cell? p5=some a5):Below W.heap.size W w1.drew∧w1.drew.cell? p0=some a0∧w1.drew.cell? p1=some a1∧w1.drew.cell? p2=some a2∧w1.drew.cell? p3=some a3∧w1.drew.cell? p4=some a4∧w1.drew.cell? p5=some a5:=yd6 h (qh (Below.refl _ _).drew)
theorem x79 (h:Below W.heap.size W w1∧w1.cell? p0=some a0∧w1.cell? p1=some a1∧w1.cell? p2=some a2∧w1.cell? p3=some a3∧w1.cell? p4=some a4∧w1.cell? p5=some a5):Below W.heap.size W w1:=h.1
theorem i7.call (h:i7 w B v n) (hb:Below w.heap.size w w'):i7 w' B v n:=by
 obtain ⟨p,cap,h1,h2,h3⟩:=h
 refine ⟨p,cap,h1,h2,fun hn => ?_⟩
 obtain ⟨g,o,e,hB,h7⟩:=h3 hn
 refine ⟨g,o,e,hB,fun i hi => ?_⟩
 obtain ⟨⟨⟨z,hz⟩,hf⟩,⟨y,hy⟩,hg⟩:=h7 i hi
 exact ⟨⟨⟨z,z6 hz hb⟩,x6 hf (World.block_lt_of_cell? w _ hz) hb⟩,⟨y,z6 hy hb⟩,x6 hg (World.block_lt_of_cell? w _ hy) hb⟩
end
end Go.Proofs.YtchndljcahjldaaGreatDoor
