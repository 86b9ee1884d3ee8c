/- The reference's entries: what is known, the check, the comparison. -/
import Derived.Test.YtchndljcahjldaaGreatDoorKRStarts
namespace Go.Proofs.YtchndljcahjldaaGreatDoor
section
open Go.RowKit
theorem wy5 (l:List Iv) (s:Value) (x:Int) (r:Bool) (w:World) (hl:u7 w s l) (h:y8 l x=r):Calls Tryz.prog 51 #[s,.int .u64 x] w (t7 r w):=h ▸ zh3 l s x w hl
set_option maxRecDepth 100000 in
theorem x79 (r m:Int) (H:List Iv) (s:Value) (c:Int) (w:World) (hl:u7 w s H):Calls Tryz.prog 99 #[.agg #[.int .u64 r,.int .u64 m,s],.int .u64 c] w (t7 (ze9 m H c) w):=by
 obtain ⟨p,cap,rfl,_⟩:=hl.shape
 have HL:=qh (hl.call (z8 w (.cells #[.int .u64 r,.int .u64 m,.slice p H.length cap] 63)));clear hl
 have HB:=qh (z8 w (.cells #[.int .u64 r,.int .u64 m,.slice p H.length cap] 63))
 by_cases hc:c≤m
 ·have hle:decide (c≤m)=true:=by simpa using hc
  have K:=qh (zh3 H _ c _ HL.out)
  have HE:Hid (ze9 m H c = !y8 H c):=qh (by unfold ze9;rw [hle];rfl)
  rw [HE.out]
  clear hc HE
  generalize y8 H c=b at *
  go_enter Tryz.func99,Tryz.ntmps99
  go_wp2_with fail
  refine K.out.mono ?_
  rintro e w1 ⟨rfl,h⟩
  have H1:=qh (z7 HB.out h);clear h
  cases b <;>
  ·go_wp2_with fail
   go_ret
   exact ⟨rfl,H1.out⟩
 ·have hle:decide (c≤m)=false:=by simpa using hc
  rw [show ze9 m H c=false from by unfold ze9;rw [hle];rfl]
  clear hc
  go_enter Tryz.func99,Tryz.ntmps99
  go_wp2_with fail
  go_ret
  exact ⟨rfl,HB.out⟩
set_option maxRecDepth 100000 in
set_option maxHeartbeats 2000000 in
theorem yy6 (r m r' m':Int) (H H':List Iv) (s s':Value) (w:World) (hl:u7 w s H) (hl':u7 w s' H') :
 Calls Tryz.prog 87 #[.agg #[.int .u64 r,.int .u64 m,s],.agg #[.int .u64 r',.int .u64 m',s']] w (t7 (decide (r=r'∧m=m'∧H=H')) w):=by
 obtain ⟨p,cap,rfl,_⟩:=hl.shape
 obtain ⟨p',cap',rfl,_⟩:=hl'.shape
 have hb:=y6 (z8 w (.cells #[.int .u64 r,.int .u64 m,.slice p H.length cap] 63)) (.cells #[.int .u64 r',.int .u64 m',.slice p' H'.length cap'] 63)
 have K:=qh (ya3 H H' _ _ _ (hl.call hb) (hl'.call hb))
 have HB:=qh hb;clear hb hl hl'
 by_cases h1:r=r'
 ·by_cases h2:m=m'
  ·subst h1 h2
   rw [show decide (r=r∧m=m∧H=H')=decide (H=H') from by simp]
   generalize decide (H=H')=b at *
   go_enter Tryz.func87,Tryz.ntmps87
   go_wp2_with fail
   refine K.out.mono ?_
   rintro e w1 ⟨rfl,h⟩
   have H1:=qh (z7 HB.out h);clear h
   go_wp2_with fail
   go_ret
   exact ⟨rfl,H1.out⟩
  ·rw [show decide (r=r'∧m=m'∧H=H')=false from by simp [h2]]
   have e2:(m == m')=false:=by simpa using h2
   subst h1
   clear K h2
   go_enter Tryz.func87,Tryz.ntmps87
   go_wp2_with fail
   go_ret
   exact ⟨rfl,HB.out⟩
 ·rw [show decide (r=r'∧m=m'∧H=H')=false from by simp [h1]]
  have e1:(r == r')=false:=by simpa using h1
  clear K h1
  go_enter Tryz.func87,Tryz.ntmps87
  go_wp2_with fail
  go_ret
  exact ⟨rfl,HB.out⟩
def z36 (m:Int) (H:List Iv):Option Nat:=(List.range H.length).find? fun i=>match H[i]? with | some y=>decide (m<y.2) | none=>false
def z09 (m:Int) (H:List Iv):Option (Int × Option Int):=match z14 H with
 | some e=>some e
 | none=>(z36 m H).map fun i=>(4,some (i:Int))
theorem zp5 {m:Int} {H:List Iv} (h:∀ (i:Nat) (y:Iv),H[i]? = some y→y.2≤m):z36 m H=none:=by
 unfold z36
 rw [List.find?_eq_none]
 intro i _
 cases hy:H[i]? with
 | none=>simp
 | some y=>have:=h i y hy;simp;omega
theorem y96 {m:Int} {H:List Iv} {k:Nat} {y:Iv} (hy:H[k]? = some y) (hb:m<y.2) (h:∀ (i:Nat) (z:Iv),i<k→H[i]? = some z→z.2≤m):z36 m H=some k:=by
 have hk:k<H.length:=(List.getElem?_eq_some_iff.1 hy).1
 unfold z36
 obtain ⟨d,hd⟩:∃ d,H.length=k+(d+1):=⟨H.length - k - 1,by omega⟩
 rw [hd,List.range_add,List.find?_append]
 have h1:(List.range k).find? (fun i=>match H[i]? with | some y=>decide (m<y.2) | none=>false)=none:=by
  rw [List.find?_eq_none]
  intro i hi
  have hi:i<k:=by simpa using hi
  cases hz:H[i]? with
  | none=>simp
  | some z=>have:=h i z hi hz;simp;omega
 rw [h1,List.range_succ_eq_map,List.map_cons,List.find?_cons]
 simp only [Nat.add_zero,hy]
 simp [hb]
theorem yt0 {m:Int} {H:List Iv} (h:z15 m H):z09 m H=none:=by
 unfold z09
 rw [show z14 H=none from by unfold z14;rw [(y68 H).2 h.good.can];rfl]
 simp only
 rw [zp5 fun i y hy=>h.hole y (List.mem_of_getElem? hy)]
 rfl
theorem wd6 {m:Int} {H:List Iv} (h64:o6 H) (hm:0≤m∧m≤UM):z09 m H=none↔z15 m H:=by
 refine ⟨fun h => ?_,yt0⟩
 unfold z09 at h
 cases hc:z14 H with
 | some e=>rw [hc] at h;cases h
 | none =>
   rw [hc] at h
   have hcan:q7 H:=by
    refine (y68 H).1 ?_
    unfold z14 at hc
    cases hk:zr7 H with
    | none=>rfl
    | some x=>rw [hk] at hc;cases hc
   have hb:z36 m H=none:=by cases hb:z36 m H with | none=>rfl | some k=>rw [hb] at h;cases h
   refine ⟨yz0 hcan h64,hm.1,hm.2,fun y hy => ?_⟩
   obtain ⟨i,hi⟩:=List.mem_iff_getElem?.1 hy
   unfold z36 at hb
   rw [List.find?_eq_none] at hb
   have:=hb i (by simp;exact (List.getElem?_eq_some_iff.1 hi).1)
   rw [hi] at this
   simpa using this
set_option maxRecDepth 100000 in
set_option maxHeartbeats 2000000 in
theorem zv9 (r m:Int) (H:List Iv) (s:Value) (w:World) (hl:u7 w s H) (h64:o6 H) :
 Calls Tryz.prog 117 #[.agg #[.int .u64 r,.int .u64 m,s]] w (yk6 (o9 (z09 m H)) ((atE (z09 m H)).getD (-1)) w):=by
 obtain ⟨p,cap,rfl,hlen⟩:=hl.shape
 have hb:=z8 w (.cells #[.int .u64 r,.int .u64 m,.slice p H.length cap] 63)
 have k:=y22 H _ _ (hl.call hb) h64
 have HL:=qh (hl.call hb);clear hl
 have HB:=qh hb;clear hb
 cases hc:z14 H with
 | some e =>
   rw [hc] at k
   rw [show z09 m H=some e from by unfold z09;rw [hc]]
   have hne:(o9 (some e) == 0)=false:=by
    unfold z14 at hc
    cases hk:zr7 H with
    | none=>rw [hk] at hc;cases hc
    | some x =>
      rw [hk] at hc
      obtain rfl:=Option.some.inj hc
      have:x.1≠0:=by
       unfold zr7 at hk
       obtain ⟨i,_,hi⟩:=List.exists_of_findSome?_eq_some hk
       split at hi
       ·cases hi
       ·rename_i hn
        obtain rfl:=Option.some.inj hi
        exact hn
      simpa [o9] using this
   have K:=qh k;clear k hc
   generalize o9 (some e)=c at *
   generalize (atE (some e)).getD (-1)=a at *
   go_enter Tryz.func117,Tryz.ntmps117
   go_wp2_with fail
   refine K.out.mono ?_
   rintro e w1 ⟨rfl,h⟩
   have H1:=qh (z7 HB.out h);clear h
   go_wp2_with fail
   go_ret2
   exact ⟨rfl,H1.out⟩
 | none =>
   rw [hc] at k
   rw [show z09 m H=(z36 m H).map (fun i=>(4,some (i:Int))) from by unfold z09;rw [hc]]
   rw [show o9 none=0 from rfl,show (atE none).getD (-1) = -1 from rfl] at k
   have K:=qh k;clear k hc
   go_enter Tryz.func117,Tryz.ntmps117
   go_wp2_with fail
   refine K.out.mono ?_
   rintro e w1 ⟨rfl,h⟩
   have b0:=z6 (p:=⟨w.heap.size,1,none⟩) (v := .int .u64 m) (by simp) h
   have b1:=z6 (p:=⟨w.heap.size,2,none⟩) (v := .slice p H.length cap) (by simp) h
   have HL1:=qh (HL.out.call h)
   have H1:=qh (z7 HB.out h);clear h
   go_wp2_with fail
   go_loopw [6] (fun i wr=>∃ k:Nat,i = .int .i64 k∧k≤H.length∧(∀ j z,j<k→H[j]? = some z→z.2≤m)∧Below w1.heap.size w1 wr) (fun i _=>H.length - (intOf i).toNat)
   case atStart=>exact ⟨0,rfl,Nat.zero_le _,fun j z hj=>absurd hj (Nat.not_lt_zero j),Below.refl _ _⟩
   case round =>
    obtain ⟨k,rfl,hk,hbef,hbr⟩:=hrel
    have HBF:=qh hbef;clear hbef
    have d0:=z6 b0 hbr
    have d1:=z6 b1 hbr
    have HL2:=qh (HL1.out.call hbr)
    have H2:=qh (z7 H1.out hbr)
    have HBR:=qh hbr;clear hbr b0 b1
    by_cases hlt:k<H.length
    ·have hy:H[k]? = some H[k]:=by simp [hlt]
     obtain ⟨b,o,cp,e,_,c1⟩:=HL2.out.elem hy
     cases e
     have HY:=qh hy;clear hy
     generalize H[k]=y at *
     obtain ⟨y1,y2⟩:=y
     dsimp only at c1
     have i1:(0:Int)≤(k:Int):=by omega
     have i2:(k:Int)<(H.length:Int):=by omega
     by_cases hgt:m<y2
     ·have e1:decide (m<y2)=true:=by simpa using hgt
      have HZ:=qh (y96 HY.out hgt HBF.out)
      clear hgt
      go_wp2_with fail
      go_quiet (fail)
      go_wp2_with fail
      go_ret2
      exact ⟨by rw [HZ.out];rfl,H2.out.trans ⟨rfl,rfl,rfl,Nat.le_refl _,fun _ _=>rfl⟩⟩
     ·have e1:decide (m<y2)=false:=by simpa using hgt
      have HG:=qh hgt;clear hgt
      go_wp2_with fail
      go_quiet (fail)
      go_wp2_with fail
      go_roundw
      case rel=>exact ⟨k+1,by go_num,by omega,fun j z hj hz=>by
       rcases Nat.lt_or_eq_of_le (Nat.le_of_lt_succ hj) with h | h
       ·exact HBF.out j z h hz
       ·subst h
        have:=HY.out.symm.trans hz
        obtain rfl:=Option.some.inj this
        have:=HG.out
        dsimp only
        omega,HBR.out.trans ⟨rfl,rfl,rfl,Nat.le_refl _,fun _ _=>rfl⟩⟩
      case measure=>simp [intOf];omega
    ·obtain rfl:k=H.length:=by omega
     have HZ:=qh (zp5 fun i y hy=>HBF.out i y (List.getElem?_eq_some_iff.1 hy).1 hy)
     go_wp2_with fail
     go_ret2
     exact ⟨by rw [HZ.out];rfl,H2.out⟩
end
section
open Go.RowKit
theorem yt1 {m:Int} {H:List Iv} {e:Int × Option Int} (h:z09 m H=some e):e.1≠0:=by
 unfold z09 at h
 cases hc:z14 H with
 | some x =>
   rw [hc] at h
   obtain rfl:=Option.some.inj h
   unfold z14 at hc
   cases hk:zr7 H with
   | none=>rw [hk] at hc;cases hc
   | some x =>
     rw [hk] at hc
     obtain rfl:=Option.some.inj hc
     unfold zr7 at hk
     obtain ⟨i,_,hi⟩:=List.exists_of_findSome?_eq_some hk
     split at hi
     ·cases hi
     ·rename_i hn
      obtain rfl:=Option.some.inj hi
      exact hn
 | none =>
   rw [hc] at h
   cases hb:z36 m H with
   | none=>rw [hb] at h;cases h
   | some i=>rw [hb] at h;obtain rfl:=Option.some.inj h;show (4:Int)≠0;decide
def okN (m:Int) (H:List Iv):Bool:=(z09 m H).isNone
theorem x80 {m:Int} {H:List Iv} (h:z15 m H):okN m H=true:=by unfold okN;rw [yt0 h];rfl
theorem xr4 {m:Int} {H:List Iv} (h64:o6 H) (hm:0≤m∧m≤UM):okN m H=true↔z15 m H:=by
 rw [← wd6 h64 hm];unfold okN;cases z09 m H <;> simp
theorem yh6 (m:Int) (H:List Iv):(o9 (z09 m H) == 0)=okN m H:=by
 unfold okN
 cases h:z09 m H with
 | none=>rfl
 | some e=>have:=yt1 h;simp [o9,this]
set_option maxRecDepth 100000 in
theorem yo9 (r m:Int) (H:List Iv) (s:Value) (w:World) (hl:u7 w s H) (h64:o6 H) :
 Calls Tryz.prog 160 #[.agg #[.int .u64 r,.int .u64 m,s]] w (t7 (okN m H) w):=by
 obtain ⟨p,cap,rfl,_⟩:=hl.shape
 have hb:=z8 w (.cells #[.int .u64 r,.int .u64 m,.slice p H.length cap] 63)
 have k:=zv9 r m H _ _ (hl.call hb) h64
 have HE:=yh6 m H
 have K:=qh k;clear k hl
 have HB:=qh hb;clear hb
 generalize okN m H=b at *
 generalize o9 (z09 m H)=c at *
 generalize (atE (z09 m H)).getD (-1)=a at *
 go_enter Tryz.func160,Tryz.ntmps160
 go_wp2_with fail
 refine K.out.mono ?_
 rintro e w1 ⟨rfl,h⟩
 have H1:=qh (z7 HB.out h);clear h
 go_wp2_with fail
 go_ret
 exact ⟨by first | rw [HE] | rfl,H1.out⟩
set_option maxRecDepth 100000 in
theorem y52 (r m:Int) (H:List Iv) (s:Value) (w:World) (hl:u7 w s H) (h64:o6 H) :
 Calls Tryz.prog 118 #[.agg #[.int .u64 r,.int .u64 m,s]] w (t7 (okN m H && r7 m H) w):=by
 obtain ⟨p,cap,rfl,_⟩:=hl.shape
 have hb:=z8 w (.cells #[.int .u64 r,.int .u64 m,.slice p H.length cap] 63)
 have k:=yo9 r m H _ _ (hl.call hb) h64
 have HL:=qh (hl.call hb)
 have KH:=qh (fun W h=>wy5 H (.slice p H.length cap) m (y8 H m) W h rfl)
 have K:=qh k;clear k hl
 have HB:=qh hb;clear hb
 unfold r7
 generalize y8 H m=b at *
 cases ho:okN m H with
 | false =>
   rw [ho] at K
   clear ho KH
   go_enter Tryz.func118,Tryz.ntmps118
   go_wp2_with fail
   refine K.out.mono ?_
   rintro e w1 ⟨rfl,h⟩
   have H1:=qh (z7 HB.out h);clear h
   go_wp2_with fail
   go_ret
   exact ⟨rfl,H1.out⟩
 | true =>
   rw [ho] at K
   clear ho
   go_enter Tryz.func118,Tryz.ntmps118
   go_wp2_with fail
   refine K.out.mono ?_
   rintro e w1 ⟨rfl,h⟩
   have b0:=z6 (p:=⟨w.heap.size,1,none⟩) (v := .int .u64 m) (by simp) h
   have b1:=z6 (p:=⟨w.heap.size,2,none⟩) (v := .slice p H.length cap) (by simp) h
   have HL1:=qh (HL.out.call h)
   have H1:=qh (z7 HB.out h);clear h
   go_wp2_with fail
   refine (KH.out _ HL1.out).mono ?_
   rintro e w2 ⟨rfl,h⟩
   have H2:=qh (z7 H1.out h);clear h
   cases b <;>
   ·go_wp2_with fail
    go_ret
    exact ⟨rfl,H2.out⟩
def b8 (w:World) (B:Nat) (v:Value) (n:Nat):Prop:=
 ∃ p cap,v = .slice p n cap∧n≤maxLen∧(0<n→∃ g o,p=some ⟨g,o,none⟩∧B≤g∧∀ i,i<n →
  ((∃ z:Int,w.cell? ⟨g,o+i*2,none⟩=some (.int .u64 z))∧w.frozen? ⟨g,o+i*2,none⟩=false)∧(∃ z:Int,w.cell? ⟨g,o+i*2+1,none⟩=some (.int .u64 z))∧w.frozen? ⟨g,o+i*2+1,none⟩=false)
theorem w06 {w:World} {B:Nat} {v:Value} {L:List Iv} (h:r6 w B v L):b8 w B v L.length:=by
 have hrow:w.ownsRow B 65 2 v L.length (ivC L):=h
 rcases hrow.2 with ⟨rfl,h0⟩ | ⟨g,cap,cur,rfl,hbg,hg,hnc,hcm,_⟩
 ·rw [h0];exact ⟨none,0,rfl,Nat.zero_le _,fun h=>absurd h (Nat.lt_irrefl 0)⟩
 ·refine ⟨_,cap,rfl,Nat.le_trans hnc hcm,fun _=>⟨g,0,rfl,hbg,fun i hi => ?_⟩⟩
  have hx:L[i]? = some L[i]:=by simp [hi]
  rw [Nat.zero_add]
  exact ⟨⟨⟨L[i].1,by rw [hrow.cellAt (i*2) (by omega)];exact (y75 L i _ hx).1⟩,hrow.frozenAt _⟩,⟨L[i].2,by rw [hrow.cellAt (i*2+1) (by omega)];exact (y75 L i _ hx).2⟩,hrow.frozenAt _⟩
def zi7 (r:Int) (L:List Iv):Int:=if L = [] then 0 else r
def ze8 (L:List Iv):Bool := !L.isEmpty
theorem wy6 {L:List Iv} {k:Nat} (h:L.length=k+1):∃ z,L[k]? = some z∧z04 L=z.2:=by
 have hk:k<L.length:=by omega
 refine ⟨L[k],by simp [hk],?_⟩
 unfold z04
 rw [List.getLast?_eq_getElem?,h,Nat.add_sub_cancel]
 simp [hk]
theorem yd2 (w:World):u7 w (.slice none 0 0) []:=⟨none,0,rfl,by simp,fun h=>absurd rfl h⟩
theorem x81 (w:World) (B:Nat):b8 w B (.slice none 0 0) 0:=⟨none,0,rfl,Nat.zero_le _,fun h=>absurd h (Nat.lt_irrefl 0)⟩
theorem w07 {L:List Iv}:(r9 L).length≤2*(L.length+1)+2:=by
 unfold r9
 split
 ·simp
 ·have h1:=yl9 [(0,z04 L)] L
  simp only [List.length_cons,List.length_nil] at h1
  omega
theorem zd2 {W:World} {B b o:Nat} {v:Value} {L:List Iv} (h:r6 W B v L) (hb:b<B) (u:Value):r6 (W.setCell ⟨b,o,none⟩ u) B v L:=by
 have hrow:W.ownsRow B 65 2 v L.length (ivC L):=h
 refine World.ownsRow.kept hrow (row:=some b) ⟨rfl,rfl,rfl,by simp,fun k _ hk=>Below.heap_setCell _ _ _ k (fun e=>hk (by rw [e]))⟩ ?_
 rcases hrow.2 with ⟨rfl,_⟩ | ⟨g,cap,cur,rfl,hbg,_⟩
 ·exact .inl rfl
 ·refine .inr fun e => ?_
  have h1:g=b:=Option.some.inj e
  omega
theorem zd3 {w:World} {b:Nat} {x y z:Value} (h0:w.cell? ⟨b,0,none⟩=some x) (h1:w.cell? ⟨b,1,none⟩=some y) (h2:w.cell? ⟨b,2,none⟩=some z) (u v t:Value) :
 (((w.setCell ⟨b,0,none⟩ u).setCell ⟨b,1,none⟩ v).setCell ⟨b,2,none⟩ t).cell? ⟨b,0,none⟩=some u∧(((w.setCell ⟨b,0,none⟩ u).setCell ⟨b,1,none⟩ v).setCell ⟨b,2,none⟩ t).cell? ⟨b,1,none⟩=some v ∧
   (((w.setCell ⟨b,0,none⟩ u).setCell ⟨b,1,none⟩ v).setCell ⟨b,2,none⟩ t).cell? ⟨b,2,none⟩=some t:=by
 refine ⟨?_,?_,?_⟩
 ·rw [World.cell?_setCell_other _ _ _ _ (by simp),World.cell?_setCell_other _ _ _ _ (by simp)];exact World.cell?_setCell_same' _ _ _ (by rw [h0];rfl)
 ·rw [World.cell?_setCell_other _ _ _ _ (by simp)];exact World.cell?_setCell_same' _ _ _ (by rw [World.cell?_setCell_other _ _ _ _ (by simp),h1];rfl)
 ·exact World.cell?_setCell_same' _ _ _ (by rw [World.cell?_setCell_other _ _ _ _ (by simp),World.cell?_setCell_other _ _ _ _ (by simp),h2];rfl)
theorem w08 {m:Int} {H:List Iv}:(x9 m H).length≤1+2*(1+H.length):=by
 have h1:=yl9 [(0,m)] H
 simp only [List.length_cons,List.length_nil] at h1
 unfold x9
 omega
theorem b8.base {w:World} {B B':Nat} {v:Value} {n:Nat} (h:b8 w B v n) (hB:B'≤B):b8 w B' v n:=by
 obtain ⟨p,cap,h1,h2,h3⟩:=h
 refine ⟨p,cap,h1,h2,fun hn => ?_⟩
 obtain ⟨g,o,e,h4,h5⟩:=h3 hn
 exact ⟨g,o,e,Nat.le_trans hB h4,h5⟩
theorem y11 {W w1 w2:World} {p q t:Addr} {a b c:Value} (h:Below W.heap.size W w1∧w1.cell? p=some a∧w1.cell? q=some b∧w1.cell? t=some c) (hb:Hid (Below w1.heap.size w1 w2)) :
 Below W.heap.size W w2∧w2.cell? p=some a∧w2.cell? q=some b∧w2.cell? t=some c:=⟨z7 h.1 hb.out,z6 h.2.1 hb.out,z6 h.2.2.1 hb.out,z6 h.2.2.2 hb.out⟩
theorem xr5 {W w1:World} {p q t:Addr} {a b c:Value} (h:Below W.heap.size W w1∧w1.cell? p=some a∧w1.cell? q=some b∧w1.cell? t=some c) :
 Below W.heap.size W w1.drew∧w1.drew.cell? p=some a∧w1.drew.cell? q=some b∧w1.drew.cell? t=some c:=y11 h (qh (Below.refl _ _).drew)
theorem wd7 {W w1:World} {p q t:Addr} {a b c:Value} {g:Nat} (h:Below W.heap.size W w1∧w1.cell? p=some a∧w1.cell? q=some b∧w1.cell? t=some c) (hg:W.heap.size≤g) (hp:p.block≠g) (hq:q.block≠g) (ht:t.block≠g) (x y z:Value) :
 Below W.heap.size W (((w1.setCell ⟨g,0,none⟩ x).setCell ⟨g,1,none⟩ y).setCell ⟨g,2,none⟩ z)∧(((w1.setCell ⟨g,0,none⟩ x).setCell ⟨g,1,none⟩ y).setCell ⟨g,2,none⟩ z).cell? p=some a∧(((w1.setCell ⟨g,0,none⟩ x).setCell ⟨g,1,none⟩ y).setCell ⟨g,2,none⟩ z).cell? q=some b ∧
  (((w1.setCell ⟨g,0,none⟩ x).setCell ⟨g,1,none⟩ y).setCell ⟨g,2,none⟩ z).cell? t=some c:=by
 have far:∀ k:Addr,k.block≠g→(((w1.setCell ⟨g,0,none⟩ x).setCell ⟨g,1,none⟩ y).setCell ⟨g,2,none⟩ z).cell? k=w1.cell? k:=fun k hk=>by
  rw [World.cell?_setCell_other _ _ _ _ (fun e=>hk (by rw [← e])),World.cell?_setCell_other _ _ _ _ (fun e=>hk (by rw [← e])),World.cell?_setCell_other _ _ _ _ (fun e=>hk (by rw [← e]))]
 exact ⟨((h.1.setCell (p:=⟨g,0,none⟩) hg _).setCell (p:=⟨g,1,none⟩) hg _).setCell (p:=⟨g,2,none⟩) hg _,by rw [far _ hp];exact h.2.1,by rw [far _ hq];exact h.2.2.1,by rw [far _ ht];exact h.2.2.2⟩
end
section
open Go.RowKit
def z03 (v:Value):Prop:=xc5 v∧∀ a n c,v = .slice (some a) n c→n≤c
theorem zb5:z03 (.slice none 0 0):=⟨fun n c e=>(by cases e;exact ⟨rfl,rfl⟩),fun a n c e=>(by cases e)⟩
theorem a8 (a:Addr) (n c:Nat) (h:n≤c):z03 (.slice (some a) n c):=⟨fun n c e=>(by cases e),fun a n c e=>(by cases e;exact h)⟩
structure zi8 (w:World) (s:Value) (m:Int) (H:List Iv):Prop where
 at':u7 w s H
 all:o6 H
 sane:z03 s
 low:0≤m
 top:m≤18446744073709551615
 len:H.length≤5000
theorem zi8.call {w w':World} {s:Value} {m:Int} {H:List Iv} (h:zi8 w s m H) (hb:Below w.heap.size w w'):zi8 w' s m H:=⟨h.at'.call hb,h.all,h.sane,h.low,h.top,h.len⟩
structure yt2 (w:World) (s:Value) (L:List Iv):Prop where
 at':u7 w s L
 good:v7 L
 sane:z03 s
 len:L.length≤15000
theorem yt2.call {w w':World} {s:Value} {L:List Iv} (h:yt2 w s L) (hb:Below w.heap.size w w'):yt2 w' s L:=⟨h.at'.call hb,h.good,h.sane,h.len⟩
theorem yt2.op {w:World} {s:Value} {L:List Iv} (h:yt2 w s L):z73 w s L:=⟨h.at',h.good,by have:=h.len;omega⟩
structure zw0 (w:World) (s:Value) (m:Int) (H:List Iv):Prop where
 any:zi8 w s m H
 good:z15 m H
theorem zw0.call {w w':World} {s:Value} {m:Int} {H:List Iv} (h:zw0 w s m H) (hb:Below w.heap.size w w'):zw0 w' s m H:=⟨h.any.call hb,h.good⟩
theorem zw0.op {w:World} {s:Value} {m:Int} {H:List Iv} (h:zw0 w s m H):z73 w s H:=⟨h.any.at',h.good.good,by have:=h.any.len;omega⟩
def v65 (L:List Iv) (w:World) (e:Ending) (w':World):Prop:=∃ v,e = .returned v∧u7 w' v L∧z03 v∧b8 w' w.heap.size v L.length∧Below w.heap.size w w'
def xj9 (r:Int) (L:List Iv) (w:World) (e:Ending) (w':World):Prop:=
 ∃ v,e = .returned (.tuple #[.agg #[.int .u64 (zi7 r L),.int .u64 (z04 L),v],.bool (ze8 L)])∧u7 w' v (r9 L)∧z03 v∧b8 w' w.heap.size v (r9 L).length∧Below w.heap.size w w'
end
section
open Go.RowKit
theorem xk0 (w:World) (a b:Int) (t:TypeId) (k:Nat) (hk:k=w.heap.size):u7 (w.alloc (.cells #[.int .u64 a,.int .u64 b] t)) (.slice (some ⟨k,0,none⟩) 1 1) [(a,b)]:=by
 subst hk
 refine ⟨_,_,rfl,by simp,fun _=>⟨w.heap.size,0,rfl,fun i p hp => ?_⟩⟩
 match i,hp with
 | 0,hp=>simp at hp;subst hp;simp
 | i+1,hp=>simp at hp
theorem yy7 {a b:Int} (h:0≤a∧a≤18446744073709551615) (h':0≤b∧b≤18446744073709551615):o6 [(a,b)]:=fun x hx=>by rw [List.mem_singleton.1 hx];exact ⟨h,h'⟩
end
section
open Go.RowKit
def E3 (w:World) (b:Nat) (r m:Int) (s:Value):Prop:=w.cell? ⟨b,0,none⟩=some (.int .u64 r)∧w.cell? ⟨b,1,none⟩=some (.int .u64 m)∧w.cell? ⟨b,2,none⟩=some s
theorem E3.call {w w':World} {b:Nat} {r m:Int} {s:Value} (h:E3 w b r m s) (hb:Below w.heap.size w w'):E3 w' b r m s:=⟨z6 h.1 hb,z6 h.2.1 hb,z6 h.2.2 hb⟩
theorem E3.new (w:World) (r m:Int) (s:Value) (t:TypeId) (k:Nat) (hk:k=w.heap.size):E3 (w.alloc (.cells #[.int .u64 r,.int .u64 m,s] t)) k r m s:=by
 subst hk
 refine ⟨?_,?_,?_⟩ <;> simp
theorem yd3 {W w1 w2:World} {p0 p1 p2 p3 p4 p5:Addr} {a0 a1 a2 a3 a4 a5:Value} (h:Below W.heap.size W w1∧w1.cell? p0=some a0∧w1.cell? p1=some a1∧w1.cell? p2=some a2∧w1.cell? p3=some a3∧w1.cell? p4=some a4∧w1.cell? p5=some a5) (hb:Hid (Below w1.heap.size w1 w2)):Below W.heap.size W w2∧w2.cell? p0=some a0∧w2.cell? p1=some a1∧w2.cell? p2=some a2∧w2.cell? p3=some a3∧w2.cell? p4=some a4∧w2.cell? p5=some a5:=
 ⟨z7 h.1 hb.out,z6 h.2.1 hb.out,z6 h.2.2.1 hb.out,z6 h.2.2.2.1 hb.out,z6 h.2.2.2.2.1 hb.out,z6 h.2.2.2.2.2.1 hb.out,z6 h.2.2.2.2.2.2 hb.out⟩
theorem yy8 {W w1:World} {p0 p1 p2 p3 p4 p5:Addr} {a0 a1 a2 a3 a4 a5:Value} (h:Below W.heap.size W w1∧w1.cell? p0=some a0∧w1.cell? p1=some a1∧w1.cell? p2=some a2∧w1.cell? p3=some a3∧w1.cell? p4=some a4∧w1.cell? p5=some a5):Below W.heap.size W w1.drew∧w1.drew.cell? p0=some a0∧w1.drew.cell? p1=some a1∧w1.drew.cell? p2=some a2∧w1.drew.cell? p3=some a3∧w1.drew.cell? p4=some a4∧w1.drew.cell? p5=some a5:=yd3 h (qh (Below.refl _ _).drew)
theorem x82 {W w1:World} {p0 p1 p2 p3 p4 p5:Addr} {a0 a1 a2 a3 a4 a5:Value} (h:Below W.heap.size W w1∧w1.cell? p0=some a0∧w1.cell? p1=some a1∧w1.cell? p2=some a2∧w1.cell? p3=some a3∧w1.cell? p4=some a4∧w1.cell? p5=some a5):Below W.heap.size W w1:=h.1
end
section
open Go.RowKit
theorem b8.call {w w':World} {B:Nat} {v:Value} {n:Nat} (h:b8 w B v n) (hb:Below w.heap.size w w'):b8 w' B v n:=by
 obtain ⟨p,cap,h1,h2,h3⟩:=h
 refine ⟨p,cap,h1,h2,fun hn => ?_⟩
 obtain ⟨g,o,e,hB,h7⟩:=h3 hn
 refine ⟨g,o,e,hB,fun i hi => ?_⟩
 obtain ⟨⟨⟨z,hz⟩,hf⟩,⟨y,hy⟩,hg⟩:=h7 i hi
 exact ⟨⟨⟨z,z6 hz hb⟩,y9 hf (World.block_lt_of_cell? w _ hz) hb⟩,⟨y,z6 hy hb⟩,y9 hg (World.block_lt_of_cell? w _ hy) hb⟩
end
end Go.Proofs.YtchndljcahjldaaGreatDoor
