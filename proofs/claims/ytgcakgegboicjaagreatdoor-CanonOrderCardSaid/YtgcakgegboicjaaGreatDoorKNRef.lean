/- The reference's entries: what is known, the check, the comparison. -/
import Derived.Test.YtgcakgegboicjaaGreatDoorKRStarts
namespace Go.Proofs.YtgcakgegboicjaaGreatDoor
section
open Go.RowKit
set_option maxRecDepth 100000 in
theorem refHasE_any (r m:Int) (H:List Iv) (s:Value) (c:Int) (w:World) (hl:IvsAt w s H):Calls Tryz.prog 142 #[.agg #[.int .u64 r,.int .u64 m,s],.int .u64 c] w (IsEnd (hasE m H c) w):=by
 obtain ⟨p,cap,rfl,_⟩:=hl.shape
 have HL:=qh (hl.call (below_new w (.cells #[.int .u64 r,.int .u64 m,.slice p H.length cap] 82)));clear hl
 have HB:=qh (below_new w (.cells #[.int .u64 r,.int .u64 m,.slice p H.length cap] 82))
 by_cases hc:c≤m
 ·have hle:decide (c≤m)=true:=by simpa using hc
  have K:=qh (refHasL_any H _ c _ HL.out)
  have HE:Hid (hasE m H c = !hasL H c):=qh (by unfold hasE;rw [hle];rfl)
  rw [HE.out]
  clear hc HE
  generalize hasL H c=b at *
  go_enter Tryz.func142,Tryz.ntmps142
  go_wp2_with fail
  refine K.out.mono ?_
  rintro e w1 ⟨rfl,h⟩
  have H1:=qh (below_call HB.out h);clear h
  cases b <;>
  ·go_wp2_with fail
   go_ret
   exact ⟨rfl,H1.out⟩
 ·have hle:decide (c≤m)=false:=by simpa using hc
  rw [show hasE m H c=false from by unfold hasE;rw [hle];rfl]
  clear hc
  go_enter Tryz.func142,Tryz.ntmps142
  go_wp2_with fail
  go_ret
  exact ⟨rfl,HB.out⟩
set_option maxRecDepth 100000 in
set_option maxHeartbeats 2000000 in
theorem refSameE_any (r m r' m':Int) (H H':List Iv) (s s':Value) (w:World) (hl:IvsAt w s H) (hl':IvsAt w s' H') :
 Calls Tryz.prog 134 #[.agg #[.int .u64 r,.int .u64 m,s],.agg #[.int .u64 r',.int .u64 m',s']] w (IsEnd (decide (r=r'∧m=m'∧H=H')) w):=by
 obtain ⟨p,cap,rfl,_⟩:=hl.shape
 obtain ⟨p',cap',rfl,_⟩:=hl'.shape
 have hb:=below_alloc (below_new w (.cells #[.int .u64 r,.int .u64 m,.slice p H.length cap] 82)) (.cells #[.int .u64 r',.int .u64 m',.slice p' H'.length cap'] 82)
 have K:=qh (refSame_any H H' _ _ _ (hl.call hb) (hl'.call hb))
 have HB:=qh hb;clear hb hl hl'
 by_cases h1:r=r'
 ·by_cases h2:m=m'
  ·subst h1 h2
   rw [show decide (r=r∧m=m∧H=H')=decide (H=H') from by simp]
   generalize decide (H=H')=b at *
   go_enter Tryz.func134,Tryz.ntmps134
   go_wp2_with fail
   refine K.out.mono ?_
   rintro e w1 ⟨rfl,h⟩
   have H1:=qh (below_call HB.out h);clear h
   go_wp2_with fail
   go_ret
   exact ⟨rfl,H1.out⟩
  ·rw [show decide (r=r'∧m=m'∧H=H')=false from by simp [h2]]
   have e2:(m == m')=false:=by simpa using h2
   subst h1
   clear K h2
   go_enter Tryz.func134,Tryz.ntmps134
   go_wp2_with fail
   go_ret
   exact ⟨rfl,HB.out⟩
 ·rw [show decide (r=r'∧m=m'∧H=H')=false from by simp [h1]]
  have e1:(r == r')=false:=by simpa using h1
  clear K h1
  go_enter Tryz.func134,Tryz.ntmps134
  go_wp2_with fail
  go_ret
  exact ⟨rfl,HB.out⟩
def beyond (m:Int) (H:List Iv):Option Nat:=(List.range H.length).find? fun i=>match H[i]? with | some y=>decide (m<y.2) | none=>false
def chkN (m:Int) (H:List Iv):Option (Int × Option Int):=match chkV H with
 | some e=>some e
 | none=>(beyond m H).map fun i=>(4,some (i:Int))
theorem beyond_none {m:Int} {H:List Iv} (h:∀ (i:Nat) (y:Iv),H[i]? = some y→y.2≤m):beyond m H=none:=by
 unfold beyond
 rw [List.find?_eq_none]
 intro i _
 cases hy:H[i]? with
 | none=>simp
 | some y=>have:=h i y hy;simp;omega
theorem beyond_some {m:Int} {H:List Iv} {k:Nat} {y:Iv} (hy:H[k]? = some y) (hb:m<y.2) (h:∀ (i:Nat) (z:Iv),i<k→H[i]? = some z→z.2≤m):beyond m H=some k:=by
 have hk:k<H.length:=(List.getElem?_eq_some_iff.1 hy).1
 unfold beyond
 obtain ⟨d,hd⟩:∃ d,H.length=k+(d+1):=⟨H.length - k - 1,by omega⟩
 rw [hd,List.range_add,List.find?_append]
 have h1:(List.range k).find? (fun i=>match H[i]? with | some y=>decide (m<y.2) | none=>false)=none:=by
  rw [List.find?_eq_none]
  intro i hi
  have hi:i<k:=by simpa using hi
  cases hz:H[i]? with
  | none=>simp
  | some z=>have:=h i z hi hz;simp;omega
 rw [h1,List.range_succ_eq_map,List.map_cons,List.find?_cons]
 simp only [Nat.add_zero,hy]
 simp [hb]
theorem chkN_good {m:Int} {H:List Iv} (h:GoodE m H):chkN m H=none:=by
 unfold chkN
 rw [show chkV H=none from by unfold chkV;rw [(canon_iff H).2 h.good.can];rfl]
 simp only
 rw [beyond_none fun i y hy=>h.hole y (List.mem_of_getElem? hy)]
 rfl
theorem chkN_iff {m:Int} {H:List Iv} (h64:All64 H) (hm:0≤m∧m≤UM):chkN m H=none↔GoodE m H:=by
 refine ⟨fun h => ?_,chkN_good⟩
 unfold chkN at h
 cases hc:chkV H with
 | some e=>rw [hc] at h;cases h
 | none =>
   rw [hc] at h
   have hcan:canon H:=by
    refine (canon_iff H).1 ?_
    unfold chkV at hc
    cases hk:chkL H with
    | none=>rfl
    | some x=>rw [hk] at hc;cases hc
   have hb:beyond m H=none:=by cases hb:beyond m H with | none=>rfl | some k=>rw [hb] at h;cases h
   refine ⟨good_of hcan h64,hm.1,hm.2,fun y hy => ?_⟩
   obtain ⟨i,hi⟩:=List.mem_iff_getElem?.1 hy
   unfold beyond at hb
   rw [List.find?_eq_none] at hb
   have:=hb i (by simp;exact (List.getElem?_eq_some_iff.1 hi).1)
   rw [hi] at this
   simpa using this
set_option maxRecDepth 100000 in
set_option maxHeartbeats 2000000 in
theorem refCheckE_any (r m:Int) (H:List Iv) (s:Value) (w:World) (hl:IvsAt w s H) (h64:All64 H) :
 Calls Tryz.prog 176 #[.agg #[.int .u64 r,.int .u64 m,s]] w (IsPair (codeE (chkN m H)) ((atE (chkN m H)).getD (-1)) w):=by
 obtain ⟨p,cap,rfl,hlen⟩:=hl.shape
 have hb:=below_new w (.cells #[.int .u64 r,.int .u64 m,.slice p H.length cap] 82)
 have k:=refCheck_any H _ _ (hl.call hb) h64
 have HL:=qh (hl.call hb);clear hl
 have HB:=qh hb;clear hb
 cases hc:chkV H with
 | some e =>
   rw [hc] at k
   rw [show chkN m H=some e from by unfold chkN;rw [hc]]
   have hne:(codeE (some e) == 0)=false:=by
    unfold chkV at hc
    cases hk:chkL H with
    | none=>rw [hk] at hc;cases hc
    | some x =>
      rw [hk] at hc
      obtain rfl:=Option.some.inj hc
      have:x.1≠0:=by
       unfold chkL at hk
       obtain ⟨i,_,hi⟩:=List.exists_of_findSome?_eq_some hk
       split at hi
       ·cases hi
       ·rename_i hn
        obtain rfl:=Option.some.inj hi
        exact hn
      simpa [codeE] using this
   have K:=qh k;clear k hc
   generalize codeE (some e)=c at *
   generalize (atE (some e)).getD (-1)=a at *
   go_enter Tryz.func176,Tryz.ntmps176
   go_wp2_with fail
   refine K.out.mono ?_
   rintro e w1 ⟨rfl,h⟩
   have H1:=qh (below_call HB.out h);clear h
   go_wp2_with fail
   go_ret2
   exact ⟨rfl,H1.out⟩
 | none =>
   rw [hc] at k
   rw [show chkN m H=(beyond m H).map (fun i=>(4,some (i:Int))) from by unfold chkN;rw [hc]]
   rw [show codeE none=0 from rfl,show (atE none).getD (-1) = -1 from rfl] at k
   have K:=qh k;clear k hc
   go_enter Tryz.func176,Tryz.ntmps176
   go_wp2_with fail
   refine K.out.mono ?_
   rintro e w1 ⟨rfl,h⟩
   have b0:=keep_cell (p:=⟨w.heap.size,1,none⟩) (v := .int .u64 m) (by simp) h
   have b1:=keep_cell (p:=⟨w.heap.size,2,none⟩) (v := .slice p H.length cap) (by simp) h
   have HL1:=qh (HL.out.call h)
   have H1:=qh (below_call HB.out h);clear h
   go_wp2_with fail
   go_loopw [6] (fun i wr=>∃ k:Nat,i = .int .i64 k∧k≤H.length∧(∀ j z,j<k→H[j]? = some z→z.2≤m)∧Below w1.heap.size w1 wr) (fun i _=>H.length - (intOf i).toNat)
   case atStart=>exact ⟨0,rfl,Nat.zero_le _,fun j z hj=>absurd hj (Nat.not_lt_zero j),Below.refl _ _⟩
   case round =>
    obtain ⟨k,rfl,hk,hbef,hbr⟩:=hrel
    have HBF:=qh hbef;clear hbef
    have d0:=keep_cell b0 hbr
    have d1:=keep_cell b1 hbr
    have HL2:=qh (HL1.out.call hbr)
    have H2:=qh (below_call H1.out hbr)
    have HBR:=qh hbr;clear hbr b0 b1
    by_cases hlt:k<H.length
    ·have hy:H[k]? = some H[k]:=by simp [hlt]
     obtain ⟨b,o,cp,e,_,c1⟩:=HL2.out.elem hy
     cases e
     have HY:=qh hy;clear hy
     generalize H[k]=y at *
     obtain ⟨y1,y2⟩:=y
     dsimp only at c1
     have i1:(0:Int)≤(k:Int):=by omega
     have i2:(k:Int)<(H.length:Int):=by omega
     by_cases hgt:m<y2
     ·have e1:decide (m<y2)=true:=by simpa using hgt
      have HZ:=qh (beyond_some HY.out hgt HBF.out)
      clear hgt
      go_wp2_with fail
      go_quiet (fail)
      go_wp2_with fail
      go_ret2
      exact ⟨by rw [HZ.out];rfl,H2.out.trans ⟨rfl,rfl,rfl,Nat.le_refl _,fun _ _=>rfl⟩⟩
     ·have e1:decide (m<y2)=false:=by simpa using hgt
      have HG:=qh hgt;clear hgt
      go_wp2_with fail
      go_quiet (fail)
      go_wp2_with fail
      go_roundw
      case rel=>exact ⟨k+1,by go_num,by omega,fun j z hj hz=>by
       rcases Nat.lt_or_eq_of_le (Nat.le_of_lt_succ hj) with h | h
       ·exact HBF.out j z h hz
       ·subst h
        have:=HY.out.symm.trans hz
        obtain rfl:=Option.some.inj this
        have:=HG.out
        dsimp only
        omega,HBR.out.trans ⟨rfl,rfl,rfl,Nat.le_refl _,fun _ _=>rfl⟩⟩
      case measure=>simp [intOf];omega
    ·obtain rfl:k=H.length:=by omega
     have HZ:=qh (beyond_none fun i y hy=>HBF.out i y (List.getElem?_eq_some_iff.1 hy).1 hy)
     go_wp2_with fail
     go_ret2
     exact ⟨by rw [HZ.out];rfl,H2.out⟩
end
section
open Go.RowKit
theorem code_some {m:Int} {H:List Iv} {e:Int × Option Int} (h:chkN m H=some e):e.1≠0:=by
 unfold chkN at h
 cases hc:chkV H with
 | some x =>
   rw [hc] at h
   obtain rfl:=Option.some.inj h
   unfold chkV at hc
   cases hk:chkL H with
   | none=>rw [hk] at hc;cases hc
   | some x =>
     rw [hk] at hc
     obtain rfl:=Option.some.inj hc
     unfold chkL at hk
     obtain ⟨i,_,hi⟩:=List.exists_of_findSome?_eq_some hk
     split at hi
     ·cases hi
     ·rename_i hn
      obtain rfl:=Option.some.inj hi
      exact hn
 | none =>
   rw [hc] at h
   cases hb:beyond m H with
   | none=>rw [hb] at h;cases h
   | some i=>rw [hb] at h;obtain rfl:=Option.some.inj h;show (4:Int)≠0;decide
def okN (m:Int) (H:List Iv):Bool:=(chkN m H).isNone
theorem okN_good {m:Int} {H:List Iv} (h:GoodE m H):okN m H=true:=by unfold okN;rw [chkN_good h];rfl
theorem okN_iff {m:Int} {H:List Iv} (h64:All64 H) (hm:0≤m∧m≤UM):okN m H=true↔GoodE m H:=by
 rw [← chkN_iff h64 hm];unfold okN;cases chkN m H <;> simp
theorem okN_code (m:Int) (H:List Iv):(codeE (chkN m H) == 0)=okN m H:=by
 unfold okN
 cases h:chkN m H with
 | none=>rfl
 | some e=>have:=code_some h;simp [codeE,this]
def SoftE (w:World) (B:Nat) (v:Value) (n:Nat):Prop:=
 ∃ p cap,v = .slice p n cap∧n≤maxLen∧(0<n→∃ g o,p=some ⟨g,o,none⟩∧B≤g∧∀ i,i<n →
  ((∃ z:Int,w.cell? ⟨g,o+i*2,none⟩=some (.int .u64 z))∧w.frozen? ⟨g,o+i*2,none⟩=false)∧(∃ z:Int,w.cell? ⟨g,o+i*2+1,none⟩=some (.int .u64 z))∧w.frozen? ⟨g,o+i*2+1,none⟩=false)
theorem softE_own {w:World} {B:Nat} {v:Value} {L:List Iv} (h:OwnL w B v L):SoftE w B v L.length:=by
 have hrow:w.ownsRow B 84 2 v L.length (ivC L):=h
 rcases hrow.2 with ⟨rfl,h0⟩ | ⟨g,cap,cur,rfl,hbg,hg,hnc,hcm,_⟩
 ·rw [h0];exact ⟨none,0,rfl,Nat.zero_le _,fun h=>absurd h (Nat.lt_irrefl 0)⟩
 ·refine ⟨_,cap,rfl,Nat.le_trans hnc hcm,fun _=>⟨g,0,rfl,hbg,fun i hi => ?_⟩⟩
  have hx:L[i]? = some L[i]:=by simp [hi]
  rw [Nat.zero_add]
  exact ⟨⟨⟨L[i].1,by rw [hrow.cellAt (i*2) (by omega)];exact (ivC_at L i _ hx).1⟩,hrow.frozenAt _⟩,⟨L[i].2,by rw [hrow.cellAt (i*2+1) (by omega)];exact (ivC_at L i _ hx).2⟩,hrow.frozenAt _⟩
def repE (r:Int) (L:List Iv):Int:=if L = [] then 0 else r
def someE (L:List Iv):Bool := !L.isEmpty
theorem top_at {L:List Iv} {k:Nat} (h:L.length=k+1):∃ z,L[k]? = some z∧topL L=z.2:=by
 have hk:k<L.length:=by omega
 refine ⟨L[k],by simp [hk],?_⟩
 unfold topL
 rw [List.getLast?_eq_getElem?,h,Nat.add_sub_cancel]
 simp [hk]
theorem ivs_nil (w:World):IvsAt w (.slice none 0 0) []:=⟨none,0,rfl,by simp,fun h=>absurd rfl h⟩
theorem soft_nil (w:World) (B:Nat):SoftE w B (.slice none 0 0) 0:=⟨none,0,rfl,Nat.zero_le _,fun h=>absurd h (Nat.lt_irrefl 0)⟩
theorem holes_len {L:List Iv}:(holesL L).length≤2*(L.length+1)+2:=by
 unfold holesL
 split
 ·simp
 ·have h1:=subL_len [(0,topL L)] L
  simp only [List.length_cons,List.length_nil] at h1
  omega
theorem own_set {W:World} {B b o:Nat} {v:Value} {L:List Iv} (h:OwnL W B v L) (hb:b<B) (u:Value):OwnL (W.setCell ⟨b,o,none⟩ u) B v L:=by
 have hrow:W.ownsRow B 84 2 v L.length (ivC L):=h
 refine World.ownsRow.kept hrow (row:=some b) ⟨rfl,rfl,rfl,by simp,fun k _ hk=>Below.heap_setCell _ _ _ k (fun e=>hk (by rw [e]))⟩ ?_
 rcases hrow.2 with ⟨rfl,_⟩ | ⟨g,cap,cur,rfl,hbg,_⟩
 ·exact .inl rfl
 ·refine .inr fun e => ?_
  have h1:g=b:=Option.some.inj e
  omega
theorem three_stored {w:World} {b:Nat} {x y z:Value} (h0:w.cell? ⟨b,0,none⟩=some x) (h1:w.cell? ⟨b,1,none⟩=some y) (h2:w.cell? ⟨b,2,none⟩=some z) (u v t:Value) :
 (((w.setCell ⟨b,0,none⟩ u).setCell ⟨b,1,none⟩ v).setCell ⟨b,2,none⟩ t).cell? ⟨b,0,none⟩=some u∧(((w.setCell ⟨b,0,none⟩ u).setCell ⟨b,1,none⟩ v).setCell ⟨b,2,none⟩ t).cell? ⟨b,1,none⟩=some v ∧
   (((w.setCell ⟨b,0,none⟩ u).setCell ⟨b,1,none⟩ v).setCell ⟨b,2,none⟩ t).cell? ⟨b,2,none⟩=some t:=by
 refine ⟨?_,?_,?_⟩
 ·rw [World.cell?_setCell_other _ _ _ _ (by simp),World.cell?_setCell_other _ _ _ _ (by simp)];exact World.cell?_setCell_same' _ _ _ (by rw [h0];rfl)
 ·rw [World.cell?_setCell_other _ _ _ _ (by simp)];exact World.cell?_setCell_same' _ _ _ (by rw [World.cell?_setCell_other _ _ _ _ (by simp),h1];rfl)
 ·exact World.cell?_setCell_same' _ _ _ (by rw [World.cell?_setCell_other _ _ _ _ (by simp),World.cell?_setCell_other _ _ _ _ (by simp),h2];rfl)
theorem known_len {m:Int} {H:List Iv}:(knownL m H).length≤1+2*(1+H.length):=by
 have h1:=subL_len [(0,m)] H
 simp only [List.length_cons,List.length_nil] at h1
 unfold knownL
 omega
theorem SoftE.base {w:World} {B B':Nat} {v:Value} {n:Nat} (h:SoftE w B v n) (hB:B'≤B):SoftE w B' v n:=by
 obtain ⟨p,cap,h1,h2,h3⟩:=h
 refine ⟨p,cap,h1,h2,fun hn => ?_⟩
 obtain ⟨g,o,e,h4,h5⟩:=h3 hn
 exact ⟨g,o,e,Nat.le_trans hB h4,h5⟩
theorem r1_call {W w1 w2:World} {p q t:Addr} {a b c:Value} (h:Below W.heap.size W w1∧w1.cell? p=some a∧w1.cell? q=some b∧w1.cell? t=some c) (hb:Hid (Below w1.heap.size w1 w2)) :
 Below W.heap.size W w2∧w2.cell? p=some a∧w2.cell? q=some b∧w2.cell? t=some c:=⟨below_call h.1 hb.out,keep_cell h.2.1 hb.out,keep_cell h.2.2.1 hb.out,keep_cell h.2.2.2 hb.out⟩
theorem r1_drew {W w1:World} {p q t:Addr} {a b c:Value} (h:Below W.heap.size W w1∧w1.cell? p=some a∧w1.cell? q=some b∧w1.cell? t=some c) :
 Below W.heap.size W w1.drew∧w1.drew.cell? p=some a∧w1.drew.cell? q=some b∧w1.drew.cell? t=some c:=r1_call h (qh (Below.refl _ _).drew)
theorem r1_set {W w1:World} {p q t:Addr} {a b c:Value} {g:Nat} (h:Below W.heap.size W w1∧w1.cell? p=some a∧w1.cell? q=some b∧w1.cell? t=some c) (hg:W.heap.size≤g) (hp:p.block≠g) (hq:q.block≠g) (ht:t.block≠g) (x y z:Value) :
 Below W.heap.size W (((w1.setCell ⟨g,0,none⟩ x).setCell ⟨g,1,none⟩ y).setCell ⟨g,2,none⟩ z)∧(((w1.setCell ⟨g,0,none⟩ x).setCell ⟨g,1,none⟩ y).setCell ⟨g,2,none⟩ z).cell? p=some a∧(((w1.setCell ⟨g,0,none⟩ x).setCell ⟨g,1,none⟩ y).setCell ⟨g,2,none⟩ z).cell? q=some b ∧
  (((w1.setCell ⟨g,0,none⟩ x).setCell ⟨g,1,none⟩ y).setCell ⟨g,2,none⟩ z).cell? t=some c:=by
 have far:∀ k:Addr,k.block≠g→(((w1.setCell ⟨g,0,none⟩ x).setCell ⟨g,1,none⟩ y).setCell ⟨g,2,none⟩ z).cell? k=w1.cell? k:=fun k hk=>by
  rw [World.cell?_setCell_other _ _ _ _ (fun e=>hk (by rw [← e])),World.cell?_setCell_other _ _ _ _ (fun e=>hk (by rw [← e])),World.cell?_setCell_other _ _ _ _ (fun e=>hk (by rw [← e]))]
 exact ⟨((h.1.setCell (p:=⟨g,0,none⟩) hg _).setCell (p:=⟨g,1,none⟩) hg _).setCell (p:=⟨g,2,none⟩) hg _,by rw [far _ hp];exact h.2.1,by rw [far _ hq];exact h.2.2.1,by rw [far _ ht];exact h.2.2.2⟩
end
section
open Go.RowKit
def SaneE (v:Value):Prop:=saneV v∧∀ a n c,v = .slice (some a) n c→n≤c
theorem sane_nil:SaneE (.slice none 0 0):=⟨fun n c e=>(by cases e;exact ⟨rfl,rfl⟩),fun a n c e=>(by cases e)⟩
theorem sane_lit (a:Addr) (n c:Nat) (h:n≤c):SaneE (.slice (some a) n c):=⟨fun n c e=>(by cases e),fun a n c e=>(by cases e;exact h)⟩
structure AnyAt (w:World) (s:Value) (m:Int) (H:List Iv):Prop where
 at':IvsAt w s H
 all:All64 H
 sane:SaneE s
 low:0≤m
 top:m≤18446744073709551615
 len:H.length≤5000
theorem AnyAt.call {w w':World} {s:Value} {m:Int} {H:List Iv} (h:AnyAt w s m H) (hb:Below w.heap.size w w'):AnyAt w' s m H:=⟨h.at'.call hb,h.all,h.sane,h.low,h.top,h.len⟩
structure LstAt (w:World) (s:Value) (L:List Iv):Prop where
 at':IvsAt w s L
 good:GoodL L
 sane:SaneE s
 len:L.length≤15000
theorem LstAt.call {w w':World} {s:Value} {L:List Iv} (h:LstAt w s L) (hb:Below w.heap.size w w'):LstAt w' s L:=⟨h.at'.call hb,h.good,h.sane,h.len⟩
theorem LstAt.op {w:World} {s:Value} {L:List Iv} (h:LstAt w s L):OpAt w s L:=⟨h.at',h.good,by have:=h.len;omega⟩
structure EntAt (w:World) (s:Value) (m:Int) (H:List Iv):Prop where
 any:AnyAt w s m H
 good:GoodE m H
theorem EntAt.call {w w':World} {s:Value} {m:Int} {H:List Iv} (h:EntAt w s m H) (hb:Below w.heap.size w w'):EntAt w' s m H:=⟨h.any.call hb,h.good⟩
theorem EntAt.op {w:World} {s:Value} {m:Int} {H:List Iv} (h:EntAt w s m H):OpAt w s H:=⟨h.any.at',h.good.good,by have:=h.any.len;omega⟩
def IsKn (L:List Iv) (w:World) (e:Ending) (w':World):Prop:=∃ v,e = .returned v∧IvsAt w' v L∧SaneE v∧SoftE w' w.heap.size v L.length∧Below w.heap.size w w'
def IsEO (r:Int) (L:List Iv) (w:World) (e:Ending) (w':World):Prop:=
 ∃ v,e = .returned (.tuple #[.agg #[.int .u64 (repE r L),.int .u64 (topL L),v],.bool (someE L)])∧IvsAt w' v (holesL L)∧SaneE v∧SoftE w' w.heap.size v (holesL L).length∧Below w.heap.size w w'
end
section
open Go.RowKit
theorem iv_one (w:World) (a b:Int) (t:TypeId) (k:Nat) (hk:k=w.heap.size):IvsAt (w.alloc (.cells #[.int .u64 a,.int .u64 b] t)) (.slice (some ⟨k,0,none⟩) 1 1) [(a,b)]:=by
 subst hk
 refine ⟨_,_,rfl,by simp,fun _=>⟨w.heap.size,0,rfl,fun i p hp => ?_⟩⟩
 match i,hp with
 | 0,hp=>simp at hp;subst hp;simp
 | i+1,hp=>simp at hp
theorem one_all {a b:Int} (h:0≤a∧a≤18446744073709551615) (h':0≤b∧b≤18446744073709551615):All64 [(a,b)]:=fun x hx=>by rw [List.mem_singleton.1 hx];exact ⟨h,h'⟩
end
section
open Go.RowKit
def E3 (w:World) (b:Nat) (r m:Int) (s:Value):Prop:=w.cell? ⟨b,0,none⟩=some (.int .u64 r)∧w.cell? ⟨b,1,none⟩=some (.int .u64 m)∧w.cell? ⟨b,2,none⟩=some s
theorem E3.call {w w':World} {b:Nat} {r m:Int} {s:Value} (h:E3 w b r m s) (hb:Below w.heap.size w w'):E3 w' b r m s:=⟨keep_cell h.1 hb,keep_cell h.2.1 hb,keep_cell h.2.2 hb⟩
theorem E3.new (w:World) (r m:Int) (s:Value) (t:TypeId) (k:Nat) (hk:k=w.heap.size):E3 (w.alloc (.cells #[.int .u64 r,.int .u64 m,s] t)) k r m s:=by
 subst hk
 refine ⟨?_,?_,?_⟩ <;> simp
theorem r6_call {W w1 w2:World} {p0 p1 p2 p3 p4 p5:Addr} {a0 a1 a2 a3 a4 a5:Value} (h:Below W.heap.size W w1∧w1.cell? p0=some a0∧w1.cell? p1=some a1∧w1.cell? p2=some a2∧w1.cell? p3=some a3∧w1.cell? p4=some a4∧w1.cell? p5=some a5) (hb:Hid (Below w1.heap.size w1 w2)):Below W.heap.size W w2∧w2.cell? p0=some a0∧w2.cell? p1=some a1∧w2.cell? p2=some a2∧w2.cell? p3=some a3∧w2.cell? p4=some a4∧w2.cell? p5=some a5:=
 ⟨below_call h.1 hb.out,keep_cell h.2.1 hb.out,keep_cell h.2.2.1 hb.out,keep_cell h.2.2.2.1 hb.out,keep_cell h.2.2.2.2.1 hb.out,keep_cell h.2.2.2.2.2.1 hb.out,keep_cell h.2.2.2.2.2.2 hb.out⟩
theorem r6_drew {W w1:World} {p0 p1 p2 p3 p4 p5:Addr} {a0 a1 a2 a3 a4 a5:Value} (h:Below W.heap.size W w1∧w1.cell? p0=some a0∧w1.cell? p1=some a1∧w1.cell? p2=some a2∧w1.cell? p3=some a3∧w1.cell? p4=some a4∧w1.cell? p5=some a5):Below W.heap.size W w1.drew∧w1.drew.cell? p0=some a0∧w1.drew.cell? p1=some a1∧w1.drew.cell? p2=some a2∧w1.drew.cell? p3=some a3∧w1.drew.cell? p4=some a4∧w1.drew.cell? p5=some a5:=r6_call h (qh (Below.refl _ _).drew)
theorem r6_below {W w1:World} {p0 p1 p2 p3 p4 p5:Addr} {a0 a1 a2 a3 a4 a5:Value} (h:Below W.heap.size W w1∧w1.cell? p0=some a0∧w1.cell? p1=some a1∧w1.cell? p2=some a2∧w1.cell? p3=some a3∧w1.cell? p4=some a4∧w1.cell? p5=some a5):Below W.heap.size W w1:=h.1
end
section
open Go.RowKit
theorem SoftE.call {w w':World} {B:Nat} {v:Value} {n:Nat} (h:SoftE w B v n) (hb:Below w.heap.size w w'):SoftE w' B v n:=by
 obtain ⟨p,cap,h1,h2,h3⟩:=h
 refine ⟨p,cap,h1,h2,fun hn => ?_⟩
 obtain ⟨g,o,e,hB,h7⟩:=h3 hn
 refine ⟨g,o,e,hB,fun i hi => ?_⟩
 obtain ⟨⟨⟨z,hz⟩,hf⟩,⟨y,hy⟩,hg⟩:=h7 i hi
 exact ⟨⟨⟨z,keep_cell hz hb⟩,keep_free hf (World.block_lt_of_cell? w _ hz) hb⟩,⟨y,keep_cell hy hb⟩,keep_free hg (World.block_lt_of_cell? w _ hy) hb⟩
end
end Go.Proofs.YtgcakgegboicjaaGreatDoor
