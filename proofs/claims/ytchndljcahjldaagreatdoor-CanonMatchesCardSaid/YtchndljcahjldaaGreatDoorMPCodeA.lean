/- Package vector: an entry behind a key, the search for a replica, Find, Has. -/
import Derived.Test.YtchndljcahjldaaGreatDoorMPMath
import Derived.Test.YtchndljcahjldaaGreatDoorMNKeeps
import Derived.Sort.Grow
namespace Go.Proofs.YtchndljcahjldaaGreatDoor
section
open Go.RowKit Go.Shelf Go.Sort
set_option maxRecDepth 100000 in
theorem yh9 (k r m:Int) (p:Option Addr) (n c:Nat) (w:World) :
 Calls Tryz.prog 148 #[.int .u64 k,.agg #[.int .u64 r,.int .u64 m,.slice p n c]] w (fun e w'=>e = .returned (.bool (decide (r<k)))∧w'=w.alloc (.cells #[.int .u64 r,.int .u64 m,.slice p n c] 63)):=by
 go_enter Tryz.func148,Tryz.ntmps148
 go_wp2_with fail
 go_ret
 exact ⟨by simp,by simp⟩
end
section
open Go.RowKit
variable {m z:Int} {H:List Iv} {V:v6} {k B n:Nat} {W w2 w w':World} {v2 v:Value} {ns:List Nat} {a c:Addr} {p:Option Addr}
theorem xr8 {e:Int × Option Int} (h:z18 m H=some e):c5 (some e)=c5 (z18 m H):=by rw [h]
theorem x84 (hk:k<V.length) (h:∀ j,j<k→zd7 V j=0) {c:Int} (hb:zd7 V k=c) (hc:c≠0):zh9 V=some (c,some (k:Int)):=by grind [zh9,zr2]
theorem xk2 (h:∀ j,j<V.length→zd7 V j=0):zh9 V=none:=by unfold zh9;rw [zr1 h];rfl
theorem x85 (h:∀ j,j<k→zd7 V j=0) (hk:zd7 V k=0):∀ j,j<k+1→zd7 V j=0:=fun j hj=>by grind
theorem xr9 {w1:World} {a0 b0 b1 b2:Addr} {u0 v0 v1:Value} (h:Below W.heap.size W w1∧w1.cell? a0=some u0∧w1.cell? b0=some v0∧w1.cell? b1=some v1∧w1.cell? b2=some v2) (hb:Below w1.heap.size w1 w2) :
 Below W.heap.size W w2∧w2.cell? a0=some u0∧w2.cell? b0=some v0∧w2.cell? b1=some v1∧w2.cell? b2=some v2:=
 ⟨z7 h.1 hb,z6 h.2.1 hb,z6 h.2.2.1 hb,z6 h.2.2.2.1 hb,z6 h.2.2.2.2 hb⟩
set_option maxRecDepth 100000 in
set_option maxHeartbeats 4000000 in
theorem yi0 (V:v6) (v:Value) (w:World) (hg:z82 w) (hv:zd5 w v V):Calls Tryz.prog 93 #[v] w (z72 (zh9 V) w):=by
 obtain ⟨p,cap,rfl⟩:=hv.shape
 have hlen:=hv.len
 have HV:=qh hv;clear hv
 have HG:=qh hg;clear hg
 have KC:=qh yg7
 have KF:=qh zz2
 have KN:=qh y64
 have KB:=qh yh9
 go_enter Tryz.func93,Tryz.ntmps93
 go_wp2_with fail
 go_loopw [8] (fun i wr=>∃ k:Nat,i = .int .i64 k∧k≤V.length∧(∀ j,j<k→zd7 V j=0)∧Below w.heap.size w wr) (fun i _=>V.length - (intOf i).toNat)
 case atStart=>exact ⟨0,rfl,Nat.zero_le _,fun j hj=>absurd hj (Nat.not_lt_zero j),Below.refl _ _⟩
 case round =>
  obtain ⟨k,rfl,hk,hbef,hb⟩:=hrel
  have HBF:=qh hbef;clear hbef
  have HB:=qh hb;clear hb
  by_cases hlt:k<V.length
  ·obtain ⟨⟨x,m,H⟩,hx⟩:∃ x,V[k]? = some x:=⟨V[k],by simp [hlt]⟩
   obtain ⟨b,o,cap',q,n,c,e,c0,c1,c2,ha⟩:=(HV.out.call HB.out).elem hx
   cases e
   have hbw:=z8 wr (.cells #[.int .u64 x,.int .u64 m,.slice q n c] 63)
   have t0:(wr.alloc (.cells #[.int .u64 x,.int .u64 m,.slice q n c] 63)).cell? ⟨wr.heap.size,0,none⟩=some (.int .u64 x):=by simp
   have HT:=qh t0;clear t0
   have HA:=qh (And.intro (HG.out.here (z7 HB.out hbw)) (ha.call hbw));clear ha
   have HBW:=qh (z7 HB.out hbw);clear hbw
   have HX:=qh hx;clear hx
   have i1:(0:Int)≤(k:Int):=by omega
   have i2:(k:Int)<(V.length:Int):=by omega
   have HLT:=qh hlt
   cases hc:z18 m H with
   | some x1 =>
     have hcd:c5 (z18 m H)≠0:=by rw [hc];exact ys0 hc
     have HZ:=qh (x84 hlt HBF.out (y52 HX.out hcd) hcd)
     obtain ⟨t,u,hu⟩:=z37 (x:=some x1) (by simp)
     have HCD:=qh (xr8 hc)
     have h00:(c5 (z18 m H) == 0)=false:=by simpa using hcd
     have H00:=qh h00;clear h00
     have kc:=KC.out x m H _ _ HA.out.1 HA.out.2
     have kf:=fun W h=>KF.out (some x1) W h
     rw [hc] at kc
     unfold z72 at kc
     rw [hu] at kc kf
     rw [xr8 hc] at kf
     have K:=qh kc;clear kc
     have KF1:=qh kf;clear kf hcd hu HCD
     generalize c5 (z18 m H)=cd at *
     go_wp2_with fail
     refine K.out.mono ?_
     rintro e w1 ⟨rfl,h⟩
     have H1:=qh (z7 HBW.out h);clear h
     go_wp2_with fail
     refine (KF1.out _ (HG.out.here H1.out)).mono ?_
     rintro e w2 ⟨rfl,h⟩
     have H2:=qh (z7 H1.out h);clear h
     go_wp2_with fail
     refine (KN.out cd (k:Int) _ H00.out).mono ?_
     rintro e w3 ⟨rfl,rfl⟩
     go_wp2_with fail
     go_ret
     exact ⟨by rw [HZ.out];rfl,H2.out⟩
   | none =>
     have hcd:c5 (z18 m H)=0:=by rw [hc];rfl
     have kc:=KC.out x m H _ _ HA.out.1 HA.out.2
     rw [hc] at kc
     have K:=qh kc;clear kc hc
     by_cases hk0:k=0
     ·subst hk0
      simp only [Nat.zero_mul,Nat.add_zero] at c0 c1 c2
      have HN:=qh (x85 HBF.out (zx5 HX.out hcd));clear hcd
      go_wp2_with fail
      refine K.out.mono ?_
      rintro e w1 ⟨rfl,h⟩
      have H1:=qh (z7 HBW.out h);clear h
      rw [show zj1 none = .nilIface from rfl]
      go_wp2_with fail
      go_quiet (fail)
      go_wp2_with fail
      go_roundw
      case rel=>exact ⟨1,by go_num,by omega,HN.out,below_drewN H1.out _⟩
      case measure=>simp [intOf];omega
     ·obtain ⟨j,rfl⟩:∃ j,k=j+1:=⟨k - 1,by omega⟩
      obtain ⟨⟨y,my,Hy⟩,hy⟩:∃ y,V[j]? = some y:=⟨V[j],by simp [show j<V.length by omega]⟩
      have HN:=qh (zu0 HX.out hy hcd);clear hcd
      have HY:=qh hy;clear hy
      have j1:(0:Int)≤(j:Int):=by omega
      have j2:(j:Int)<(V.length:Int):=by omega
      have j3:IntKind.i64.wrap ((j:Int)+1 - 1)=(j:Int):=(IntWalk.i64_in _ (by omega)).trans (by omega)
      have j6:IntKind.i64.wrap (j:Int)=(j:Int):=IntWalk.i64_in _ (by omega)
      have j4:decide ((0:Int)<(j:Int)+1)=true:=decide_eq_true (by omega)
      have j5:((j+1:Nat):Int)=(j:Int)+1:=by omega
      rw [j5] at i1 i2
      obtain ⟨d,hd⟩:∃ d,decide (y<x)=d:=⟨_,rfl⟩
      have KB1:=qh (show ∀ (p:Option Addr) (n c:Nat) (w:World),Calls Tryz.prog 148 #[.int .u64 x,.agg #[.int .u64 y,.int .u64 my,.slice p n c]] w (fun e w'=>e = .returned (.bool d)∧w'=w.alloc (.cells #[.int .u64 y,.int .u64 my,.slice p n c] 63)) from fun p n c w=>hd ▸ yh9 x y my p n c w)
      have HD:=qh hd;clear hd hlt hk0
      rw [j5]
      go_wp2_with fail
      refine K.out.mono ?_
      rintro e w1 ⟨rfl,h⟩
      have T0:=z6 HT.out h
      have H1:=qh (z7 HBW.out h);clear h
      rw [show zj1 none = .nilIface from rfl]
      obtain ⟨b',o',cp',q',n',ce',ee,d0,d1,d2,_⟩:=(HV.out.call H1.out).elem HY.out
      cases ee
      have HS:=qh (show Below w1.heap.size w1 w1∧_∧_∧_∧_ from ⟨Below.refl _ _,T0,d0,d1,d2⟩)
      clear T0 d0 d1 d2 c0 c1 c2
      go_wp2_with fail
      go_region_held3 (fun w'=>Below w1.heap.size w1 w'∧w'.cell? ⟨wr.heap.size,0,none⟩=some (.int .u64 x)∧w'.cell? ⟨b,o+j*3,none⟩=some (.int .u64 y)∧w'.cell? ⟨b,o+j*3+1,none⟩=some (.int .u64 my)∧w'.cell? ⟨b,o+j*3+2,none⟩=some (.slice q' n' ce'))
       (first
         | exact xr9 HS.out (Below.refl _ _).drew
         | exact xr9 (by assumption) (z8 _ _))
       ((go_at_call 148;refine (KB1.out _ _ _ _).mono ?_;rintro en w3 ⟨rfl,hw⟩;obtain rfl:=hw;have HW3:=qh (z7 H1.out (z7 (Below.refl _ _).drew (z8 w1.drew (.cells #[.int .u64 y,.int .u64 my,.slice q' n' ce'] 63))))))
      by_cases hle:x≤y
      ·have hdd:d=false:=by rw [← HD.out];exact decide_eq_false (by omega)
       subst hdd
       have HZ:=qh (x84 HLT.out HBF.out (HN.out.trans (if_pos hle)) (by decide));clear HN hle
       go_wp2_with fail
       refine (KN.out 3 _ _ (by decide)).mono ?_
       rintro e w4 ⟨rfl,rfl⟩
       go_wp2_with fail
       go_ret
       exact ⟨by rw [HZ.out];rfl,HW3.out⟩
      ·have hdd:d=true:=by rw [← HD.out];exact decide_eq_true (by omega)
       subst hdd
       have HZ:=qh (x85 HBF.out (HN.out.trans (if_neg hle)));clear HN hle
       go_wp2_with fail
       go_roundw
       case rel=>exact ⟨j+1+1,by go_num,by omega,HZ.out,HW3.out⟩
       case measure=>simp [intOf];omega
  ·obtain rfl:k=V.length:=by omega
   have HZ:=qh (xk2 HBF.out)
   go_wp2_with fail
   go_ret
   exact ⟨by rw [HZ.out];rfl,HB.out⟩
def zo9 (x:Int × Int × List Iv):Bool := !(okN x.2.1 x.2.2 && o5 x.2.1 x.2.2)
def x86 (V:v6):Int:=match V.findIdx? zo9 with | some k=>(k:Int) | none => -1
theorem w06 {x:Int × Int × List Iv} (hx:V[k]? = some x) (hr:zo9 x=true) (h:∀ j y,j<k→V[j]? = some y→zo9 y=false):x86 V=(k:Int):=by
 unfold x86
 have:V.findIdx? zo9=some k:=by grind [List.findIdx?_eq_some_iff_getElem,List.getElem?_eq_some_iff]
 rw [this]
theorem w07 (h:∀ (j:Nat) y,V[j]? = some y→zo9 y=false):x86 V = -1:=by grind [x86,zo9,List.findIdx?_eq_none_iff,List.mem_iff_getElem?]
theorem wd9 (V:v6):decide ((0:Int)≤x86 V) = !zx6 V:=by grind [x86,zo9,zx6,List.all_eq_true,List.findIdx?_eq_none_iff,List.findIdx?_eq_some_iff_getElem,List.all_eq_false,List.getElem_mem,okN,o5]
set_option maxRecDepth 100000 in
theorem we0 (x m:Int) (H:List Iv) (s:Value) (w:World) (hg:z82 w) (ha:zk0 w s m H) :
 Calls Tryz.prog 110 #[.agg #[.int .u64 x,.int .u64 m,s]] w (q8 (zo9 (x,m,H)) w):=by
 obtain ⟨p,cap,rfl,_⟩:=ha.at'.shape
 have hb:=z8 w (.cells #[.int .u64 x,.int .u64 m,.slice p H.length cap] 63)
 have K:=qh (yh0 x m H _ _ (hg.here hb) (ha.call hb));clear hg ha
 have HB:=qh hb;clear hb
 obtain ⟨d,hd⟩:∃ d,(okN m H && o5 m H)=d:=⟨_,rfl⟩
 have HD:Hid (zo9 (x,m,H) = !d):=qh (by unfold zo9;rw [hd])
 rw [hd] at K;clear hd
 go_enter Tryz.func110,Tryz.ntmps110
 go_wp2_with fail
 refine K.out.mono ?_
 rintro e w1 ⟨rfl,h⟩
 have H1:=qh (z7 HB.out h);clear h
 go_wp2_with fail
 go_ret
 exact ⟨by rw [HD.out];rfl,H1.out⟩
set_option maxRecDepth 100000 in
set_option maxHeartbeats 2000000 in
theorem xk3 (V:v6) (v:Value) (w:World) (hg:z82 w) (hv:zd5 w v V) :
 Calls Tryz.prog 156 #[v,.func (.func 110) #[] #[]] w (zi6 (x86 V) w):=by
 obtain ⟨p,cap,rfl⟩:=hv.shape
 have hlen:=hv.len
 have HV:=qh hv;clear hv
 have HG:=qh hg;clear hg
 have K:=qh we0
 go_enter Tryz.func156,Tryz.ntmps156
 go_wp2_with fail
 go_loopw [8] (fun i wr=>∃ k:Nat,i = .int .i64 k∧k≤V.length∧(∀ j y,j<k→V[j]? = some y→zo9 y=false)∧Below w.heap.size w wr) (fun i _=>V.length - (intOf i).toNat)
 case atStart=>exact ⟨0,rfl,Nat.zero_le _,fun j z hj=>absurd hj (Nat.not_lt_zero j),Below.refl _ _⟩
 case round =>
  obtain ⟨k,rfl,hk,hbef,hb⟩:=hrel
  have HBF:=qh hbef;clear hbef
  have HB:=qh hb;clear hb
  by_cases hlt:k<V.length
  ·obtain ⟨⟨x,m,H⟩,hx⟩:∃ x,V[k]? = some x:=⟨V[k],by simp [hlt]⟩
   obtain ⟨b,o,cap',q,n,c,e,c0,c1,c2,ha⟩:=(HV.out.call HB.out).elem hx
   cases e
   have HA:=qh ha;clear ha
   have HX:=qh hx;clear hx
   have i1:(0:Int)≤(k:Int):=by omega
   have i2:(k:Int)<(V.length:Int):=by omega
   cases hd:zo9 (x,m,H) with
   | true =>
     have HZ:=qh (w06 HX.out hd HBF.out)
     go_wp2_with fail
     refine (K.out x m H _ _ (HG.out.here HB.out) HA.out).mono ?_
     rintro e w1 ⟨rfl,h⟩
     have H1:=qh (z7 HB.out h);clear h
     rw [hd]
     clear hd
     go_wp2_with fail
     go_ret
     exact ⟨by rw [HZ.out];rfl,H1.out⟩
   | false =>
     have HD:=qh hd
     go_wp2_with fail
     refine (K.out x m H _ _ (HG.out.here HB.out) HA.out).mono ?_
     rintro e w1 ⟨rfl,h⟩
     have H1:=qh (z7 HB.out h);clear h
     rw [hd]
     clear hd
     go_wp2_with fail
     go_roundw
     case rel=>exact ⟨k+1,by go_num,by omega,fun j y hj hy=>by
      rcases Nat.lt_or_eq_of_le (Nat.le_of_lt_succ hj) with h | h
      ·exact HBF.out j y h hy
      ·subst h
       obtain rfl:=Option.some.inj (HX.out.symm.trans hy)
       exact HD.out,H1.out⟩
     case measure=>simp [intOf];omega
  ·obtain rfl:k=V.length:=by omega
   have HZ:=qh (w07 (V:=V) fun j y hy=>HBF.out j y (List.getElem?_eq_some_iff.1 hy).1 hy)
   go_wp2_with fail
   go_ret
   exact ⟨by rw [HZ.out];rfl,HB.out⟩
set_option maxRecDepth 100000 in
theorem yo3 (V:v6) (v:Value) (w:World) (hg:z82 w) (hv:zd5 w v V) :
 Calls Tryz.prog 112 #[v,.func (.func 110) #[] #[]] w (q8 (!zx6 V) w):=by
 obtain ⟨p,cap,rfl⟩:=hv.shape
 have K:=qh (xk3 V _ w hg hv);clear hg hv
 have HZ:=qh (wd9 V)
 generalize x86 V=j at *
 generalize zx6 V=d at *
 go_enter Tryz.func112,Tryz.ntmps112
 go_wp2_with fail
 refine K.out.mono ?_
 rintro e w1 ⟨rfl,h⟩
 have H1:=qh h;clear h
 go_wp2_with fail
 go_ret
 exact ⟨by rw [← HZ.out];rfl,H1.out⟩
set_option maxRecDepth 100000 in
set_option maxHeartbeats 2000000 in
theorem yi1 (V:v6) (v:Value) (w:World) (hg:z82 w) (hv:zd5 w v V):Calls Tryz.prog 62 #[v] w (q8 (zx6 V && z31 V) w):=by
 obtain ⟨p,cap,rfl⟩:=hv.shape
 have kc:=yi0 V _ w hg hv
 have HV:=qh hv;clear hv
 have HG:=qh hg;clear hg
 have KX:=qh (fun W h h2=>yo3 V (.slice p V.length cap) W h h2)
 cases hc:z84 V with
 | some x =>
   have hr:z31 V=false:=by unfold z31;rw [hc];rfl
   have he:zh9 V=some (x.1,some (x.2:Int)):=by unfold zh9;rw [hc];rfl
   obtain ⟨t,u,hu⟩:=z37 (x:=some (x.1,some (x.2:Int))) (by simp)
   rw [he] at kc
   unfold z72 at kc
   rw [hu] at kc
   rw [hr,Bool.and_false]
   have K:=qh kc;clear kc he hu hr hc KX
   go_enter Tryz.func62,Tryz.ntmps62
   go_wp2_with fail
   refine K.out.mono ?_
   rintro e w1 ⟨rfl,h⟩
   have H1:=qh h;clear h
   go_wp2_with fail
   go_ret
   exact ⟨rfl,H1.out⟩
 | none =>
   have hr:z31 V=true:=by unfold z31;rw [hc];rfl
   have he:zh9 V=none:=by unfold zh9;rw [hc];rfl
   rw [he] at kc
   rw [hr,Bool.and_true]
   have K:=qh kc;clear kc he hr hc
   generalize zx6 V=d at *
   go_enter Tryz.func62,Tryz.ntmps62
   go_wp2_with fail
   refine K.out.mono ?_
   rintro e w1 ⟨rfl,h⟩
   have H1:=qh h;clear h
   rw [show zj1 none = .nilIface from rfl]
   go_wp2_with fail
   refine (KX.out _ (HG.out.here H1.out) (HV.out.call H1.out)).mono ?_
   rintro e w2 ⟨rfl,h⟩
   have H2:=qh (z7 H1.out h);clear h
   cases d <;>
   ·go_wp2_with fail
    go_ret
    exact ⟨rfl,H2.out⟩
theorem z89 {B':Nat} (h:i7 w B v n) (hB:B'≤B):i7 w B' v n:=by
 obtain ⟨p,cap,h1,h2,h3⟩:=h
 refine ⟨p,cap,h1,h2,fun hn => ?_⟩
 obtain ⟨g,o,h4,h5,h6⟩:=h3 hn
 exact ⟨g,o,h4,Nat.le_trans hB h5,h6⟩
theorem x87:∀ (n:Nat) (m:Int) (H:List Iv),H.length=n→z04 m H→(r5 (x7 m H)).length≤H.length
 | n,m,H,hn,hg=>by
   rcases List.eq_nil_or_concat H with rfl | ⟨G,y,rfl⟩
   ·rw [(yx5 (m:=m) (H := []) hg rfl rfl 0).2.2.1]
    omega
   ·rw [List.concat_eq_append] at *
    by_cases hy:y.2<m
    ·rw [(yx5 hg (yr6 hg hy) rfl 0).2.2.1]
     omega
    ·by_cases h0:y.1=0
     ·rw [yr7 hg hy h0]
      simp [r5]
     ·obtain ⟨h1,h2⟩:=yr8 hg hy h0
      rw [← h2]
      have:=x87 G.length _ G rfl h1
      grind
termination_by n=>n
decreasing_by simp at hn;omega
def zp6 (w:World) (B:Nat) (v:Value) (V:v6):Prop:=
 ∃ es:List (Int × Int × Value),es.length=V.length∧w.ownsRow B 63 3 v es.length (zk5 es)∧(∀ (i:Nat) (e:Int × Int × Value) (x:Int × Int × List Iv),es[i]? = some e→V[i]? = some x→e.1=x.1∧e.2.1=x.2.1∧zu9 w B v.ownBlock e.2.2 x.2.2)∧∀ e ∈ es,z02 e.2.2
theorem zp6.nil (w:World) (B:Nat):zp6 w B (.slice none 0 0) []:=⟨[],rfl,World.ownsRow_nil w B _ 3,fun i e x h=>by simp at h,fun e h=>by simp at h⟩
theorem zp6.shape (h:zp6 w B v V):∃ p cap,v = .slice p V.length cap:=by
 obtain ⟨es,h1,h2,_⟩:=h
 obtain ⟨p,cap,e,_⟩:=y8 h2
 exact ⟨p,cap,by rw [e,h1]⟩
theorem zp6.call (h:zp6 w B v V) (hb:Below w.heap.size w w'):zp6 w' B v V:=by
 obtain ⟨es,h1,h2,h3,h4⟩:=h
 exact ⟨es,h1,y6 h2 hb,fun i e x he hx=>⟨(h3 i e x he hx).1,(h3 i e x he hx).2.1,(h3 i e x he hx).2.2.call hb⟩,h4⟩
theorem zp6.push {es:List (Int × Int × Value)} {r:Int} {s:Value} (hel:es.length=V.length)
 (hall:∀ (i:Nat) (e:Int × Int × Value) (x:Int × Int × List Iv),es[i]? = some e→V[i]? = some x→e.1=x.1∧e.2.1=x.2.1∧zu9 w B v.ownBlock e.2.2 x.2.2)
 (hrow:w2.ownsRow B 63 3 v2 (es.length+1) (zk5 es ++ [.int .u64 r,.int .u64 m,s])) (hg:w.grownBy w2 v.ownBlock) (hat:v2.ownBlock=v.ownBlock∨v2.ownBlock=some w.heap.size) (hx:zu9 w B v.ownBlock s H) (hs:∀ e ∈ es,z02 e.2.2) (hss:z02 s):zp6 w2 B v2 (V ++ [(r,m,H)]):=by
 refine ⟨es ++ [(r,m,s)],by rw [List.length_append,List.length_append,hel];rfl,?_,fun i e x he hx' => ?_,fun e he => ?_⟩
 ·rw [List.length_append,x94];exact hrow
 ·by_cases hi:i<es.length
  ·rw [List.getElem?_append_left hi] at he
   rw [List.getElem?_append_left (by omega)] at hx'
   obtain ⟨h1,h2,h3⟩:=hall i e x he hx'
   exact ⟨h1,h2,h3.grown hg hat⟩
  ·rw [List.getElem?_append_right (by omega)] at he
   rw [List.getElem?_append_right (by omega)] at hx'
   have h0:i - es.length=0:=by
    have:=(List.getElem?_eq_some_iff.1 he).1
    simpa using this
   have h0':i - V.length=0:=by omega
   rw [h0] at he;rw [h0'] at hx'
   obtain rfl:(r,m,s)=e:=by simpa using he
   obtain rfl:(r,m,H)=x:=by simpa using hx'
   exact ⟨rfl,rfl,hx.grown hg hat⟩
 ·rcases List.mem_append.1 he with h | h
  ·exact hs e h
  ·obtain rfl:=List.mem_singleton.1 h
   exact hss
theorem y10 {sz:Nat} {t:TypeId} {xs:List Value} (h:W.ownsRow B t sz v n xs):z02 v:=by
 rcases h.2 with ⟨h1,_⟩ | ⟨g,cap,cur,h1,_,_,hnc,_⟩
 ·refine ⟨fun n c e => ?_,fun a n c e => ?_⟩
  ·rw [e] at h1;cases h1;exact ⟨rfl,rfl⟩
  ·rw [e] at h1;cases h1
 ·refine ⟨fun n c e => ?_,fun a n c e => ?_⟩
  ·rw [e] at h1;cases h1
  ·rw [e] at h1;cases h1;exact hnc
theorem zp6.done (h:zp6 w B v V) (hl:V.length≤100000) (hg:∀ x ∈ V,(0≤x.1∧x.1≤18446744073709551615)∧m9 x.2.2∧(0≤x.2.1∧x.2.1≤18446744073709551615)∧x.2.2.length≤5000) :
 z30 w v V∧z05 w B v (nsV V):=by
 obtain ⟨es,h1,h2,h3,h4⟩:=h
 refine ⟨⟨⟨⟨es,z83.vecAt h2,h1,fun i e x he hx => ?_⟩,hl⟩,y10 h2,fun x hx=>(hg x hx).1⟩,?_⟩
 ·obtain ⟨k1,k2,k3⟩:=h3 i e x he hx
  obtain ⟨g1,g2,g3,g4⟩:=hg x (List.mem_of_getElem? hx)
  exact ⟨k1,k2,k3.ivs,g2,h4 e (List.mem_of_getElem? he),g3.1,g3.2,g4⟩
 ·have hnl:(nsV V).length=es.length:=by unfold nsV;rw [List.length_map,h1]
  have hrow:=h2
  rcases h2.2 with ⟨rfl,h0⟩ | ⟨g,cap,cur,rfl,hbg,hgg,hnc,hcm,_⟩
  ·exact ⟨none,0,by rw [hnl,h0],by rw [hnl,h0];exact Nat.zero_le _,fun hne=>absurd (List.eq_nil_of_length_eq_zero (by rw [hnl,h0])) hne⟩
  ·refine ⟨_,cap,by rw [hnl],by rw [hnl];exact Nat.le_trans hnc hcm,fun _=>⟨g,0,rfl,hbg,fun i n hi => ?_⟩⟩
   have hilt:i<V.length:=by have:=(List.getElem?_eq_some_iff.1 hi).1;rw [hnl] at this;omega
   have hx:V[i]? = some V[i]:=by simp [hilt]
   have he:es[i]? = some es[i]:=by simp [show i<es.length by omega]
   obtain ⟨c0,c1,c2⟩:=yi4 hrow rfl i _ he
   obtain ⟨k1,k2,k3⟩:=h3 i _ _ he hx
   have hn:n=V[i].2.2.length:=by unfold nsV at hi;rw [List.getElem?_map,hx] at hi;exact (Option.some.inj hi).symm
   subst hn
   exact ⟨⟨_,c0⟩,⟨_,c1⟩,hrow.frozenAt _,hrow.frozenAt _,_,c2,k3.soft⟩
theorem y48 (hg:s8 V) (h:∀ x ∈ V,(0≤x.1∧x.1≤18446744073709551615)∧x.2.2.length≤5000):∀ y ∈ j8 V,(0≤y.1∧y.1≤18446744073709551615)∧m9 y.2.2∧(0≤y.2.1∧y.2.1≤18446744073709551615)∧y.2.2.length≤5000:=by
 intro y hy
 obtain ⟨x,hx,hc⟩:=List.mem_filterMap.1 hy
 have hgx:=hg.ent x hx
 obtain ⟨h1,h2,_⟩:=za9 hgx hc
 have hlen:y.2.2.length≤x.2.2.length:=by
  unfold yc4 at hc
  split at hc
  ·cases hc
  ·obtain rfl:=Option.some.inj hc
   exact x87 _ _ _ rfl hgx
 have:=(h x hx).2
 refine ⟨by rw [h1];exact (h x hx).1,?_,?_,by omega⟩
 ·exact h2.good.all
 ·exact ⟨h2.low,h2.top⟩
set_option maxRecDepth 100000 in
set_option maxHeartbeats 4000000 in
theorem xk4 (V:v6) (v:Value) (w:World) (hv:z30 w v V) (hg:s8 V):Calls Tryz.prog 136 #[v] w (wq4 (j8 V) w):=by
 obtain ⟨i0,hi',hz0,hz1,hz2⟩:=info_parts xs6
 obtain ⟨p,cap,rfl⟩:=hv.m.shape
 have hlen:=hv.m.len
 have hlow:∀ x ∈ V,(0≤x.1∧x.1≤18446744073709551615)∧x.2.2.length≤5000:=fun x hx=>⟨hv.rng x hx,by
  obtain ⟨i,hi⟩:=List.mem_iff_getElem?.1 hx
  obtain ⟨_,_,_,_,_,_,_,_,_,_,ha⟩:=hv.m.elem hi
  exact ha.len⟩
 have HFIN:Hid (∀ y ∈ j8 V,(0≤y.1∧y.1≤18446744073709551615)∧m9 y.2.2∧(0≤y.2.1∧y.2.1≤18446744073709551615)∧y.2.2.length≤5000):=qh (y48 hg hlow)
 have HV:=qh hv.m;clear hv hlow
 have HG:=qh hg;clear hg
 have KE:=qh xj7
 go_enter Tryz.func136,Tryz.ntmps136
 go_wp2_with fail
 go_loopw [3,10] (fun vo i wr=>∃ k:Nat,i = .int .i64 k∧k≤V.length∧zp6 wr w.heap.size vo (j8 (V.take k))∧Below w.heap.size w wr) (fun _ i _=>V.length - (intOf i).toNat)
 case atStart=>exact ⟨0,rfl,Nat.zero_le _,zp6.nil _ _,Below.refl _ _⟩
 case round =>
  obtain ⟨k,rfl,hk,hout,hb⟩:=hrel
  obtain ⟨pv,cv,rfl⟩:=hout.shape
  have HB:=qh hb;clear hb
  have hszw:=HB.out.size
  by_cases hlt:k<V.length
  ·obtain ⟨⟨r,m,H⟩,hx⟩:∃ x,V[k]? = some x:=⟨V[k],by simp [hlt]⟩
   obtain ⟨b,o,cp,q,n,c,e,c0,c1,c2,ha⟩:=(HV.out.call HB.out).elem hx
   cases e
   obtain ⟨_,_,es,_⟩:=ha.at'.shape
   cases es
   have hge:=HG.out.ent _ (List.mem_iff_getElem?.2 ⟨k,hx⟩)
   have hbn:=z8 wr (.cells #[.int .u64 r,.int .u64 m,.slice q H.length c] 63)
   have K:=qh (KE.out r m H (.slice q H.length c) _ ⟨ha.call hbn,hge⟩)
   have HBN:=qh hbn;clear hbn
   have hcl:=zn4 (V.take k)
   rw [List.length_take] at hcl
   have HC:=qh (And.intro (ya0 hx) (show (j8 (V.take k)).length≤100000 by omega))
   have i1:(0:Int)≤(k:Int):=by omega
   have i2:(k:Int)<(V.length:Int):=by omega
   clear ha hge hx hcl
   generalize x7 m H=KK at *
   generalize j8 (V.take k)=P at *
   go_wp2_with fail
   refine K.out.mono ?_
   rintro e w1 ⟨vc,rfl,hvc,hsa,hso,h⟩
   obtain ⟨pc,cc,rfl,_⟩:=hvc.shape
   have HH:=qh (And.intro hvc (And.intro hsa (z89 hso HBN.out.size)));clear hvc hso hsa
   have H1:=qh (z7 HBN.out h);clear h c0 c1 c2
   by_cases hK:KK = []
   ·have e1:z44 KK=false:=by rw [hK];rfl
    rw [e1]
    have hb2:=z8 w1 (.cells #[.int .u64 (z56 r KK),.int .u64 (i8 KK),.slice pc (r5 KK).length cc] 63)
    have HB2:=qh (z7 H1.out hb2);clear hb2
    have HO:=qh hout;clear hout
    have HC':=qh (HC.out.1.trans (if_pos hK));clear HC hK
    generalize z56 r KK=rr at *
    generalize i8 KK=tt at *
    generalize (r5 KK).length=ll at *
    go_wp2_with fail
    go_roundw
    case rel=>exact ⟨k+1,by go_num,by omega,by rw [HC'.out];exact HO.out.call HB2.out,z7 HB.out HB2.out⟩
    case measure=>simp [intOf];omega
   ·have e1:z44 KK=true:=y14 hK
    rw [e1]
    have HC':=qh (And.intro (HC.out.1.trans (if_neg hK)) HC.out.2);clear HC hK
    generalize z56 r KK=rr at *
    generalize i8 KK=tt at *
    generalize r5 KK=hh at *
    obtain ⟨w2,hw2⟩:∃ w2,w1.alloc (.cells #[.int .u64 rr,.int .u64 tt,.slice pc hh.length cc] 63)=w2:=⟨_,rfl⟩
    have e3:E3 w2 w1.heap.size rr tt (.slice pc hh.length cc):=hw2 ▸ E3.new w1 rr tt (.slice pc hh.length cc) 63 _ rfl
    have hb2:Below w1.heap.size w1 w2:=hw2 ▸ z8 w1 _
    obtain ⟨t0,t1,t2⟩:=e3
    have HB2:=qh (z7 H1.out hb2)
    obtain ⟨es,hel,hrow,hall,hsan⟩:=hout
    have HROW:=qh hrow
    have HALL:=qh (And.intro hall hsan)
    have HAP:=qh (fun h0=>zt8 hrow HH.out.2.2 h0)
    have HH2:=qh (And.intro (HH.out.1.call hb2) (And.intro (z89 (HH.out.2.2.call hb2) hszw) HH.out.2.1))
    clear hrow hall hsan hb2 HH
    have hel2:es.length≤100000:=by rw [hel];exact HC'.out.2
    have HSZ:=qh (Nat.le_trans hszw HB2.out.size)
    go_wp2_with (at_builtin;go_loud (refine wpList_append_own_at _ rfl _ _ 44 rfl w.heap.size 63 i0 (.agg #[.int .u64 0,.int .u64 0,.slice none 0 0]) 3 40 Tryz.underlying44 hi' hz0 hz1 hz2 rfl (by decide) _ es.length (zk5 es) rfl (y6 HROW.out (z7 HB2.out (z8 _ _))) ⟨w2.heap.size,0,none⟩ 1 1 [.int .u64 rr,.int .u64 tt,.slice pc hh.length cc] rfl rfl (zh8 _ _ _ _ _ _ rfl) (by simp [Value.oneCell']) (by unfold maxLen;omega) (by omega) (Nat.le_trans HSZ.out (z8 _ _).size) ?_;intro v' w4 hown' hgrow _ hat;have HN:=qh (z8 w2 (.cells #[.int .u64 rr,.int .u64 tt,.slice pc hh.length cc] 63));have HW4:=qh (x8 (z7 HB.out (z7 HB2.out HN.out)) (y6 HROW.out (z7 HB2.out HN.out)) hgrow (Nat.le_trans HSZ.out HN.out.size));have HP:=qh (zp6.push hel (fun i e x he hx=>⟨(HALL.out.1 i e x he hx).1,(HALL.out.1 i e x he hx).2.1,(HALL.out.1 i e x he hx).2.2.call (z7 HB2.out HN.out)⟩) hown' hgrow hat (⟨HH2.out.1.call HN.out,HH2.out.2.1.call HN.out,HAP.out⟩:zu9 _ _ _ _ hh) HALL.out.2 HH2.out.2.2);clear hown' hgrow hat))
    go_roundw
    case rel=>exact ⟨k+1,by go_num,by omega,by rw [HC'.out.1];exact HP.out,HW4.out⟩
    case measure=>simp [intOf];omega
  ·obtain rfl:k=V.length:=by omega
   rw [List.take_of_length_le (Nat.le_refl _)] at hout ⊢
   have HO:=qh hout;clear hout
   have HCL:=qh (zn4 V)
   have HFL:=qh HFIN.out
   go_wp2_with fail
   go_ret
   obtain ⟨s1,s2⟩:=HO.out.done (by have:=HCL.out;omega) HFL.out
   exact ⟨_,rfl,s1,s2,HB.out⟩
theorem z05.call (h:z05 w B v ns) (hb:Below w.heap.size w w'):z05 w' B v ns:=by
 obtain ⟨p,cap,h1,h2,h3⟩:=h
 refine ⟨p,cap,h1,h2,fun hne => ?_⟩
 obtain ⟨b,o,h5,hB,h6⟩:=h3 hne
 refine ⟨b,o,h5,hB,fun i n hi => ?_⟩
 obtain ⟨⟨z,hz⟩,⟨y,hy⟩,f0,f1,s,hs,hso⟩:=h6 i n hi
 exact ⟨⟨z,z6 hz hb⟩,⟨y,z6 hy hb⟩,x6 f0 (World.block_lt_of_cell? w _ hz) hb,x6 f1 (World.block_lt_of_cell? w _ hy) hb,s,z6 hs hb,hso.call hb⟩
theorem zn3 {k:IntKind} {m:Nat} (ha:w.cell? a=some (.int k z)) (hc:w.cell? c=some (.slice p n m)) (y:Value):(w.setCell a y).cell? c=some (.slice p n m):=by
 rw [World.cell?_setCell_other _ _ _ _ (fun e=>by rw [e,hc] at ha;cases ha)];exact hc
theorem yd9 {y:Int} (h:∃ z:Int,w.cell? c=some (.int .u64 z)):∃ z:Int,(w.setCell a (.int .u64 y)).cell? c=some (.int .u64 z):=by
 obtain ⟨z,hz⟩:=h
 by_cases he:a=c
 ·subst he;exact ⟨y,World.cell?_setCell_same' _ _ _ (by rw [hz];rfl)⟩
 ·exact ⟨z,by rw [World.cell?_setCell_other _ _ _ _ he];exact hz⟩
theorem i7.setI (h:i7 w B v n) (a:Addr) (y:Int):i7 (w.setCell a (.int .u64 y)) B v n:=by
 obtain ⟨p,cap,h1,h2,h3⟩:=h
 refine ⟨p,cap,h1,h2,fun hn => ?_⟩
 obtain ⟨g,o,h4,h5,h6⟩:=h3 hn
 refine ⟨g,o,h4,h5,fun i hi => ?_⟩
 obtain ⟨⟨hz,hf⟩,hy,hg⟩:=h6 i hi
 exact ⟨⟨yd9 hz,by rw [World.frozen?_setCell];exact hf⟩,yd9 hy,by rw [World.frozen?_setCell];exact hg⟩
theorem z05.setI (h:z05 w B v ns) (hz:w.cell? a=some (.int .u64 z)) (y:Int):z05 (w.setCell a (.int .u64 y)) B v ns:=by
 obtain ⟨p,cap,h1,h2,h3⟩:=h
 refine ⟨p,cap,h1,h2,fun hne => ?_⟩
 obtain ⟨b,o,h5,hB,h6⟩:=h3 hne
 refine ⟨b,o,h5,hB,fun i n hi => ?_⟩
 obtain ⟨k0,k1,f0,f1,s,hs,hso⟩:=h6 i n hi
 refine ⟨yd9 k0,yd9 k1,by rw [World.frozen?_setCell];exact f0,by rw [World.frozen?_setCell];exact f1,s,?_,hso.setI _ _⟩
 obtain ⟨q,c,e,_⟩:=hso
 rw [e] at hs ⊢
 exact zn3 hz hs _
theorem z05.at (h:z05 w B v ns) {i:Nat} (hi:ns[i]? = some n):∃ b o m cap z z' p c,v = .slice (some ⟨b,o,none⟩) m cap∧B≤b∧w.cell? ⟨b,o+i*3,none⟩=some (.int .u64 z)∧w.cell? ⟨b,o+i*3+1,none⟩=some (.int .u64 z') ∧
 w.frozen? ⟨b,o+i*3,none⟩=false∧w.frozen? ⟨b,o+i*3+1,none⟩=false∧w.cell? ⟨b,o+i*3+2,none⟩=some (.slice p n c)∧i7 w B (.slice p n c) n:=by
 obtain ⟨p,cap,h1,_,h3⟩:=h
 obtain ⟨b,o,rfl,hB,h6⟩:=h3 (by intro e;rw [e] at hi;simp at hi)
 obtain ⟨⟨z,hz⟩,⟨y,hy⟩,f0,f1,s,hs,hso⟩:=h6 i n hi
 have hso':=hso
 obtain ⟨q,c,e,_⟩:=hso
 subst e
 exact ⟨b,o,_,cap,z,y,q,c,h1,hB,hz,hy,f0,f1,hs,hso'⟩
theorem i7.at {c:Nat} (h:i7 w B (.slice p n c) n) {j:Nat} (hj:j<n):∃ g o z z',p=some ⟨g,o,none⟩∧B≤g∧w.cell? ⟨g,o+j*2,none⟩=some (.int .u64 z)∧w.frozen? ⟨g,o+j*2,none⟩=false∧w.cell? ⟨g,o+j*2+1,none⟩=some (.int .u64 z')∧w.frozen? ⟨g,o+j*2+1,none⟩=false:=by
 obtain ⟨p',cap,h1,_,h3⟩:=h
 cases h1
 obtain ⟨g,o,rfl,hB,h6⟩:=h3 (by omega)
 obtain ⟨⟨⟨z,hz⟩,hf⟩,⟨y,hy⟩,hg⟩:=h6 j hj
 exact ⟨g,o,z,y,rfl,hB,hz,hf,hy,hg⟩
end
end Go.Proofs.YtchndljcahjldaaGreatDoor
