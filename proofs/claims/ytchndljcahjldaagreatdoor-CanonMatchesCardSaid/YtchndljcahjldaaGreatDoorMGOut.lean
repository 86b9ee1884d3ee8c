/- Knowledge that a call builds: a row of its own whose fragments lie in blocks apart from it. -/
import Derived.Test.YtchndljcahjldaaGreatDoorMKFold
import Derived.Test.YtchndljcahjldaaGreatDoorMGRef
namespace Go.Proofs.YtchndljcahjldaaGreatDoor
section
open Go.RowKit
variable {w w' w2 W w1:World} {g g':Option Nat} {s v v2 a0 a1:Value} {L:List Iv} {V:v6} {B k:Nat} {F:t8} {fs:List (Value × Value)} {p0 p1:Addr}
structure IvG (w:World) (g:Option Nat) (s:Value) (L:List Iv):Prop where
 ivs:v7 w s L
 apart:0<L.length→∃ b,s.ownBlock=some b∧b<w.heap.size∧g≠some b
theorem IvG.of (h:v7 w s L) (hn:0<L.length→∀ b,s.ownBlock=some b→g≠some b):IvG w g s L:=by
 refine ⟨h,fun h0 => ?_⟩
 obtain ⟨p,cap,rfl,h2,h3⟩:=h
 obtain ⟨b,o,rfl,h6⟩:=h3 (List.length_pos_iff.1 h0)
 have h7:=(h6 0 L[0] (by simp [h0])).1
 exact ⟨b,rfl,World.block_lt_of_cell? w _ h7,hn h0 b rfl⟩
theorem IvG.call (h:IvG w g s L) (hb:Below w.heap.size w w'):IvG w' g s L:=by
 refine ⟨h.ivs.call hb,fun h0 => ?_⟩
 obtain ⟨b,h1,h2,h3⟩:=h.apart h0
 exact ⟨b,h1,Nat.lt_of_lt_of_le h2 hb.size,h3⟩
theorem y93 {b:Nat} (hlt:b<w.heap.size) (hn:g≠some b) (hat:g'=g∨g'=some w.heap.size):g'≠some b:=by
 rcases hat with rfl | rfl
 ·exact hn
 ·intro e;have:=Option.some.inj e;omega
theorem IvG.grown (h:IvG w g s L) (hg:w.grownBy w' g) (hat:g'=g∨g'=some w.heap.size):IvG w' g' s L:=by
 obtain ⟨⟨p,cap,h1,h2,h3⟩,ha⟩:=h
 refine ⟨⟨p,cap,h1,h2,fun hne => ?_⟩,fun h0 => ?_⟩
 ·obtain ⟨b,o,rfl,h6⟩:=h3 hne
  obtain ⟨b',e,hlt,hn⟩:=ha (List.length_pos_iff.2 hne)
  rw [h1] at e
  obtain rfl:b=b':=Option.some.inj e
  have hblk:=hg.block b hlt (fun e=>hn e.symm)
  have hc:∀ i,w'.cell? ⟨b,i,none⟩=w.cell? ⟨b,i,none⟩:=fun i=>World.cell?_of_block hblk
  refine ⟨b,o,rfl,fun i x hx => ?_⟩
  rw [hc,hc]
  exact h6 i x hx
 ·obtain ⟨b,e,hlt,hn⟩:=ha h0
  exact ⟨b,e,Nat.lt_of_lt_of_le hlt hg.size,y93 hlt hn hat⟩
structure zj6 (w:World) (g:Option Nat) (v:Value) (V:v6):Prop where
 sh:∃ es,zp0 w v es∧es.length=V.length∧∀ (i:Nat) (e:Int × Int × Value) (x:Int × Int × List Iv),es[i]? = some e→V[i]? = some x→e.1=x.1∧e.2.1=x.2.1∧IvG w g e.2.2 x.2.2
 len:V.length≤100000
 apart:0<V.length→∃ b,v.ownBlock=some b∧b<w.heap.size∧g≠some b
theorem zj6.i (h:zj6 w g v V):zd6 w v V:=by
 obtain ⟨⟨es,h1,h2,h3⟩,h4,_⟩:=h
 exact ⟨⟨es,h1,h2,fun i e x he hx=>⟨(h3 i e x he hx).1,(h3 i e x he hx).2.1,(h3 i e x he hx).2.2.ivs⟩⟩,h4⟩
theorem zj6.call (h:zj6 w g v V) (hb:Below w.heap.size w w'):zj6 w' g v V:=by
 obtain ⟨⟨es,h1,h2,h3⟩,h4,h5⟩:=h
 refine ⟨⟨es,h1.call hb,h2,fun i e x he hx=>⟨(h3 i e x he hx).1,(h3 i e x he hx).2.1,(h3 i e x he hx).2.2.call hb⟩⟩,h4,fun h0 => ?_⟩
 obtain ⟨b,k1,k2,k3⟩:=h5 h0
 exact ⟨b,k1,Nat.lt_of_lt_of_le k2 hb.size,k3⟩
theorem zj6.grown (h:zj6 w g v V) (hg:w.grownBy w' g) (hat:g'=g∨g'=some w.heap.size):zj6 w' g' v V:=by
 obtain ⟨⟨es,⟨p,cap,h1,h2,h3⟩,hel,hal⟩,h4,h5⟩:=h
 refine ⟨⟨es,⟨p,cap,h1,h2,fun hne => ?_⟩,hel,fun i e x he hx=>⟨(hal i e x he hx).1,(hal i e x he hx).2.1,(hal i e x he hx).2.2.grown hg hat⟩⟩,h4,fun h0 => ?_⟩
 ·obtain ⟨b,o,rfl,h6⟩:=h3 hne
  obtain ⟨b',e,hlt,hn⟩:=h5 (by rw [← hel];exact List.length_pos_iff.2 hne)
  rw [h1] at e
  obtain rfl:b=b':=Option.some.inj e
  have hblk:=hg.block b hlt (fun e=>hn e.symm)
  have hc:∀ i,w'.cell? ⟨b,i,none⟩=w.cell? ⟨b,i,none⟩:=fun i=>World.cell?_of_block hblk
  refine ⟨b,o,rfl,fun i x hx => ?_⟩
  rw [hc,hc,hc]
  exact h6 i x hx
 ·obtain ⟨b,e,hlt,hn⟩:=h5 h0
  exact ⟨b,e,Nat.lt_of_lt_of_le hlt hg.size,y93 hlt hn hat⟩
theorem zj6.of_out (h:z83 w B v V) (hl:V.length≤100000) (hg:∀ b,g=some b→b<B):zj6 w g v V:=by
 obtain ⟨es,h1,h2,h3⟩:=h
 refine ⟨⟨es,z83.vecAt h2,h1,fun i e x he hx=>⟨(h3 i e x he hx).1,(h3 i e x he hx).2.1,IvG.of (h3 i e x he hx).2.2.ivs fun h0 b hb hgb => ?_⟩⟩,hl,fun h0 => ?_⟩
 ·obtain ⟨p,cap,hs,h5,h6⟩:=(h3 i e x he hx).2.2.soft
  obtain ⟨b',o,rfl,hB,_⟩:=h6 h0
  rw [hs] at hb
  obtain rfl:b'=b:=Option.some.inj hb
  have:=hg _ hgb
  omega
 ·have hpos:0<es.length:=by omega
  rcases h2.2 with ⟨_,hz⟩ | ⟨k,cap,cur,rfl,hbg,hk,_⟩
  ·omega
  ·refine ⟨k,rfl,(Array.getElem?_eq_some_iff.1 hk).1,fun e => ?_⟩
   have:=hg _ e
   omega
def zc6 (w:World) (B:Nat) (v:Value) (F:t8):Prop:=
 ∃ fs:List (Value × Value),fs.length=F.length∧w.ownsRow B 46 2 v fs.length (frC fs)∧∀ (i:Nat) (f:Value × Value) (x:List Iv × v6),fs[i]? = some f→F[i]? = some x→IvG w v.ownBlock f.1 x.1∧zj6 w v.ownBlock f.2 x.2
theorem zc6.nil (w:World) (B:Nat):zc6 w B (.slice none 0 0) []:=⟨[],rfl,World.ownsRow_nil w B _ 2,fun i f x h=>by simp at h⟩
theorem zc6.shape (h:zc6 w B v F):∃ p cap,v = .slice p F.length cap:=by
 obtain ⟨fs,h1,h2,_⟩:=h
 obtain ⟨p,cap,e,_⟩:=y8 h2
 exact ⟨p,cap,by rw [e,h1]⟩
theorem zc6.call (h:zc6 w B v F) (hb:Below w.heap.size w w'):zc6 w' B v F:=by
 obtain ⟨fs,h1,h2,h3⟩:=h
 exact ⟨fs,h1,y6 h2 hb,fun i f x hf hx=>⟨(h3 i f x hf hx).1.call hb,(h3 i f x hf hx).2.call hb⟩⟩
theorem zc6.base {B':Nat} (h:zc6 w B v F) (hB:B'≤B):zc6 w B' v F:=by
 obtain ⟨fs,h1,h2,h3⟩:=h
 exact ⟨fs,h1,p8 h2 hB,h3⟩
theorem x58 (fs:List (Value × Value)) (a b:Value):frC (fs ++ [(a,b)])=frC fs ++ [a,b]:=by unfold frC;rw [List.flatMap_append];rfl
theorem zc6.push {u:Value} (hel:fs.length=F.length)
 (hall:∀ (i:Nat) (f:Value × Value) (x:List Iv × v6),fs[i]? = some f→F[i]? = some x→IvG w v.ownBlock f.1 x.1∧zj6 w v.ownBlock f.2 x.2)
 (hrow:w2.ownsRow B 46 2 v2 (fs.length+1) (frC fs ++ [s,u])) (hg:w.grownBy w2 v.ownBlock) (hat:v2.ownBlock=v.ownBlock∨v2.ownBlock=some w.heap.size) (hs:IvG w v.ownBlock s L) (hu:zj6 w v.ownBlock u V):zc6 w2 B v2 (F ++ [(L,V)]):=by
 refine ⟨fs ++ [(s,u)],by rw [List.length_append,List.length_append,hel];rfl,?_,fun i f x hf hx => ?_⟩
 ·rw [List.length_append,x58];exact hrow
 ·by_cases hi:i<fs.length
  ·rw [List.getElem?_append_left hi] at hf
   rw [List.getElem?_append_left (by omega)] at hx
   obtain ⟨h1,h2⟩:=hall i f x hf hx
   exact ⟨h1.grown hg hat,h2.grown hg hat⟩
  ·rw [List.getElem?_append_right (by omega)] at hf
   rw [List.getElem?_append_right (by omega)] at hx
   have h0:i - fs.length=0:=by
    have:=(List.getElem?_eq_some_iff.1 hf).1
    simpa using this
   have h0':i - F.length=0:=by omega
   rw [h0] at hf;rw [h0'] at hx
   obtain rfl:(s,u)=f:=by simpa using hf
   obtain rfl:(L,V)=x:=by simpa using hx
   exact ⟨hs.grown hg hat,hu.grown hg hat⟩
theorem zc6.knoAt {t:TypeId} (h:w.ownsRow B t 2 v fs.length (frC fs)):zr3 w v fs:=by
 have h3:=h
 rcases h.2 with ⟨rfl,h0⟩ | ⟨g,cap,cur,rfl,hbg,hg,hnc,hcm,_⟩
 ·exact ⟨none,0,by rw [h0],by omega,fun e=>absurd (List.eq_nil_of_length_eq_zero h0) e⟩
 ·refine ⟨_,cap,rfl,Nat.le_trans hnc hcm,fun _=>⟨g,0,rfl,fun i f he => ?_⟩⟩
  have hi:=(List.getElem?_eq_some_iff.1 he).1
  obtain ⟨c0,c1⟩:=xi4 fs i f he
  rw [Nat.zero_add]
  exact ⟨by rw [h3.cellAt (i*2) (by omega)];exact c0,by rw [h3.cellAt (i*2+1) (by omega)];exact c1⟩
theorem zc6.i (h:zc6 w B v F) (hl:F.length≤100000):zn8 w v F:=by
 obtain ⟨fs,h1,h2,h3⟩:=h
 exact ⟨⟨fs,zc6.knoAt h2,h1,fun i f x hf hx=>⟨(h3 i f x hf hx).1.ivs,(h3 i f x hf hx).2.i⟩⟩,hl⟩
theorem x59 {P:Program} {ops:Array Oper} {o:Oper} {a:Act} {K:Act→World→Prop} {Q:Exit→Act→World→Prop} {E:Prop} (hgd:o.guard=none) (s x:Operand) (t:TypeId)
 (ho:o.op = .call { callee := .builtin .append,args:=#[s,x],argTypes:=#[t,t] })
 (base:Nat) (e:TypeId) (i:TypeInfo) (z:Value) (size bytes:Nat) (ht:P.underlying t=some (.slice e)) (hi:P.info? e=some i) (hz:i.zero=some z)
 (hsize:i.size=size) (hby:i.bytes=bytes) (hzs:z.cells.size=size) (hsz:0<size)
 (v:Value) (n:Nat) (xs:List Value) (hs:a.eval s=v) (hown:w.ownsRow base e size v n xs)
 (ad:Addr) (m c:Nat) (news:List Value) (hx:a.eval x = .slice (some ad) m c) (hl:news.length=m*size) (hnews:∀ j u,news[j]? = some u→w.cell? (ad.add j)=some u) (h1:∀ u ∈ news,u.oneCell'=true)
 (h63:n+m≤maxLen) (hbytes:(n+m)*bytes≤140737488355328) (hbase:base≤w.heap.size)
 (h:∀ v' w',w'.ownsRow base e size v' (n+m) (xs++news)→w.grownBy w' v.ownBlock→(v'.ownBlock=v.ownBlock∨v'.ownBlock=some w.heap.size)→K (a.put o.dst v') w') :
 if Region.wanted o (yielded ops a.tmps)=true then Oper.wp P o a w K Q else E:=by
 rw [if_pos (by simp [Region.wanted,hgd])]
 obtain ⟨v',w',hr,h2,h3,_,h5⟩:=run_append_own_at (P:=P) w base t o.type e i z size bytes ht hi hz hsize hby hzs hsz v n xs hown ad m c news hl hnews h1 h63 hbytes hbase
 unfold Oper.wp execOp
 simp only [ho,resolve,invoke,builtin,Sem.run_bind,Sem.run_pure,Result.andThen_ok,List.map_toArray,List.map_cons,List.map_nil,hs,hx,hr]
 exact h v' w' h2 h3 h5
theorem za6 (w:World) (x y:Value) (t:TypeId):∀ j u,[x,y][j]? = some u→(w.alloc (.cells #[x,y] t)).cell? ((⟨w.heap.size,0,none⟩:Addr).add j)=some u:=by
 intro j u h
 match j,h with
 | 0,h=>simp at h;subst h;simp [Addr.add]
 | 1,h=>simp at h;subst h;simp [Addr.add]
theorem wa1 (h:k<(r8 F).length):((pcs (r8 F)).take (k+1)).filter (fun p=>zb7 F p.1)=((pcs (r8 F)).take k).filter (fun p=>zb7 F p.1)++if zb7 F ((r8 F).getD k 0)=true then [b8 UM (r8 F) k] else []:=by grind [List.take_add_one,wa0,b8]
set_option maxRecDepth 100000 in
set_option maxHeartbeats 8000000 in
theorem yb8 (F:t8) (v:Value) (w:World) (hv:z85 w v F) (hF:x9 F) (hs:z58 F):Calls Tryz.prog 90 #[v] w (z69 (r7 F) w):=by
 obtain ⟨i0,hi',hz0,hz1,hz2⟩:=info_parts zb2
 have K:=qh (yc1 F v w hv hF hs)
 obtain ⟨p,cap,rfl⟩:=hv.shape
 have hfle:(flatK F).length≤240:=by
  have h1:=ze4 (n:=20) F fun x hx=>(hs.2 x hx).1
  have:=hs.1
  omega
 have hSl:=zb9 F
 have hb64:∀ (i:Nat) (x:Int),(r8 F)[i]? = some x→0≤x∧x≤18446744073709551615:=fun i x hx=>c9 hF x (List.mem_of_getElem? hx)
 have hlo:∀ (k:Nat) (x:Int),(r8 F)[k+1]? = some x→1≤x:=fun k x hx=>by
  have ha:=a8 F
  obtain ⟨h1,e1⟩:=List.getElem?_eq_some_iff.1 hx
  have h2:=List.pairwise_iff_getElem.1 ha k (k+1) (by omega) h1 (by omega)
  have h3:=hb64 k (r8 F)[k] (by simp [show k<(r8 F).length by omega])
  rw [e1] at h2
  omega
 have HV:=qh hv
 have HB:=qh (And.intro hb64 hlo)
 have HSN:=qh (fun k h=>wa1 (F:=F) (k:=k) h)
 have HPK:Hid ((pcs (r8 F)).filter (fun p=>zb7 F p.1)=r7 F):=qh rfl
 have HPL:Hid (∀ k,(((pcs (r8 F)).take k).filter (fun p=>zb7 F p.1)).length≤481):=qh fun k=>Nat.le_trans (List.length_filter_le _ _) (by rw [List.length_take,zh2];omega)
 have HLL:Hid ((pcs (r8 F)).length=(r8 F).length):=qh (zh2 _)
 have KM:=qh y61
 have KP:=qh yt8
 have hSl2:(r8 F).length≤481:=by omega
 clear hv hF hs hb64 hlo hSl hfle
 generalize hPC:pcs (r8 F)=PC at *
 clear hPC
 generalize r8 F=SS at *
 go_enter Tryz.func90,Tryz.ntmps90
 go_wp2_with fail
 refine K.out.mono ?_
 rintro e w1 ⟨s,rfl,hos,h⟩
 obtain ⟨ps,cps,rfl,_⟩:=y8 hos
 have HNM:=qh (hos.nums (by omega))
 have H1:=qh h;clear hos h
 go_wp2_with fail
 go_loopw [4,5] (fun u i wr=>∃ k:Nat,i = .int .i64 k∧k≤SS.length∧r9 wr w1.heap.size u ((PC.take k).filter (fun p=>zb7 F p.1))∧Below w1.heap.size w1 wr) (fun _ i _=>SS.length - (intOf i).toNat)
 case atStart=>exact ⟨0,rfl,Nat.zero_le _,r9.nil _ _,Below.refl _ _⟩
 case round =>
  obtain ⟨k,rfl,hk,hown,hb⟩:=hrel
  have HB1:=qh hb;clear hb
  have HO:=qh hown
  obtain ⟨pu,cu,rfl,_⟩:=y8 hown
  clear hown
  by_cases hlt:k<SS.length
  ·obtain ⟨x,hx⟩:∃ x,SS[k]? = some x:=⟨SS[k],by simp [hlt]⟩
   have hxg:SS.getD k 0=x:=by rw [List.getD_eq_getElem?_getD,hx];rfl
   obtain ⟨b,o,cap',e,c0⟩:=(HNM.out.call HB1.out).elem hx
   cases e
   have hbw:=z7 H1.out HB1.out
   have KM1:=qh (KM.out F (.slice p F.length cap) x wr (HV.out.call hbw))
   have hsn:=HSN.out k hlt
   rw [hxg] at hsn
   have hpos:=xa4 F x
   have hany:zb7 F x=decide (0<(zk9 F x).length):=hpos.symm
   rw [hany] at hsn
   have HS:=qh hsn
   have i1:(0:Int)≤(k:Int):=by omega
   have i2:(k:Int)<(SS.length:Int):=by omega
   have HLN:=qh (HPL.out k)
   clear hsn hpos hany hx hxg hbw
   generalize zk9 F x=M at *
   generalize (PC.take k).filter (fun p=>zb7 F p.1)=PP at *
   by_cases hM:0<M.length
   ·have hd:decide (0<M.length)=true:=decide_eq_true hM
    have HS2:=qh (HS.out.trans (by rw [if_pos hd]))
    have i3:(0:Int)<(M.length:Int):=by omega
    have KP1:=qh (fun W (hb:Below wr.heap.size wr W)=>KP.out SS (.slice (some ⟨b,o,none⟩) SS.length cps) k W ((HNM.out.call HB1.out).call hb) hlt HB.out.1 (HB.out.2 k))
    clear hd HS hM
    go_wp2_with fail
    refine KM1.out.mono ?_
    rintro e w2 ⟨u,rfl,⟨pm,cm,rfl,_⟩,h⟩
    have HW:=qh h
    have KP2:=qh (KP1.out w2 h)
    have HO2:=qh (HO.out.below h)
    clear h c0
    go_wp2_with fail
    refine KP2.out.mono ?_
    rintro e w3 ⟨rfl,h⟩
    have HW3:=qh (z7 HB1.out (z7 HW.out h))
    have HO3:=qh (HO2.out.below h)
    clear h
    have HPE:Hid (b8 18446744073709551615 SS k=b8 UM SS k):=qh rfl
    rw [← HPE.out] at HS2
    generalize b8 18446744073709551615 SS k=pc at *
    go_wp2_with (at_builtin;refine wpList_append_own _ rfl _ _ 42 rfl w1.heap.size 65 i0 (.agg #[.int .u64 0,.int .u64 0]) 2 16 Tryz.underlying42 hi' hz0 hz1 hz2 rfl (by decide) _ PP.length (ivC PP) rfl (y6 HO3.out (z8 _ _)) ⟨w3.heap.size,0,none⟩ 1 1 [.int .u64 pc.1,.int .u64 pc.2] rfl rfl (za6 _ _ _ _) (by simp [Value.oneCell']) (by have:=HLN.out;unfold maxLen;omega) (by have:=HLN.out;omega) (Nat.le_trans HW3.out.size (z8 _ _).size) ?_;intro v' w4 hown' hgrow _;have HN:=qh (z8 w3 (.cells #[.int .u64 pc.1,.int .u64 pc.2] 65));have HW4:=qh (x8 (z7 HW3.out HN.out) (y6 HO3.out HN.out) hgrow (Nat.le_trans HW3.out.size HN.out.size));obtain ⟨g',cap4,rfl,_⟩:=y8 hown';have HP:=qh hown';clear hown' hgrow)
    go_roundw
    case rel=>exact ⟨k+1,by go_num,by omega,by
     rw [HS2.out]
     unfold r9
     rw [List.length_append,zc3]
     exact HP.out,HW4.out⟩
    case measure=>simp [intOf];omega
   ·have hd:decide (0<M.length)=false:=decide_eq_false hM
    have HS2:=qh (HS.out.trans (by rw [if_neg (by rw [hd];simp),List.append_nil]))
    have i3:¬ (0:Int)<(M.length:Int):=by omega
    clear hd HS hM
    go_wp2_with fail
    refine KM1.out.mono ?_
    rintro e w2 ⟨u,rfl,⟨pm,cm,rfl,_⟩,h⟩
    have HW:=qh (z7 HB1.out h)
    have HO2:=qh (HO.out.below h)
    clear h c0
    go_wp2_with fail
    go_roundw
    case rel=>exact ⟨k+1,by go_num,by omega,by rw [HS2.out];exact HO2.out,HW.out⟩
    case measure=>simp [intOf];omega
  ·obtain rfl:k=SS.length:=by omega
   have h1:=HO.out
   rw [List.take_of_length_le (by rw [HLL.out];exact Nat.le_refl _),HPK.out] at h1
   have HOO:=qh h1
   rw [List.take_of_length_le (by rw [HLL.out];exact Nat.le_refl _),HPK.out]
   clear h1 HO
   go_wp2_with fail
   go_ret
   exact ⟨_,rfl,p8 HOO.out H1.out.size,z7 H1.out HB1.out⟩
def apB (F:t8):Bool:=decide (F.Pairwise fun x y=>xk1 y.1 x.1 = [])
theorem yw7 (h:Below W.heap.size W w1∧w1.cell? p0=some a0∧w1.cell? p1=some a1) (hb:Below w1.heap.size w1 w2):Below W.heap.size W w2∧w2.cell? p0=some a0∧w2.cell? p1=some a1:=⟨z7 h.1 hb,z6 h.2.1 hb,z6 h.2.2 hb⟩
set_option maxRecDepth 100000 in
set_option maxHeartbeats 2000000 in
theorem x60 (F:t8) (v:Value) (t:Int) (w:World) (hv:z85 w v F) (hg:x9 F) (hs:z58 F):Calls Tryz.prog 91 #[v,.int .u64 t] w (v60 (atK F t) w):=by
 obtain ⟨p,cap,rfl⟩:=hv.shape
 have hlen:=hv.len
 have HV:=qh hv;clear hv
 have HG:=qh (And.intro hg hs);clear hg hs
 have KU:=qh (fun (A B:v6) (a b:Value) (W:World) ha hb gA gB sA sB=>x70 0 orL v86 (fun _ _ h h'=>⟨z03 h h',zf3 h h'⟩) A B a b W ha hb gA gB sA sB)
 have KL:=qh zi2
 go_enter Tryz.func91,Tryz.ntmps91
 go_wp2_with fail
 go_loopw [5,6] (fun u i wr=>∃ k:Nat,i = .int .i64 k∧k≤F.length∧z83 wr w.heap.size u (atK (F.take k) t)∧Below w.heap.size w wr) (fun _ i _=>F.length - (intOf i).toNat)
 case atStart=>exact ⟨0,rfl,Nat.zero_le _,z83.nil _ _,Below.refl _ _⟩
 case round =>
  obtain ⟨k,rfl,hk,hat,hb⟩:=hrel
  have HB:=qh hb;clear hb
  obtain ⟨pu,cu,rfl⟩:=hat.shape
  by_cases hlt:k<F.length
  ·obtain ⟨⟨L,V⟩,hx⟩:∃ x,F[k]? = some x:=⟨F[k],by simp [hlt]⟩
   obtain ⟨b,o,cap',q,cc,q2,c2,e,c0,c1,ha⟩:=(HV.out.call HB.out).elem hx
   cases e
   have hx1:=HG.out.1 _ (List.mem_of_getElem? hx)
   have hx2:=HG.out.2.2 _ (List.mem_of_getElem? hx)
   have hi:=xa8 HG.out.1 HG.out.2 t k
   have HI:=qh (And.intro (And.intro hi.1 (hi.2.mono (by omega:240≤1000) (by omega:396≤1000))) (And.intro hx1.2 (show n7 1000 1000 V from ⟨by have:=hx2.2.1;dsimp only at this;omega,fun y hy=>by have:=hx2.2.2 y hy;omega⟩)))
   have HT:=qh (wr6 t hx)
   have K:=qh (KL.out L (.slice q L.length cc) t wr ha.at1)
   have HO:=qh hat
   have HVI:=qh (And.intro (hat.vec (Nat.le_trans hi.2.1 (by omega))) ha.vec.m.i);clear hat
   have i1:(0:Int)≤(k:Int):=by omega
   have i2:(k:Int)<(F.length:Int):=by omega
   clear ha hx1 hx2 hi hx
   generalize atK (F.take k) t=A at *
   cases hL:y9 L t with
   | false =>
     rw [hL] at K
     have HS:=qh (HT.out.trans (show z09 t A (L,V)=A by unfold z09;rw [hL];rfl));clear hL HT
     go_wp2_with fail
     refine K.out.mono ?_
     rintro e w1 ⟨rfl,h⟩
     have HV1:=qh (HO.out.call h)
     have H1:=qh (z7 HB.out h);clear h
     go_wp2_with fail
     go_roundw
     case rel=>exact ⟨k+1,by go_num,by omega,by rw [HS.out];exact HV1.out,H1.out⟩
     case measure=>simp [intOf];omega
   | true =>
     rw [hL] at K
     have HS:=qh (HT.out.trans (show z09 t A (L,V)=opV orL A V by unfold z09;rw [hL];rfl));clear hL HT
     go_wp2_with fail
     refine K.out.mono ?_
     rintro e w1 ⟨rfl,h⟩
     replace c1:=z6 c1 h
     have KW:=qh (KU.out A V _ _ w1 (HVI.out.1.call h) (HVI.out.2.call h) HI.out.1.1 HI.out.2.1 HI.out.1.2 HI.out.2.2)
     have H1:=qh (z7 HB.out h);clear h
     go_wp2_with fail
     refine KW.out.mono ?_
     rintro e w2 ⟨u,rfl,hu,_,h⟩
     have HU:=qh (hu.base H1.out.size);clear hu
     have H2:=qh (z7 H1.out h);clear h
     obtain ⟨pu2,cu2,rfl⟩:=HU.out.shape
     go_wp2_with fail
     go_roundw
     case rel=>exact ⟨k+1,by go_num,by omega,by rw [HS.out];exact HU.out,H2.out⟩
     case measure=>simp [intOf];omega
  ·obtain rfl:k=F.length:=by omega
   rw [List.take_of_length_le (Nat.le_refl _)] at hat ⊢
   have HA:=qh hat;clear hat
   have HLN:Hid ((atK F t).length≤100000):=qh (by have h9:=(xa8 HG.out.1 HG.out.2 t F.length).2.1;rw [List.take_of_length_le (Nat.le_refl _)] at h9;omega)
   go_wp2_with fail
   go_ret
   exact ⟨_,rfl,HA.out,HLN.out,HB.out⟩
def va8 (F:t8) (w:World) (e:Ending) (w':World):Prop:=∃ u,e = .returned u∧zc6 w' w.heap.size u F∧Below w.heap.size w w'
theorem x61 (w:World) (x y:Int) (t:TypeId):v7 (w.alloc (.cells #[.int .u64 x,.int .u64 y] t)) (.slice (some ⟨w.heap.size,0,none⟩) 1 1) [(x,y)]:=by
 refine ⟨_,_,rfl,(by simp),fun _=>⟨w.heap.size,0,rfl,fun i z hz => ?_⟩⟩
 match i,hz with
 | 0,hz =>
   obtain rfl:(x,y)=z:=by simpa using hz
   exact ⟨by simp,by simp⟩
theorem wx7 {o:Obj} (h:Below W.heap.size W w1∧w1.cell? p0=some a0∧w1.cell? p1=some a1):Below W.heap.size W (w1.alloc o)∧(w1.alloc o).cell? p0=some a0∧(w1.alloc o).cell? p1=some a1:=yw7 h (z8 _ _)
theorem wo2 (h:Below W.heap.size W w1∧w1.cell? p0=some a0∧w1.cell? p1=some a1):Below W.heap.size W w1.drew∧w1.drew.cell? p0=some a0∧w1.drew.cell? p1=some a1:=yw7 h (Below.refl _ _).drew
theorem v54 {n c lim:Nat} (h:v7 W (.slice (some ⟨k,0,none⟩) n c) L) (hk:lim≤k) (hg:∀ b,g=some b→b<lim):IvG W g (.slice (some ⟨k,0,none⟩) n c) L:=IvG.of h fun _ b hb hgb=>by
 have h1:=hg b hgb
 have h2:k=b:=Option.some.inj hb
 omega
theorem x62 {wr w3:World} {ua:Value} {PK:t8} {A:v6} (hbW:Below wr.heap.size wr W) (hel:fs.length=PK.length)
 (hall:∀ (i:Nat) (f:Value × Value) (x:List Iv × v6),fs[i]? = some f→PK[i]? = some x→IvG wr v.ownBlock f.1 x.1∧zj6 wr v.ownBlock f.2 x.2)
 (hrow:w3.ownsRow B 46 2 v2 (fs.length+1) (frC fs ++ [.slice (some ⟨k,0,none⟩) 1 1,ua])) (hgrow:W.grownBy w3 v.ownBlock) (hat:v2.ownBlock=v.ownBlock∨v2.ownBlock=some W.heap.size)
 (hg:∀ b,v.ownBlock=some b→b<wr.heap.size) (hl:v7 W (.slice (some ⟨k,0,none⟩) 1 1) L) (hk:wr.heap.size≤k) (hu:zj6 W v.ownBlock ua A):zc6 w3 B v2 (PK ++ [(L,A)]):=
 zc6.push hel (fun i f x hf hx=>⟨(hall i f x hf hx).1.call hbW,(hall i f x hf hx).2.call hbW⟩) hrow hgrow hat (v54 hl hk hg) hu
theorem ww2 (h:Below W.heap.size W w1) (h0:W.cell? p0=some a0) (h1:W.cell? p1=some a1):Below W.heap.size W w1∧w1.cell? p0=some a0∧w1.cell? p1=some a1:=⟨h,z6 h0 h,z6 h1 h⟩
theorem x63 {P:List Iv} (f:Iv→List Iv × v6) {x:Iv} (h:P[k]? = some x):(P.take (k+1)).map f=(P.take k).map f ++ [f x]:=by
 rw [List.take_add_one,h,List.map_append];rfl
set_option maxRecDepth 100000 in
set_option maxHeartbeats 8000000 in
theorem yb9 (F:t8) (v:Value) (w:World) (hv:z85 w v F) (hF:x9 F) (hs:z58 F):Calls Tryz.prog 47 #[v] w (va8 (s5 F) w):=by
 obtain ⟨i0,hi',hz0,hz1,hz2⟩:=info_parts zw9
 have K:=qh (yb8 F v w hv hF hs)
 obtain ⟨p,cap,rfl⟩:=hv.shape
 have hfle:(flatK F).length≤240:=by
  have h1:=ze4 (n:=20) F fun x hx=>(hs.2 x hx).1
  have:=hs.1
  omega
 have hPl:(r7 F).length≤481:=by
  have h1:(r7 F).length≤(r8 F).length:=Nat.le_trans (List.length_filter_le _ _) (by rw [zh2];exact Nat.le_refl _)
  have h2:=zb9 F
  omega
 clear hfle
 have KA:=qh (fun (t:Int) (W:World) (hb:Below w.heap.size w W)=>x60 F (.slice p F.length cap) t W (hv.call hb) hF hs)
 have HRF:Hid ((r7 F).map (fun q=>([q],atK F q.1))=s5 F):=qh rfl
 clear hv hF hs
 generalize s5 F=RF at *
 generalize hPP:r7 F=PL at *
 clear hPP
 generalize hFF:(fun q:Iv=>([q],atK F q.1))=ff at *
 have HFF:Hid (∀ q:Iv,ff q=([q],atK F q.1)):=qh fun q=>by rw [← hFF]
 clear hFF
 go_enter Tryz.func47,Tryz.ntmps47
 go_wp2_with fail
 refine K.out.mono ?_
 rintro e w1 ⟨s,rfl,hos,h⟩
 obtain ⟨ps,cps,rfl,_⟩:=y8 hos
 have HIV:=qh (hos.ivs (by omega))
 have H1:=qh h;clear hos h
 go_wp2_with fail
 go_loopw [4,5] (fun u i wr=>∃ k:Nat,i = .int .i64 k∧k≤PL.length∧zc6 wr w1.heap.size u ((PL.take k).map ff)∧Below w1.heap.size w1 wr) (fun _ i _=>PL.length - (intOf i).toNat)
 case atStart=>exact ⟨0,rfl,Nat.zero_le _,zc6.nil _ _,Below.refl _ _⟩
 case round =>
  obtain ⟨k,rfl,hk,hown,hb⟩:=hrel
  have HB1:=qh hb;clear hb
  obtain ⟨pu,cu,hu⟩:=hown.shape
  rw [List.length_map,List.length_take,Nat.min_eq_left hk] at hu
  subst hu
  have HO:=qh hown;clear hown
  by_cases hlt:k<PL.length
  ·obtain ⟨⟨x,y⟩,hx⟩:∃ x,PL[k]? = some x:=⟨PL[k],by simp [hlt]⟩
   obtain ⟨b,o,cap',e,c0,c1⟩:=HIV.out.elem hx
   cases e
   dsimp only at c0 c1
   have HC:=qh (And.intro c0 c1)
   replace c0:=z6 c0 HB1.out
   replace c1:=z6 c1 HB1.out
   have HBD:=qh ((Below.refl wr.heap.size wr).drew)
   have HS:=qh (ww2 (z7 HB1.out HBD.out) HC.out.1 HC.out.2)
   have HSN:=qh ((x63 ff hx).trans (by rw [HFF.out]))
   have KA1:=qh (fun W (hb:Below w1.heap.size w1 W)=>KA.out x W (z7 H1.out hb))
   obtain ⟨fs,hel,hrow,hall⟩:=HO.out
   have hfl:fs.length=k:=by rw [hel,List.length_map,List.length_take];omega
   have HFL:=qh hfl
   have HE:=qh (And.intro hel (And.intro hrow hall))
   have HGB:Hid (∀ b,(Value.slice pu k cu).ownBlock=some b→b<wr.heap.size):=qh fun b hb=>(hrow.lt b hb).2
   clear hel hrow hall hx
   generalize (PL.take k).map ff=PK at *
   generalize atK F x=A at *
   have i1:(0:Int)≤(k:Int):=by omega
   have i2:(k:Int)<(PL.length:Int):=by omega
   go_wp2_with fail
   go_region_held3 (fun w'=>Below w1.heap.size w1 w'∧w'.cell? ⟨b,o+k*2,none⟩=some (.int .u64 x)∧w'.cell? ⟨b,o+k*2+1,none⟩=some (.int .u64 y))
    (first
      | exact yw7 (by assumption) (Hid.out (by assumption))
      | exact HS.out
      | assumption
      | exact wx7 (by assumption)
      | exact wo2 (by assumption))
    ((first
      | (go_at_call 91;refine (KA1.out _ (And.left (by assumption))).mono ?_;rintro en w2 ⟨ua,rfl,hua,hul,h'⟩;obtain ⟨pa,ca,rfl⟩:=hua.shape;(first | (have HL:=qh ((x61 wr.drew x y _).call h');have HBW:=qh (z7 (z7 HBD.out (z8 _ _)) h')) | (have HBW:=qh (z7 HBD.out h')));have HU:=qh (And.intro (show z83 w2 wr.heap.size _ _ from hua.base (by first | exact Nat.le_refl _ | exact (z8 wr.drew _).size)) hul);clear hua hul;have h':=qh h')
      | (refine x59 (by rfl) (.tmp 14) (.tmp 28) _ (by rfl) w1.heap.size 46 i0 (.agg #[.slice none 0 0,.slice none 0 0]) 2 48 Tryz.underlying23 hi' hz0 hz1 hz2 rfl (by decide) (.slice pu k cu) fs.length (frC fs) (by rfl) (by first | exact y6 HE.out.2.1 (z7 HBW.out (z8 _ _)) | exact y6 HE.out.2.1 (z7 (z7 HBW.out (z8 _ _)) (z8 _ _))) ⟨_,0,none⟩ 1 1 [.slice (some ⟨_,0,none⟩) 1 1,.slice pa A.length ca] (by rfl) rfl (by first | exact za6 _ _ _ _ | exact z60 _ _ _ _ _ (by simp)) (by simp [Value.oneCell']) (by unfold maxLen;omega) (by omega) (Below.size (And.left (by assumption))) ?_;intro v' w3 hown' hgrow hat;have HW3:=qh (x8 (And.left (by assumption)) (by first | exact y6 HE.out.2.1 (z7 HBW.out (z8 _ _)) | exact y6 HE.out.2.1 (z7 (z7 HBW.out (z8 _ _)) (z8 _ _))) hgrow (Below.size (And.left (by assumption))));obtain ⟨p3,c3,rfl,_⟩:=y8 hown';have HP:Hid (zc6 w3 w1.heap.size _ (PK ++ [([(x,y)],A)])):=qh (by first | exact x62 (z7 HBW.out (z8 _ _)) HE.out.1 HE.out.2.2 hown' hgrow hat HGB.out (HL.out.call (z8 _ _)) (Nat.le_refl _) ((zj6.of_out HU.out.1 HU.out.2 HGB.out).call (z8 _ _)) | exact x62 (z7 (z7 HBW.out (z8 _ _)) (z8 _ _)) HE.out.1 HE.out.2.2 hown' hgrow hat HGB.out ((x61 _ x y _).call (z8 _ _)) HBW.out.size (((zj6.of_out HU.out.1 HU.out.2 HGB.out).call (z8 _ _)).call (z8 _ _)));have hS3:=ww2 HW3.out HC.out.1 HC.out.2;clear hown' hgrow hat)))
   all_goals
    go_wp2_with fail
    go_roundw
    case rel=>exact ⟨k+1,by go_num,by omega,by rw [HSN.out,← HFL.out];exact HP.out,HW3.out⟩
    case measure=>simp [intOf];omega
  ·obtain rfl:k=PL.length:=by omega
   have h1:=HO.out
   rw [List.take_of_length_le (Nat.le_refl _)] at h1
   rw [HRF.out] at h1
   have HOO:=qh h1
   clear h1 HO
   go_wp2_with fail
   go_ret
   exact ⟨_,rfl,HOO.out.base H1.out.size,z7 H1.out HB1.out⟩
end
end Go.Proofs.YtchndljcahjldaaGreatDoor
