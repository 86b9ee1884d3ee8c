/- Each fragment is put into the nodes of its pieces: spread of package atoms. -/
import Derived.Test.YtchndljcahjldaaGreatDoorMZNode
namespace Go.Proofs.YtchndljcahjldaaGreatDoor
section
open Go.RowKit Go.Shelf
open Go.Sort hiding Below
variable {P:List Iv}
def pLo (P:List Iv) (i:Nat):Int:=(P.getD i (0,0)).1
theorem ym9 {i:Nat} {x:Iv} (h:P[i]? = some x):pLo P i=x.1:=by unfold pLo;rw [List.getD_eq_getElem?_getD,h];rfl
theorem w70 (hP:P.Pairwise fun a b=>a.1<b.1) (z:Int) (f:Nat→Bool) (hf:∀ i,i<P.length→f i=decide (z≤pLo P i)):(List.range P.length).countP (fun i => !f i)=zo7 P z:=by
 have key:∀ m,m≤P.length→(List.range m).countP (fun i => !f i)=min m (zo7 P z):=by
  intro m
  induction m with
  | zero=>intro _;simp
  | succ m ih =>
    intro hm
    obtain ⟨x,hx⟩:∃ x,P[m]? = some x:=⟨P[m]'(by omega),by simp [show m<P.length by omega]⟩
    have hl:=y35 (z:=z) hP hx
    grind [List.range_succ,List.countP_singleton,ym9,zo7]
 rw [key _ (Nat.le_refl _)]
 grind [x32]
theorem wl6 (hP:P.Pairwise fun a b=>a.1<b.1) {a b:Nat} (hab:a≤b) (hb:b<P.length):pLo P a≤pLo P b:=by
 rcases Nat.lt_or_eq_of_le hab with h | h
 ·obtain ⟨x,hx⟩:∃ x,P[a]? = some x:=⟨P[a]'(by omega),by simp [show a<P.length by omega]⟩
  grind [ym9,Int.le_of_lt,xv2]
 grind
set_option maxRecDepth 100000 in
theorem wv3 (P:List Iv) (ps:Value) (lo:Int) (ib hb i:Nat) (w:World) (hp:v7 w ps P) (hi':i<P.length) (c0:w.cell? ⟨ib,0,none⟩=some (.int .u64 lo)) (cb:w.cell? ⟨hb,0,none⟩=some ps) :
 Calls Tryz.prog 132 #[.int .i64 i,.pointer (some ⟨ib,0,none⟩),.pointer (some ⟨hb,0,none⟩)] w (fun e w'=>e = .returned (.bool (decide (lo≤pLo P i)))∧∃ q,w'=w.drewN q):=by
 obtain ⟨x,hx⟩:∃ x,P[i]? = some x:=⟨P[i],by simp [hi']⟩
 rw [ym9 hx]
 obtain ⟨b,o,cap,rfl,d0,d1⟩:=hp.elem hx
 have i1:(0:Int)≤(i:Int):=by omega
 have i2:(i:Int)<(P.length:Int):=by omega
 clear hp hx d1
 go_enter Tryz.func132,Tryz.ntmps132
 go_wp2_with fail
 go_quiet (fail)
 go_wp2_with fail
 go_ret
 exact ⟨rfl,_,rfl⟩
set_option maxRecDepth 100000 in
theorem wv4 (P:List Iv) (ps:Value) (hi:Int) (ib hb i:Nat) (w:World) (hp:v7 w ps P) (hi':i<P.length) (c1:w.cell? ⟨ib,1,none⟩=some (.int .u64 hi)) (cb:w.cell? ⟨hb,0,none⟩=some ps) :
 Calls Tryz.prog 133 #[.int .i64 i,.pointer (some ⟨ib,0,none⟩),.pointer (some ⟨hb,0,none⟩)] w (fun e w'=>e = .returned (.bool (decide (hi+1≤pLo P i)))∧∃ q,w'=w.drewN q):=by
 obtain ⟨x,hx⟩:∃ x,P[i]? = some x:=⟨P[i],by simp [hi']⟩
 rw [ym9 hx,show decide (hi+1≤x.1)=decide (hi<x.1) from decide_eq_decide.2 (by omega)]
 obtain ⟨b,o,cap,rfl,d0,d1⟩:=hp.elem hx
 have i1:(0:Int)≤(i:Int):=by omega
 have i2:(i:Int)<(P.length:Int):=by omega
 clear hp hx d1
 go_enter Tryz.func133,Tryz.ntmps133
 go_wp2_with fail
 go_quiet (fail)
 go_wp2_with fail
 go_ret
 exact ⟨rfl,_,rfl⟩
def wv5 (k:Nat) (w:World) (e:Ending) (w':World):Prop:=e = .returned (.int .i64 k)∧Below w.heap.size w w'
theorem xw0 (P:List Iv) (z:Int) (cl:Nat) (cb:Array Value) (W0:World) (hP:P.Pairwise fun a b=>a.1<b.1) (hl:P.length≤1000000) (eg:∀ args w,(callFunc cl args).run Tryz.prog w = .ok (.enter cl args) w)
 (hc:∀ (i:Nat) (W:World),i<P.length→Below W0.heap.size W0 W→Calls Tryz.prog cl (#[.int .i64 i]++cb) W (fun e w'=>e = .returned (.bool (decide (z≤pLo P i)))∧∃ q,w'=W.drewN q)) :
 Calls Tryz.prog 84 #[.int .i64 P.length,.func (.func cl) #[] cb] W0 (wv5 (zo7 P z) W0):=by
 have hcon:=Any.sort_Search Tryz.search cl cb P.length (fun i=>decide (z≤pLo P i)) W0 eg (by omega)
  (fun m os i hi=>by
    refine (hc i _ hi (below_grown_sl _ _ _ _ (Nat.le_refl _))).mono ?_
    rintro e w' ⟨rfl,q,rfl⟩
    exact ⟨rfl,q,#[],by simp⟩)
  (fun a b hab hb h=>by
    have:=wl6 hP hab hb
    have h1:=of_decide_eq_true h
    exact decide_eq_true (by omega))
 change Calls Tryz.prog 84 _ _ _ at hcon
 rw [w70 hP z _ fun i _=>rfl] at hcon
 refine hcon.mono ?_
 rintro e w' ⟨rfl,q,os,rfl⟩
 exact ⟨rfl,below_grown_sl _ _ _ _ (Nat.le_refl _)⟩
theorem wl7 (n:Nat) (J:List Job) (V:v6) (a b:Nat) (i:Nat):inN n (J ++ [(V,a,b)]) i=if ze0 (2*n) (a+n) (b+n) i=true then inN n J i ++ [V] else inN n J i:=by grind [inN,ze0,yc7]
theorem xw1 (n:Nat) (J:List Job) (i:Nat):(inN n J i).length≤J.length:=by unfold inN;rw [List.length_map];exact List.length_filter_le _ _
theorem xf5 (P:List Iv) (F:t8):(z28 P F).length=(flatK F).length:=by
 unfold z28 flatK
 induction F with
 | nil=>rfl
 | cons x F ih=>rw [List.flatMap_cons,List.flatMap_cons,List.length_append,List.length_append,ih];unfold y36;rw [List.length_map]
set_option maxRecDepth 100000 in
set_option maxHeartbeats 8000000 in
theorem xo8 {w W:World} {g n2:Nat} (F:t8) (P:List Iv) (v ps:Value) {Pr:World→Prop} (hT:z17 w g n2 (fun _ => []) Pr W) (hn2:n2=2*P.length) (hv:z08 w v F) (hF:x9 F) (hs:midI F) (hp:v7 w ps P) (hP:P.Pairwise fun a b=>a.1<b.1) (hl:P.length≤1000000) (hne:flatK F ≠ []→1≤P.length) :
 Calls Tryz.prog 78 #[v,ps,.func (.func 79) #[.slice (some ⟨g,0,none⟩) n2 n2] #[]] W (fun e W'=>e = .returned (.tuple #[])∧z17 w g n2 (inN P.length (z28 P F)) Pr W'):=by
 obtain ⟨p,cap,rfl⟩:=hv.m.shape
 obtain ⟨pp,cp,rfl,_⟩:=hp.shape
 obtain ⟨hb,hhb⟩:∃ hb,W.heap.size=hb:=⟨_,rfl⟩
 obtain ⟨W0,hW0⟩:∃ W0,W.alloc (.cells #[.slice pp P.length cp] 42)=W0:=⟨_,rfl⟩
 have hT0:=hT.alloc hW0
 have eg1:∀ args w,(callFunc 132 args).run Tryz.prog w = .ok (.enter 132 args) w:=enters_of Tryz.func132 (by kernel_rfl) rfl
 have eg2:∀ args w,(callFunc 133 args).run Tryz.prog w = .ok (.enter 133 args) w:=enters_of Tryz.func133 (by kernel_rfl) rfl
 have HE:=qh (And.intro eg1 eg2)
 have hlen:=hs.1
 have HT0:=qh (hT0.imp (Pr':=fun W'=>Pr W'∧W'.cell? ⟨hb,0,none⟩=some (.slice pp P.length cp)) fun W' h=>⟨h.1,hhb ▸ h.2 0 _ rfl⟩)
 have HV:=qh hv.m
 have HF:=qh (And.intro hF (And.intro hs.2 hne))
 have HP:=qh (And.intro hp (And.intro hP (And.intro hl hn2)))
 have HJ:Hid (∀ k,inN P.length (z28 P (F.take k))=inN P.length (z28 P (F.take k)++([]:List Job))):=qh fun k=>by rw [List.append_nil]
 clear hT hT0 hv hF hs hp hP hl hn2 hne eg1 eg2
 go_enter Tryz.func78,Tryz.ntmps78
 go_wp2_with fail
 go_loopw [14] (fun i wr=>∃ k:Nat,i = .int .i64 k∧k≤F.length∧z17 w g n2 (inN P.length (z28 P (F.take k))) (fun W'=>Pr W'∧W'.cell? ⟨hb,0,none⟩=some (.slice pp P.length cp)) wr) (fun i _=>F.length - (intOf i).toNat)
 case atStart=>exact ⟨0,rfl,Nat.zero_le _,HT0.out.congr fun i _=>rfl⟩
 case round =>
  clear HT0
  obtain ⟨k,rfl,hk,hT⟩:=hrel
  by_cases hlt:k<F.length
  ·obtain ⟨⟨L,V⟩,hx⟩:∃ x,F[k]? = some x:=⟨F[k],by simp [hlt]⟩
   obtain ⟨b,o,cap',p1,c1,q1,d1,e,c0,c1',hf⟩:=HV.out.elem hx
   cases e
   have t0:=z6 c0 hT.low
   have t1:=z6 c1' hT.low
   have HFR:=qh (And.intro hf.at1 hf.vec)
   have HX:=qh hx
   have hll:L.length≤1000:=Nat.le_trans (zi1 (List.mem_of_getElem? hx)) HF.out.2.1
   have HPN:Hid (L ≠ []→1≤P.length):=qh fun hL=>HF.out.2.2 fun h0=>hL (by
    have:=zi1 (List.mem_of_getElem? hx)
    rw [h0] at this
    exact List.eq_nil_of_length_eq_zero (by simpa using this))
   have HJK:=qh (show z28 P (F.take (k+1))=z28 P (F.take k)++y36 P (L,V) by unfold z28;rw [List.take_add_one,hx];simp)
   have hjl:(z28 P (F.take k)).length≤1000:=by
    rw [xf5]
    have e:flatK F=flatK (F.take k)++flatK (F.drop k):=by unfold flatK;rw [← List.flatMap_append,List.take_append_drop]
    have h1:=HF.out.2.1
    rw [e,List.length_append] at h1
    omega
   obtain ⟨wE,hwE⟩:∃ wE,wr.alloc (.cells #[.slice p1 L.length c1,.slice q1 V.length d1] 46)=wE:=⟨_,rfl⟩
   obtain ⟨fb,hfb⟩:∃ fb,wr.heap.size=fb:=⟨_,rfl⟩
   obtain ⟨PB,hPB⟩:∃ PB:World→Prop,∀ W',PB W'↔(Pr W'∧W'.cell? ⟨hb,0,none⟩=some (.slice pp P.length cp))∧W'.cell? ⟨fb,0,none⟩=some (.slice p1 L.length c1)∧W'.cell? ⟨fb,1,none⟩=some (.slice q1 V.length d1):=⟨_,fun _=>Iff.rfl⟩
   have hTE:=(hT.alloc hwE).imp (Pr':=PB) fun W' h=>(hPB W').2 ⟨h.1,hfb ▸ h.2 0 _ rfl,hfb ▸ h.2 1 _ rfl⟩
   have s0:=((hPB _).1 hTE.now).2.1
   have HPB:=qh hPB;clear hPB
   have HTE:=qh hTE
   have i1:(0:Int)≤(k:Int):=by omega
   have i2:(k:Int)<(F.length:Int):=by omega
   clear hf hx c0 c1' hT hTE
   go_wp2_with fail
   clear hwE s0 t0 t1
   go_loopw [21] (fun i wr=>∃ j:Nat,i = .int .i64 j∧j≤L.length∧z17 w g n2 (inN P.length (z28 P (F.take k)++(y36 P (L,V)).take j)) PB wr) (fun i _=>L.length - (intOf i).toNat)
   case atStart=>exact ⟨0,rfl,Nat.zero_le _,by rw [List.take_zero,List.append_nil];exact HTE.out⟩
   case round =>
    clear HTE
    obtain ⟨j,rfl,hj,hT⟩:=hrel
    by_cases hlt2:j<L.length
    ·obtain ⟨⟨y1,y2⟩,hy⟩:∃ y,L[j]? = some y:=⟨L[j],by simp [hlt2]⟩
     obtain ⟨b0,o0,cap0,e0,z0,z1⟩:=HFR.out.1.elem hy
     cases e0
     have t0:=z6 z0 hT.low
     have t1:=z6 z1 hT.low
     obtain ⟨wE,hwE⟩:∃ wE,wr.alloc (.cells #[.int .u64 y1,.int .u64 y2] 65)=wE:=⟨_,rfl⟩
     obtain ⟨ib,hib⟩:∃ ib,wr.heap.size=ib:=⟨_,rfl⟩
     have hTE:=(hT.alloc hwE).imp (Pr':=fun W'=>PB W'∧W'.cell? ⟨ib,0,none⟩=some (.int .u64 y1)∧W'.cell? ⟨ib,1,none⟩=some (.int .u64 y2)) fun W' h=>⟨h.1,hib ▸ h.2 0 _ rfl,hib ▸ h.2 1 _ rfl⟩
     have HTE:=qh hTE
     have cb:=((HPB.out _).1 hTE.now.1).1.2
     obtain ⟨A,hA⟩:∃ A,zo7 P y1=A:=⟨_,rfl⟩
     obtain ⟨B,hB⟩:∃ B,zo7 P (y2+1)=B:=⟨_,rfl⟩
     have K1:=qh (hA ▸ xw0 P y1 132 #[.pointer (some ⟨ib,0,none⟩),.pointer (some ⟨hb,0,none⟩)] wE HP.out.2.1 HP.out.2.2.1 HE.out.1 fun i W hi hb'=>wv3 P _ y1 ib hb i W (HP.out.1.call (hTE.low.trans (hb'.mono hTE.low.size))) hi (z6 hTE.now.2.1 hb') (z6 cb hb'))
     have HAB:=qh (And.intro hA hB)
     have HY:=qh hy
     have i1:(0:Int)≤(j:Int):=by omega
     have i2:(j:Int)<(L.length:Int):=by omega
     clear hT hTE hy z0 z1 hA hB
     go_wp2_with fail
     refine K1.out.mono ?_
     rintro e w1 ⟨rfl,h1⟩
     have hT1:=HTE.out.below h1
     have HT1:=qh hT1
     clear cb h1 HTE
     have cb:=((HPB.out _).1 hT1.now.1).1.2
     have K2:=qh (HAB.out.2 ▸ xw0 P (y2+1) 133 #[.pointer (some ⟨ib,0,none⟩),.pointer (some ⟨hb,0,none⟩)] w1 HP.out.2.1 HP.out.2.2.1 HE.out.2 fun i W hi hb'=>wv4 P _ y2 ib hb i W (HP.out.1.call (hT1.low.trans (hb'.mono hT1.low.size))) hi (z6 hT1.now.2.2 hb') (z6 cb hb'))
     clear hT1
     go_wp2_with fail
     refine K2.out.mono ?_
     rintro e w2 ⟨rfl,h1⟩
     have hT2:=HT1.out.below h1
     have HT2:=qh hT2
     clear cb h1 HT1
     have f0:=((HPB.out _).1 hT2.now.1).2.1
     have f1:=((HPB.out _).1 hT2.now.1).2.2
     have hLne:L ≠ []:=by rintro rfl;simp at hlt2
     have hAB:A≤B∧B≤P.length:=by
      rw [← HAB.out.1,← HAB.out.2]
      have:=z13 L (HF.out.1 _ (List.mem_of_getElem? HX.out)).1.can (y1,y2) (List.mem_of_getElem? HY.out)
      exact ⟨y83 (by dsimp only at this;omega),x32 _ _⟩
     have KD:=qh (wu7 hT2 HP.out.2.2.2 HP.out.2.2.1 (fun i _=>Nat.le_trans (xw1 _ _ _) (by
      have h1:((y36 P (L,V)).take j).length≤j:=by rw [List.length_take];omega
      rw [List.length_append]
      omega)) (some ⟨b0,o0,none⟩) L.length c1 HFR.out.2 hAB.1 hAB.2 (HPN.out hLne))
     have HSN:=qh (show z28 P (F.take k)++(y36 P (L,V)).take (j+1)=(z28 P (F.take k)++(y36 P (L,V)).take j) ++ [(V,A,B)] by
      rw [List.append_assoc,List.take_add_one]
      congr 2
      unfold y36
      rw [List.getElem?_map,HY.out,← HAB.out.1,← HAB.out.2]
      rfl)
     clear hT2 hLne hAB
     go_wp2_with fail
     refine KD.out.mono ?_
     rintro e w3 ⟨rfl,hT3⟩
     have HT3:=qh hT3;clear hT3
     go_wp2_with fail
     go_roundw
     case rel=>exact ⟨j+1,by go_num,by omega,(HT3.out.congr fun i _=>by rw [HSN.out,wl7,← HP.out.2.2.2]).imp fun _ h=>h.1⟩
     case measure=>simp [intOf] <;> omega
    ·obtain rfl:j=L.length:=by omega
     have e:(y36 P (L,V)).take L.length=y36 P (L,V):=List.take_of_length_le (by unfold y36;rw [List.length_map];exact Nat.le_refl _)
     rw [e,← HJK.out] at hT
     have HT:=qh hT;clear hT e
     go_wp2_with fail
     go_roundw
     case rel=>exact ⟨k+1,by go_num,by omega,HT.out.imp fun _ h=>((HPB.out _).1 h).1⟩
     case measure=>simp [intOf] <;> omega
  ·obtain rfl:k=F.length:=by omega
   rw [List.take_length] at hT
   have HT:=qh hT;clear hT
   go_wp2_with fail
   go_end0
   exact ⟨rfl,HT.out.imp fun _ h=>h.1⟩
end
section
open Go.RowKit
def avL (g gk n:Nat) (sv:Nat→Value) (k:Nat):Prop:=k=gk∨avT g n sv k
structure xw2 (g gk n np:Nat) (J:List Job) (sv:Nat→Value) (T:Nat→List z92):Prop where
 off:∀ i,i<n→(sv i).ownBlock≠some g∧(sv i).ownBlock≠some gk
 one:∀ i j b,i<n→j<n→(sv i).ownBlock=some b→(sv j).ownBlock=some b→i=j
 ne:gk≠g
 tv:∀ i,i<n→(T i).map (·.2)=inN np J i
structure zd2 (w:World) (g gk n np:Nat) (J:List Job) (sv:Nat→Value) (T:Nat→List z92) (kv:Nat→Value) (Pr:World→Prop) (a b:Nat) (W:World):Prop where
 row:W.ownsRow w.heap.size 23 1 (.slice (some ⟨g,0,none⟩) n n) n ((List.range n).map sv)
 rows:∀ i,a≤i→i<n→W.ownsRow w.heap.size 46 2 (sv i) (T i).length (frC ((T i).map (·.1)))
 el:∀ i,a≤i→i<n→∀ e ∈ T i,j9 W (avL g gk n sv) (xe5 e.1 e.2)
 krow:W.ownsRow w.heap.size 44 1 (.slice (some ⟨gk,0,none⟩) n n) n ((List.range n).map kv)
 kel:∀ i,i<b→i<n→j9 W (avL g gk n sv) (fun W'=>z30 W' (kv i) (knN np J i)∧z05 W' gk (kv i) (nsV (knN np J i)))
 pr:j9 W (avL g gk n sv) Pr
 lt:∀ k,avL g gk n sv k→w.heap.size≤k∧k<W.heap.size
 low:Below w.heap.size w W
section
variable {w W W1:World} {g gk n np a b:Nat} {J:List Job} {sv kv:Nat→Value} {T:Nat→List z92} {Pr:World→Prop}
theorem zd2.below (h:zd2 w g gk n np J sv T kv Pr a b W) (hb:Below W.heap.size W W1):zd2 w g gk n np J sv T kv Pr a b W1:=
 ⟨y6 h.row hb,fun i h1 h2=>y6 (h.rows i h1 h2) hb,fun i h1 h2 e he=>o3 (h.el i h1 h2 e he) hb,y6 h.krow hb,fun i h1 h2=>o3 (h.kel i h1 h2) hb,o3 h.pr hb,
  fun k hk=>⟨(h.lt k hk).1,Nat.lt_of_lt_of_le (h.lt k hk).2 hb.size⟩,h.low.trans (hb.mono h.low.size)⟩
theorem zd2.cell (h:zd2 w g gk n np J sv T kv Pr a b W) {i:Nat} (hi:i<n):W.cell? ⟨g,i,none⟩=some (sv i):=by
 rw [h.row.cellAt i (by omega)]
 simp [hi]
theorem zd2.kcell (h:zd2 w g gk n np J sv T kv Pr a b W) {i:Nat} (hi:i<n):W.cell? ⟨gk,i,none⟩=some (kv i)∧W.frozen? ⟨gk,i,none⟩=false:=by
 refine ⟨?_,h.krow.frozenAt i⟩
 rw [h.krow.cellAt i (by omega)]
 simp [hi]
theorem wl8 (h:zd2 w g gk n np J sv T kv Pr a b W) (hs:xw2 g gk n np J sv T) (ha:a<n) {k:Nat} {u:Value} {K:v6} (hl:(T a).length≤99000) (ho:u.oneCell'=true)
 (hk0:W.cell? ⟨k,0,none⟩=some (.int .u64 0)) (hk1:W.cell? ⟨k,1,none⟩=some (.int .u64 18446744073709551615)) (hk:¬ avL g gk n sv k) (hu:j9 W (avL g gk n sv) (fun W'=>z30 W' u K)) (ty:TypeId) :
 ∃ v' W1,(Builtin.append_ #[23,23] ty #[sv a,.slice (some ⟨W.heap.size,0,none⟩) 1 1]).run Tryz.prog (W.alloc (.cells #[.slice (some ⟨k,0,none⟩) 1 1,u] 46)) = .ok v' W1∧(∃ g' c',v' = .slice (some ⟨g',0,none⟩) ((T a).length+1) c') ∧
  z08 W1 v' ((inN np J a).map (fun V=>(zh1,V)) ++ [(zh1,K)])∧zd2 w g gk n np J sv T kv Pr (a+1) b W1:=by
 obtain ⟨i0,hi',hz0,hz1,hz2⟩:=info_parts zw9
 have hbn:=z8 W (.cells #[.slice (some ⟨k,0,none⟩) 1 1,u] 46)
 have hrow:=y6 (h.rows a (Nat.le_refl _) ha) hbn
 obtain ⟨v',W1,hr,h1,h2,_,h3⟩:=run_append_own_at (P:=Tryz.prog) (W.alloc (.cells #[.slice (some ⟨k,0,none⟩) 1 1,u] 46)) w.heap.size 23 ty 46 i0 (.agg #[.slice none 0 0,.slice none 0 0]) 2 48 Tryz.underlying23 hi' hz0 hz1 hz2 rfl (by decide) (sv a) (T a).length (frC ((T a).map (·.1))) hrow ⟨W.heap.size,0,none⟩ 1 1 [.slice (some ⟨k,0,none⟩) 1 1,u] rfl (za6 _ _ _ _) (fun x hx=>by
  rcases List.mem_cons.1 hx with rfl | hx
  ·rfl
  ·obtain rfl:=List.mem_singleton.1 hx;exact ho) (by unfold maxLen;omega) (by omega) (Nat.le_trans h.low.size hbn.size)
 obtain ⟨g',c',e⟩:=ownsRow_succ h1
 have hoff:=hs.off a ha
 have k1:y5 (fun j=>(sv a).ownBlock=some j) W W1:=(y5.alloc _ W _).trans (y5.of_grown h2 fun r hr=>hr)
 have hq:∀ j,j<W.heap.size→(sv a).ownBlock=some j→avL g gk n sv j:=fun j _ hj => .inr (.inr ⟨a,ha,hj⟩)
 have mv:∀ {P:World→Prop},j9 W (avL g gk n sv) P→j9 W1 (avL g gk n sv) P:=fun hP=>hP.mv k1 hq fun j hj => .inl hj
 have hk':¬ (sv a).ownBlock=some k:=fun e=>hk (hq k (World.block_lt_of_cell? W _ hk0) e)
 have c0:W1.cell? ⟨k,0,none⟩=some (.int .u64 0):=k1.cell hk0 hk'
 have c1:W1.cell? ⟨k,1,none⟩=some (.int .u64 18446744073709551615):=k1.cell hk1 hk'
 refine ⟨v',W1,hr,⟨g',c',e⟩,?_,⟨z75 k1 h.row fun j hj hj2=>hoff.1 (by rw [hj2];exact hj.symm),fun i hi1 hi2=>z75 k1 (h.rows i (by omega) hi2) fun j hj hj2=>by
  have:=hs.one i a j hi2 ha hj hj2;omega,fun i hi1 hi2 x hx=>mv (h.el i (by omega) hi2 x hx),z75 k1 h.krow fun j hj hj2=>hoff.2 (by rw [hj2];exact hj.symm),fun i hi1 hi2=>mv (h.kel i hi1 hi2),mv h.pr,
  fun j hj=>⟨(h.lt j hj).1,Nat.lt_of_lt_of_le (h.lt j hj).2 k1.size⟩,h.low.trans (k1.below h.low.size fun j hj hj2=>by have:=(h.lt j (hq j (by have:=h.low.size;omega) hj2)).1;omega)⟩⟩
 have hfr:W1.ownsRow w.heap.size 46 2 v' ((T a).map (·.1) ++ [((.slice (some ⟨k,0,none⟩) 1 1,u):Value × Value)]).length (frC ((T a).map (·.1) ++ [(.slice (some ⟨k,0,none⟩) 1 1,u)])):=by
  rw [List.length_append,List.length_map,x58]
  exact h1
 have e2:(inN np J a).map (fun V=>(zh1,V)) ++ [(zh1,K)]=(T a).map (fun e=>(zh1,e.2)) ++ [(zh1,K)]:=by rw [← hs.tv a ha,List.map_map];rfl
 rw [e2]
 refine ⟨⟨⟨_,zc6.knoAt hfr,by simp,fun i f x hf hx => ?_⟩,by simp;omega⟩,y10 hfr⟩
 by_cases hi:i<(T a).length
 ·rw [List.getElem?_append_left (by simpa using hi),List.getElem?_map] at hf
  rw [List.getElem?_append_left (by simpa using hi),List.getElem?_map] at hx
  have he:(T a)[i]? = some (T a)[i]:=by simp [hi]
  rw [he] at hf hx
  obtain rfl:=Option.some.inj hf
  obtain rfl:=Option.some.inj hx
  have:=(mv (h.el a (Nat.le_refl _) ha _ (List.getElem_mem hi))).now
  exact ⟨this.1,zu8.all,this.2.1,this.2.2⟩
 ·rw [List.getElem?_append_right (by simp;omega)] at hf hx
  have h0:i - (List.map (fun x:z92=>x.1) (T a)).length=0:=by
   have:=(List.getElem?_eq_some_iff.1 hf).1
   simpa using this
  have h0':i - (List.map (fun e:z92=>(zh1,e.2)) (T a)).length=0:=by simpa using h0
  rw [h0] at hf;rw [h0'] at hx
  obtain rfl:=Option.some.inj hf
  obtain rfl:=Option.some.inj hx
  refine ⟨⟨_,_,rfl,by simp [zh1],fun _=>⟨k,0,rfl,fun i x hx => ?_⟩⟩,zu8.all,a7 _ _ _ (Nat.le_refl _),(mv hu).now⟩
  match i,hx with
  | 0,hx =>
    obtain rfl:(0,UM)=x:=by simpa [zh1] using hx
    exact ⟨c0,c1⟩
theorem wl9 (h:zd2 w g gk n np J sv T kv Pr a b W) (hs:xw2 g gk n np J sv T) (hb:b<n) {u:Value} (hu:j9 W (avL g gk n sv) (fun W'=>z30 W' u (knN np J b)∧z05 W' gk u (nsV (knN np J b)))):zd2 w g gk n np J sv T (upd kv b u) Pr a (b+1) (W.setCell ⟨gk,b,none⟩ u):=by
 have k1:y5 (fun j=>j=gk) W (W.setCell ⟨gk,b,none⟩ u):=z36 _ _ _ _
 have hq:∀ j,j<W.heap.size→j=gk→avL g gk n sv j:=fun j _ hj => .inl hj
 have mv:∀ {P:World→Prop},j9 W (avL g gk n sv) P→j9 (W.setCell ⟨gk,b,none⟩ u) (avL g gk n sv) P:=fun hP=>hP.mv k1 hq fun j hj => .inl hj
 refine ⟨z75 k1 h.row fun j hj hj2=>hs.ne (hj2.symm.trans (Option.some.inj hj).symm),fun i hi1 hi2=>z75 k1 (h.rows i hi1 hi2) fun j hj hj2=>(hs.off i hi2).2 (by rw [hj,hj2]),fun i hi1 hi2 x hx=>mv (h.el i hi1 hi2 x hx),?_,fun i hi1 hi2 => ?_,mv h.pr,
  fun j hj=>⟨(h.lt j hj).1,Nat.lt_of_lt_of_le (h.lt j hj).2 k1.size⟩,h.low.trans (k1.below h.low.size fun j hj hj2=>by have:=(h.lt gk (.inl rfl)).1;omega)⟩
 ·rw [← xv4]
  exact (h.krow.stored b u).1
 ·by_cases e:i=b
  ·subst e;rw [zy6];exact mv hu
  ·rw [zo4 _ _ e];exact mv (h.kel i (by omega) hi2)
end
attribute [-go_sem] Builtin.append_
def wx3 (w W:World) (np:Nat) (J:List Job) (Pr:World→Prop) (e:Ending) (W':World):Prop:=
 ∃ gk,e = .returned (.slice (some ⟨gk,np,none⟩) np np)∧(Below w.heap.size w W'∧Pr W')∧W.heap.size≤gk∧gk<W'.heap.size∧∀ q,q<np→∃ u,W'.cell? ⟨gk,np+q,none⟩=some u∧z30 W' u (knN np J (q+np))∧z05 W' gk u (nsV (knN np J (q+np)))
theorem xp0 {w W:World} {g n np:Nat} {J:List Job} {Pr:World→Prop} (h:z17 w g n (inN np J) Pr W) {W1:World} (hrow:W1.ownsRow W.heap.size 44 1 (.slice (some ⟨W.heap.size,0,none⟩) n n) n (List.replicate n (.slice none 0 0))) (hb:Below W.heap.size W W1) :
 ∃ sv T,xw2 g W.heap.size n np J sv T∧zd2 w g W.heap.size n np J sv T (fun _ => .slice none 0 0) Pr 1 1 W1:=by
 obtain ⟨sv,T,h1,h2,h3⟩:=h
 have hlt:=(hrow.lt _ rfl).2
 have hav:=h1.av_lt
 refine ⟨sv,T,⟨fun i hi=>⟨h1.off i hi,fun e => ?_⟩,h1.one,?_,h2⟩,⟨y6 h1.row hb,fun i _ hi=>y6 (h1.rows i hi) hb,fun i _ hi e he => ?_,?_,fun i hi _ => ?_,?_,fun k hk => ?_,h1.low.trans (hb.mono h1.low.size)⟩⟩
 ·have:=(g7 (h1.rows i hi) _ e).2;omega
 ·have:=h1.g_lt.2;omega
 ·exact (h1.el i hi e he).mv (y5.of_below (fun _=>False) hb) (fun _ _ h=>h.elim) fun k hk=>by
   rcases hk with hk | hk
   ·exact .inr (by omega)
   ·exact .inl hk
 ·rw [show (List.range n).map (fun _=>Value.slice none 0 0)=List.replicate n (.slice none 0 0) from by rw [List.map_const',List.length_range]]
  exact p8 hrow h1.low.size
 ·obtain rfl:i=0:=by omega
  rw [wm2]
  exact ⟨fun _=>False,fun k hk=>hk.elim,fun W' _=>⟨x97 W',none,0,rfl,Nat.zero_le _,fun h=>absurd rfl h⟩⟩
 ·exact h3.mv (y5.of_below (fun _=>False) hb) (fun _ _ h=>h.elim) fun k hk=>by
   rcases hk with hk | hk
   ·exact .inr (by omega)
   ·exact .inl hk
 ·rcases hk with rfl | hk
  ·exact ⟨h1.low.size,hlt⟩
  ·exact ⟨(hav k hk).1,Nat.lt_of_lt_of_le (hav k hk).2 hb.size⟩
theorem xf6 {w W W0:World} {g gk n np i:Nat} {J:List Job} {sv kv:Nat→Value} {T:Nat→List z92} {Pr:World→Prop} (h:zd2 w g gk n np J sv T kv Pr i i W) (hn:n=2*np) (hi:n≤i) (hg:W0.heap.size=gk):wx3 w W0 np J Pr (.returned (.slice (some ⟨gk,np,none⟩) np np)) W:=by
 have l2:=(h.lt gk (.inl rfl)).2
 refine ⟨gk,rfl,⟨h.low,h.pr.now⟩,Nat.le_of_eq hg,l2,fun q hq=>⟨kv (np+q),(h.kcell (by omega)).1,?_⟩⟩
 rw [Nat.add_comm q np]
 exact (h.kel (np+q) (by omega) (by omega)).now
theorem wv6 {w W:World} {g gk n np i:Nat} {J:List Job} {sv kv:Nat→Value} {T:Nat→List z92} {Pr:World→Prop} {v':Value} (hd:zz9 w) (h:zd2 w g gk n np J sv T kv Pr (i+1) i W) (hS:xw2 g gk n np J sv T) (hv:z08 W v' (y81 np J i)) (hJ:zy7 np J) (h1:1≤i) (hi:i<n) (hn:n=2*np)
 (hs:∀ q,q<np→((J.filter (zm2 q)).map (·.1)).length≤12∧zc7 ((J.filter (zm2 q)).map (·.1))≤300∧zc8 ((J.filter (zm2 q)).map (·.1))≤405) :
 Calls Tryz.prog 135 #[v',.int .u64 0] W (fun e W'=>∃ u,e = .returned u∧(∃ p m c,u = .slice p m c)∧(W'.cell? ⟨gk,i,none⟩=some (kv i)∧W'.frozen? ⟨gk,i,none⟩=false)∧zd2 w g gk n np J sv T (upd kv i u) Pr (i+1) (i+1) (W'.setCell ⟨gk,i,none⟩ u)):=by
 refine (wo7 (y81 np J i) _ 0 W (hd.here h.low) hv (y82 hJ) (wm3 hJ h1 (hn ▸ hi) hs)).mono ?_
 rw [wv8 hJ (hn ▸ hi)]
 rintro e WC ⟨u,rfl,hu,hsu,hC⟩
 obtain ⟨pV,cV,e⟩:=hu.m.shape
 have hLC:=h.below hC
 have hn2:=yj9 (av:=avL g gk n sv) hu hsu fun q hq=>(h.lt q hq).2
 exact ⟨u,rfl,⟨_,_,_,e⟩,hLC.kcell hi,wl9 hLC hS hi (hn2.1.and (hn2.2 gk (Nat.le_of_lt (h.lt gk (.inl rfl)).2)))⟩
set_option maxRecDepth 100000 in
set_option maxHeartbeats 8000000 in
theorem xp1 {w W:World} {g n2 np:Nat} {J:List Job} {Pr:World→Prop} (h:z17 w g n2 (inN np J) Pr W) (hd:zz9 w) (hn2:n2=2*np) (hn:np≤1000000) (hJ:zy7 np J) (hl:J.length≤50000)
 (hs:∀ q,q<np→((J.filter (zm2 q)).map (·.1)).length≤12∧zc7 ((J.filter (zm2 q)).map (·.1))≤300∧zc8 ((J.filter (zm2 q)).map (·.1))≤405) :
 Calls Tryz.prog 80 #[.slice (some ⟨g,0,none⟩) n2 n2] W (wx3 w W np J Pr):=by
 obtain ⟨i0,hi',hz0,hz1,hz2⟩:=info_parts xq6
 obtain ⟨W1,hmk,hown,hgr⟩:=run_makeSlice_full (P:=Tryz.prog) W W.heap.size 54 44 i0 (.slice none 0 0) 1 Tryz.underlying54 hi' hz0 hz1 .i64 .i64 n2 (by omega) (by rw [hz2];omega) (by unfold maxLen;omega) (Nat.le_refl _)
 have h1:Below W.heap.size W W1:=(y5.of_grown (q:=fun _=>False) hgr (fun r e=>by cases e)).below (Nat.le_refl _) fun _ _ h=>h
 rw [show (Value.slice none 0 0).cells=#[.slice none 0 0] from rfl,Nat.mul_one,toList_madeCells_one] at hown
 obtain ⟨sv,T,hLS,hLI⟩:=xp0 h hown h1
 obtain ⟨gk,hgk⟩:∃ gk,W.heap.size=gk:=⟨_,rfl⟩
 rw [hgk] at hmk hLS hLI
 have HS:=qh hLS
 have HI:=qh hLI
 have HN:=qh (And.intro hn2 (And.intro hn (And.intro hJ (And.intro hl hs))))
 have HD:=qh hd
 have h8:n2≤2000000:=by omega
 have HTL:Hid (∀ i,i<n2→(T i).length≤99000):=qh fun i hi=>by
  have h1:=xw1 np J i
  rw [← hLS.tv i hi,List.length_map] at h1
  omega
 clear hown hgr h1 hLS hLI h hd hn2 hn hJ hl hs
 go_enter Tryz.func80,Tryz.ntmps80
 go_wp2_with fail
 go_loopw [4] (fun i wr=>∃ (k:Nat) (kv:Nat→Value),i = .int .i64 k∧1≤k∧k≤max 1 n2∧zd2 w g gk n2 np J sv T kv Pr k k wr) (fun i _=>n2 - (intOf i).toNat)
 case atStart=>exact ⟨1,_,rfl,Nat.le_refl _,by omega,HI.out⟩
 case round =>
  clear HI
  obtain ⟨i,kv,rfl,hi1,hi2,hL⟩:=hrel
  by_cases hlt:i<n2
  ·obtain ⟨j,hj⟩:∃ j,i / 2=j:=⟨_,rfl⟩
   have hji:j<i:=by omega
   have e2:(i:Int).tdiv 2=(j:Int):=by rw [za0,hj]
   have hj2:j≤2000000:=by omega
   obtain ⟨⟨hkv,_⟩,hkh⟩:=And.intro (hL.kel j hji (by omega)).now (hL.kel j hji (by omega))
   obtain ⟨pu,cu,eu⟩:=hkv.m.shape
   have ci:=hL.cell (i:=i) hlt
   have ck:=(hL.kcell (i:=j) (by omega)).1
   have fk:=(hL.kcell (i:=i) hlt).2
   obtain ⟨pS,cS,eS,_⟩:=y8 (hL.rows i (Nat.le_refl _) hlt)
   rw [eu] at ck hkh
   obtain ⟨nS,hnS⟩:∃ nS,(T i).length=nS:=⟨_,rfl⟩
   rw [hnS] at eS
   rw [eS] at ci
   have HES:=qh (And.intro eS hnS);clear eS hnS
   have HL:=qh hL
   have HK:=qh hkh
   have HJ:=qh hj
   have i1:(0:Int)≤(i:Int):=by omega
   have i2:(i:Int)<(n2:Int):=by omega
   have i3:(j:Int)<(n2:Int):=by omega
   have i4:(0:Int)≤(j:Int):=by omega
   have ew:IntKind.i64.wrap (j:Int)=(j:Int):=IntWalk.i64_in _ (by omega)
   have HASK:=qh (show (inN np J i).map (fun V=>(zh1,V)) ++ [(zh1,knN np J j)]=y81 np J i by unfold y81;rw [hj])
   clear hL hkh hkv hj
   go_wp2_with fail
   go_region_with (first
    | (go_at_call 134;refine (xv5 _ _ _ _).mono ?_;rintro e WA ⟨k,rfl,⟨hk1,hk2,hk3,hk4⟩,hA⟩;have HA:Hid (Below wr.heap.size wr WA):=qh (by first | exact hA | exact z7 (Below.refl _ _).drew hA);clear hA;have ci:=z6 ci HA.out;have cj:=z6 ci (z8 WA (.cells #[.slice (some ⟨k,0,none⟩) 1 1,.slice pu (knN np J j).length cu] 46));have hdA:=(Below.refl WA.heap.size WA).drew;have hkl:¬ avL g gk n2 sv k:=fun ha=>(by have h1:=(HL.out.lt k ha).2;have h2:wr.heap.size≤k:=hk1;omega)
       obtain ⟨vA,WB,hrA,⟨gA,cA,rfl⟩,hkA,hLB⟩:=wl8 (HL.out.below HA.out) HS.out hlt (k:=k) (HTL.out i hlt) rfl hk3 hk4 hkl ((o3 HK.out HA.out).imp fun _ h=>h.1) 23
       rw [HES.out.1,HES.out.2] at hrA
       rw [HES.out.2] at hkA
       have HX:=qh (And.intro hkA hLB);clear hkA hLB hk1 hk2 hk3 hk4 hkl hdA)
    | (go_at_call 135;refine (wv6 HD.out HX.out.2 HS.out (HASK.out ▸ HX.out.1) HN.out.2.2.1 hi1 hlt HN.out.1 HN.out.2.2.2.2).mono ?_;rintro e WC ⟨_,rfl,⟨pV,mV,cV,rfl⟩,⟨cu1,cu2⟩,hP⟩;have HP:=qh hP;clear hP))
   all_goals
    go_wp2_with fail
    go_roundw
    case rel=>exact ⟨i+1,_,by go_num,by omega,by omega,HP.out⟩
    case measure=>simp [intOf] <;> omega
  ·have HE:=qh hL;clear hL
   have e1:(n2:Int).tdiv 2=(np:Int):=by rw [za0,HN.out.1];omega
   have e3:¬ (i:Int)<(n2:Int):=by omega
   have hnp:np≤2000000:=by have:=HN.out.2.1;omega
   have hnn:np≤n2:=by have:=HN.out.1;omega
   go_wp2_with fail
   all_goals
    go_ret
    first
    | (have e4:n2 - np=np:=by have:=HN.out.1;omega
       rw [e4]
       exact xf6 HE.out HN.out.1 (by omega) hgk)
    | (have h0:np=0:=by have:=HN.out.1;omega
       subst h0
       exact xf6 HE.out HN.out.1 (by omega) hgk)
end
end Go.Proofs.YtchndljcahjldaaGreatDoor
