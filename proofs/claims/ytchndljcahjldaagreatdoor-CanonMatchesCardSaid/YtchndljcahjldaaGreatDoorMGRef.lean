/- The reference of layer 12: sameMembers, Starts, Pieces. base. -/
import Derived.Test.YtchndljcahjldaaGreatDoorMGMath
namespace Go.Proofs.YtchndljcahjldaaGreatDoor
open Go.RowKit
variable {F:t8} {x y:Int}
theorem zz8 {W w1 w2:World} {p0:Addr} {a0:Value} (h:Below W.heap.size W w1∧w1.cell? p0=some a0) (hb:Below w1.heap.size w1 w2):Below W.heap.size W w2∧w2.cell? p0=some a0:=⟨z7 h.1 hb,z6 h.2 hb⟩
def y94 (F:t8) (x y:Int):Bool:=decide (zi9 F x=zi9 F y)
theorem wa2 (h:∀ (j:Nat) z,F[j]? = some z→y9 z.1 x=y9 z.1 y):y94 F x y=true:=
 decide_eq_true (List.map_congr_left fun z hz=>by
  obtain ⟨j,hj⟩:=List.mem_iff_getElem?.1 hz
  exact h j z hj)
theorem xy7 {j:Nat} {z:List Iv × v6} (hj:F[j]? = some z) (h:y9 z.1 x≠y9 z.1 y):y94 F x y=false:=
 decide_eq_false fun e=>h (zm6 e z (List.mem_of_getElem? hj))
set_option maxRecDepth 100000 in
set_option maxHeartbeats 4000000 in
theorem yc0 (F:t8) (v:Value) (x y:Int) (w:World) (hv:z85 w v F):Calls Tryz.prog 207 #[v,.int .u64 x,.int .u64 y] w (q8 (y94 F x y) w):=by
 obtain ⟨p,cap,rfl⟩:=hv.shape
 have hlen:=hv.len
 have HV:=qh hv;clear hv
 have KL:=qh zi2
 go_enter Tryz.func207,Tryz.ntmps207
 go_wp2_with fail
 go_loopw [7] (fun i wr=>∃ k:Nat,i = .int .i64 k∧k≤F.length∧(∀ (j:Nat) z,j<k→F[j]? = some z→y9 z.1 x=y9 z.1 y)∧Below w.heap.size w wr) (fun i _=>F.length - (intOf i).toNat)
 case atStart=>exact ⟨0,rfl,Nat.zero_le _,fun j z hj=>absurd hj (Nat.not_lt_zero j),Below.refl _ _⟩
 case round =>
  obtain ⟨k,rfl,hk,hbef,hb⟩:=hrel
  have HBF:=qh hbef;clear hbef
  have HB:=qh hb;clear hb
  by_cases hlt:k<F.length
  ·obtain ⟨⟨L,V⟩,hx⟩:∃ x,F[k]? = some x:=⟨F[k],by simp [hlt]⟩
   obtain ⟨b,o,cap',q,c,q2,c2,e,c0,_,ha⟩:=(HV.out.call HB.out).elem hx
   cases e
   have K:=qh (fun t W (hb:Below wr.heap.size wr W)=>KL.out L (.slice q L.length c) t W (ha.at1.call hb))
   have HX:=qh hx
   have HS:=qh (zz8 ⟨Below.refl wr.heap.size wr,c0⟩ (Below.refl _ _).drew)
   have i1:(0:Int)≤(k:Int):=by omega
   have i2:(k:Int)<(F.length:Int):=by omega
   clear ha hx
   go_wp2_with fail
   go_region_held3 (fun w'=>Below wr.heap.size wr w'∧w'.cell? ⟨b,o+k*2,none⟩=some (.slice q L.length c))
    (first
      | exact zz8 (by assumption) (Hid.out (by assumption))
      | exact HS.out
      | assumption)
    ((go_at_call 51;refine (K.out _ _ (And.left (by assumption))).mono ?_;rintro en w' ⟨rfl,h'⟩;have h':=qh h'))
   all_goals
    rename_i hE
    have HE:=qh (z7 HB.out hE.1)
    clear hE
    have HQ:Hid (y9 L x=y9 L y→∀ (j:Nat) z,j<k+1→F[j]? = some z→y9 z.1 x=y9 z.1 y):=qh fun hq j z hj hz=>by
     rcases Nat.lt_or_eq_of_le (Nat.le_of_lt_succ hj) with h1 | rfl
     ·exact HBF.out j z h1 hz
     ·obtain rfl:=Option.some.inj (HX.out.symm.trans hz);exact hq
    have HZ:Hid (y9 L x≠y9 L y→y94 F x y=false):=qh fun hq=>xy7 HX.out hq
    clear HX K HS
    generalize y9 L x=bx at *
    generalize y9 L y=by' at *
    cases bx <;> cases by'
    all_goals
     go_wp2_with fail
     first
      | (go_ret;exact ⟨by rw [HZ.out (by decide)];rfl,HE.out⟩)
      | (go_roundw
         case rel=>exact ⟨k+1,by go_num,by omega,HQ.out rfl,HE.out⟩
         case measure=>simp [intOf];omega)
  ·obtain rfl:k=F.length:=by omega
   have HZ:Hid (y94 F x y=true):=qh (wa2 fun j z hz=>HBF.out j z (List.getElem?_eq_some_iff.1 hz).1 hz)
   go_wp2_with fail
   go_ret
   exact ⟨by rw [HZ.out];rfl,HB.out⟩
theorem wx8:(Tryz.prog.info? 42).map (fun i=>(i.zero,i.size,i.bytes))=some (some (.slice none 0 0),1,24):=by kernel_rfl
def za3 (F:t8) (s:Int):Bool:=decide (s=0) || !y94 F (s - 1) s
theorem xi2 (F:t8):(r6 UM (flatK F)).filter (za3 F)=r8 F:=rfl
theorem xy8 {S:List Int} {k:Nat} (h:S[k]? = some x):(S.take (k+1)).filter (za3 F)=(S.take k).filter (za3 F)++if za3 F x=true then [x] else []:=by
 rw [List.take_add_one,h,List.filter_append]
 simp [List.filter_cons]
set_option maxRecDepth 100000 in
set_option maxHeartbeats 8000000 in
theorem yc1 (F:t8) (v:Value) (w:World) (hv:z85 w v F) (hF:x9 F) (hs:z58 F):Calls Tryz.prog 142 #[v] w (zx9 (r8 F) w):=by
 obtain ⟨i0,hi',hz0,hz1,hz2⟩:=info_parts wx8
 obtain ⟨j0,hj',hy0,hy1,hy2⟩:=info_parts yl2
 have hlen:=hs.1
 obtain ⟨p,cap,rfl⟩:=hv.shape
 obtain ⟨⟨fs,hat,hfl,hfe⟩,_⟩:=hv
 have hmap:∀ (i:Nat) l,(F.map (·.1))[i]? = some l→∃ f,fs[i]? = some f∧v7 w f.1 l:=fun i l hl=>by
  rw [List.getElem?_map] at hl
  obtain ⟨x,hx,rfl⟩:=Option.map_eq_some_iff.1 hl
  have hi:i<fs.length:=by have:=(List.getElem?_eq_some_iff.1 hx).1;omega
  exact ⟨fs[i],by simp [hi],(hfe i _ x (by simp [hi]) hx).at1⟩
 have hfc:∀ (i:Nat),i<F.length→∃ b o q n c d,p=some ⟨b,o,none⟩∧fs[i]? = some (.slice q n c,d)∧w.cell? ⟨b,o+i*2,none⟩=some (.slice q n c):=fun i hi=>by
  have hi2:i<fs.length:=by omega
  have he:fs[i]? = some fs[i]:=by simp [hi2]
  have hx:F[i]? = some F[i]:=by simp [hi]
  obtain ⟨q,c,e,_⟩:=(hfe i _ _ he hx).at1.shape
  obtain ⟨p',cap',e',_,h6⟩:=hat
  injection e' with e1 _ _
  subst e1
  obtain ⟨b,o,rfl,h7⟩:=h6 (by intro e0;rw [e0] at hi2;simp at hi2)
  obtain ⟨c0,_⟩:=h7 i _ he
  refine ⟨b,o,q,_,c,(fs[i]).2,rfl,?_,by rw [c0,e]⟩
  rw [he,← e]
 have h64:∀ l ∈ F.map (·.1),m9 l:=fun l hl=>by
  obtain ⟨x,hx,rfl⟩:=List.mem_map.1 hl
  exact (hF x hx).1.all
 have hflat:(F.map (·.1)).flatten=flatK F:=by unfold flatK;rw [List.flatMap_def]
 have hfle:(flatK F).length≤240:=by
  have h1:=ze4 (n:=20) F fun x hx=>(hs.2 x hx).1
  omega
 have hb64:∀ x ∈ r6 UM (flatK F),0≤x∧x≤18446744073709551615:=fun x hx=>by
  have hU:UM=18446744073709551615:=rfl
  rcases (zb1 UM (flatK F) x).1 hx with rfl | ⟨z,hz,h1 | ⟨h2,h1⟩⟩
  ·omega
  ·have:=xi0 hF z hz;have a:=this.1;have b:=this.2;omega
  ·have:=xi0 hF z hz;have a:=this.1;have b:=this.2;omega
 have hSl:=zg6 UM (flatK F)
 have HV:=qh (show z85 w (.slice p F.length cap) F from ⟨⟨fs,hat,hfl,hfe⟩,by omega⟩)
 have HM:=qh (And.intro hmap (And.intro hfc hfl))
 have KST:Hid (∀ (pl:Option Addr) (bl cp:Nat) (W:World) (vs:Nat→Value),(∀ (i:Nat) l,(F.map (·.1))[i]? = some l→pl=some ⟨bl,0,none⟩∧v7 W (vs i) l∧W.cell? ⟨bl,i,none⟩=some (vs i))→Calls Tryz.prog 161 #[.slice pl (F.map (·.1)).length cp] W (zx9 (r6 UM (flatK F)) W)):=qh fun pl bl cp W vs h=>by
  have k:=ya5 (F.map (·.1)) vs pl bl cp W h h64 (by rw [hflat];omega) (by rw [List.length_map];omega)
  rw [hflat] at k
  exact k
 have HB64:=qh hb64
 have KSM:=qh yc0
 have HEQ:=qh (xi2 F)
 have hSl':(r6 UM (flatK F)).length≤481:=by omega
 clear hat hfe hmap hfc h64 hflat hb64 hSl hfle hF hs
 generalize r6 UM (flatK F)=SS at *
 go_enter Tryz.func142,Tryz.ntmps142
 go_wp2_with fail
 go_loopw [3,4] (fun u i wr=>∃ k:Nat,i = .int .i64 k∧k≤F.length∧wr.ownsRow w.heap.size 42 1 u k ((fs.take k).map (·.1))∧Below w.heap.size w wr) (fun _ i _=>F.length - (intOf i).toNat)
 case atStart=>exact ⟨0,rfl,Nat.zero_le _,by simpa using World.ownsRow_nil _ _ _ _,Below.refl _ _⟩
 case round =>
  obtain ⟨k,rfl,hk,hown,hb⟩:=hrel
  have HB:=qh hb;clear hb
  obtain ⟨pu,cu,rfl,_⟩:=y8 hown
  by_cases hlt:k<F.length
  ·obtain ⟨b,o,q,n,c,d,rfl,he,c0⟩:=HM.out.2.1 k hlt
   have c0':=z6 c0 HB.out
   have HE:=qh he
   have HO:=qh hown
   have i1:(0:Int)≤(k:Int):=by omega
   have i2:(k:Int)<(F.length:Int):=by omega
   clear c0 he hown
   go_wp2_with (at_builtin;refine wpList_append_own _ rfl _ _ 194 rfl w.heap.size 42 i0 (.slice none 0 0) 1 24 Tryz.underlying194 hi' hz0 hz1 hz2 rfl (by decide) _ k _ rfl (y6 HO.out (z8 _ _)) ⟨wr.heap.size,0,none⟩ 1 1 [.slice q n c] rfl rfl (cell_one_new _ _ _) (by simp [Value.oneCell']) (by unfold maxLen;omega) (by omega) (Nat.le_trans HB.out.size (z8 _ _).size) ?_;intro v' w4 hown' hgrow _;have HN:=qh (z8 wr (.cells #[.slice q n c] 42));have HW4:=qh (x8 (z7 HB.out HN.out) (y6 HO.out HN.out) hgrow (Nat.le_trans HB.out.size HN.out.size));obtain ⟨g',cap4,rfl,_⟩:=y8 hown';have HP:=qh hown';clear hown' hgrow)
   go_roundw
   case rel=>exact ⟨k+1,by go_num,by omega,by
    rw [List.take_add_one,HE.out]
    simpa using HP.out,HW4.out⟩
   case measure=>simp [intOf];omega
  ·obtain rfl:k=F.length:=by omega
   have hfk:(fs.take F.length).map (·.1)=fs.map (·.1):=by rw [List.take_of_length_le (by have:=HM.out.2.2;omega)]
   rw [hfk] at hown
   have hcell:∃ bl,∀ i,i<F.length→pu=some ⟨bl,0,none⟩∧∀ f,fs[i]? = some f→wr.cell? ⟨bl,i,none⟩=some f.1:=by
    rcases hown.2 with ⟨e,h0⟩ | ⟨g,cap',cur,e,_⟩
    ·exact ⟨0,fun i hi=>by omega⟩
    ·cases e
     refine ⟨g,fun i hi=>⟨rfl,fun f hf => ?_⟩⟩
     rw [hown.cellAt i (by omega),List.getElem?_map,hf]
     rfl
   obtain ⟨bl,hcell⟩:=hcell
   have K:=qh (KST.out pu bl cu wr (fun i=>(fs.getD i (.nilIface,.nilIface)).1) (fun i l hl=>by
    obtain ⟨f,hf,hiv⟩:=HM.out.1 i l hl
    have hi:i<F.length:=by have:=(List.getElem?_eq_some_iff.1 hl).1;rw [List.length_map] at this;exact this
    have e:fs.getD i (.nilIface,.nilIface)=f:=by rw [List.getD_eq_getElem?_getD,hf];rfl
    rw [e]
    exact ⟨(hcell i hi).1,hiv.call HB.out,(hcell i hi).2 f hf⟩))
   rw [List.length_map] at K
   clear hown hcell hfk
   go_wp2_with fail
   refine K.out.mono ?_
   rintro e w1 ⟨s,rfl,hos,h⟩
   obtain ⟨ps,cps,rfl,_⟩:=y8 hos
   have HNM:=qh (hos.nums (by omega))
   have H1:=qh (z7 HB.out h);clear hos h
   go_wp2_with fail
   go_loopw [6,7] (fun u i wr=>∃ k:Nat,i = .int .i64 k∧k≤SS.length∧d7 wr w1.heap.size u ((SS.take k).filter (za3 F))∧Below w1.heap.size w1 wr) (fun _ i _=>SS.length - (intOf i).toNat)
   case atStart=>exact ⟨0,rfl,Nat.zero_le _,d7.nil _ _,Below.refl _ _⟩
   case round =>
    obtain ⟨k,rfl,hk,hown,hb⟩:=hrel
    have HB:=qh hb;clear hb
    obtain ⟨pu,cu,rfl,_⟩:=y8 hown
    by_cases hlt:k<SS.length
    ·obtain ⟨x,hx⟩:∃ x,SS[k]? = some x:=⟨SS[k],by simp [hlt]⟩
     obtain ⟨ps',cps',eS,_,hcl⟩:=HNM.out
     cases eS
     obtain ⟨g,o,rfl,hcl2⟩:=hcl (by rintro rfl;simp at hlt)
     have c0:=z6 (hcl2 k x hx) HB.out
     have hx64:=HB64.out x (List.mem_of_getElem? hx)
     have HSN:=qh (xy8 (F:=F) hx)
     have HLN:Hid (((SS.take k).filter (za3 F)).length≤481):=qh (Nat.le_trans (List.length_filter_le _ _) (by rw [List.length_take];omega))
     have KS1:=qh (fun W (hb:Below wr.heap.size wr W)=>KSM.out F (.slice p F.length cap) (x - 1) x W ((HV.out.call (z7 H1.out HB.out)).call hb))
     have HS:=qh (zz8 ⟨Below.refl wr.heap.size wr,c0⟩ (Below.refl _ _).drew)
     have HO:=qh hown
     have i1:(0:Int)≤(k:Int):=by omega
     have i2:(k:Int)<(SS.length:Int):=by omega
     clear hcl hcl2 hx hown
     by_cases hx0:x=0
     ·subst hx0
      have HK:Hid ((SS.take (k+1)).filter (za3 F)=(SS.take k).filter (za3 F) ++ [0]):=qh (by rw [HSN.out,if_pos (by simp [za3])])
      clear HSN KS1 hx64
      generalize (SS.take k).filter (za3 F)=PP at *
      go_wp2_with fail
      refine wp_region_held_drew (S:=(fun w':World=>Below wr.heap.size wr w'∧w'.cell? ⟨g,o+k,none⟩=some (.int .u64 0))) (by kernel_rfl) (HS.out) (fun hHeld => ?_)
      refine rt (i:=0) (v := ?_) ⟨some 30,.move (.tmp 5),147,_,_,none⟩ hHeld ?_ ?_
      rotate_left
      ·intro wS hSw;(try dsimp only at hSw);go_simp <;> with_reducible rfl
      try simp only [Act.put,o6,o7,o8]
      refine rt (i:=1) (v := ?_) ⟨some 31,.move (.tmp 7),3,_,_,none⟩ hHeld ?_ ?_
      rotate_left
      ·intro wS hSw;(try dsimp only at hSw);go_simp <;> with_reducible rfl
      try simp only [Act.put,o6,o7,o8]
      refine rt (i:=2) (v := ?_) ⟨some 32,.indexAddr 147 (.tmp 30) (.tmp 31),0,_,_,none⟩ hHeld ?_ ?_
      rotate_left
      ·intro wS hSw;(try dsimp only at hSw);go_simp <;> with_reducible rfl
      try simp only [Act.put,o6,o7,o8]
      refine rt (i:=3) (v := ?_) ⟨some 33,.load 36 (.tmp 32),36,_,_,none⟩ hHeld ?_ ?_
      rotate_left
      ·intro wS hSw;(try dsimp only at hSw);go_simp <;> with_reducible rfl
      try simp only [Act.put,o6,o7,o8]
      refine rt (i:=4) (v := ?_) ⟨some 34,.binOp .eql 36 (.tmp 33) (.const (Value.int IntKind.u64 0)) 36,4,_,_,none⟩ hHeld ?_ ?_
      rotate_left
      ·intro wS hSw;(try dsimp only at hSw);go_simp <;> with_reducible rfl
      try simp only [Act.put,o6,o7,o8]
      refine rt (i:=5) (v := ?_) ⟨some 35,.move (.tmp 34),4,_,_,none⟩ hHeld ?_ ?_
      rotate_left
      ·intro wS hSw;(try dsimp only at hSw);go_simp <;> with_reducible rfl
      try simp only [Act.put,o6,o7,o8]
      refine rk (i:=6) ⟨some 36,.move (.tmp 0),23,_,_,some (5,false)⟩ hHeld ?_
      try simp only [Act.put,o6,o7,o8]
      refine rk (i:=7) ⟨some 37,.move (.tmp 5),147,_,_,some (5,false)⟩ hHeld ?_
      try simp only [Act.put,o6,o7,o8]
      refine rk (i:=8) ⟨some 38,.move (.tmp 7),3,_,_,some (5,false)⟩ hHeld ?_
      try simp only [Act.put,o6,o7,o8]
      refine rk (i:=9) ⟨some 39,.indexAddr 147 (.tmp 37) (.tmp 38),0,_,_,some (5,false)⟩ hHeld ?_
      try simp only [Act.put,o6,o7,o8]
      refine rk (i:=10) ⟨some 40,.load 36 (.tmp 39),36,_,_,some (5,false)⟩ hHeld ?_
      try simp only [Act.put,o6,o7,o8]
      refine rk (i:=11) ⟨some 41,.binOp .sub 36 (.tmp 40) (.const (Value.int IntKind.u64 1)) 36,36,_,_,some (5,false)⟩ hHeld ?_
      try simp only [Act.put,o6,o7,o8]
      refine rk (i:=12) ⟨some 42,.move (.tmp 5),147,_,_,some (5,false)⟩ hHeld ?_
      try simp only [Act.put,o6,o7,o8]
      refine rk (i:=13) ⟨some 43,.move (.tmp 7),3,_,_,some (5,false)⟩ hHeld ?_
      try simp only [Act.put,o6,o7,o8]
      refine rk (i:=14) ⟨some 44,.indexAddr 147 (.tmp 42) (.tmp 43),0,_,_,some (5,false)⟩ hHeld ?_
      try simp only [Act.put,o6,o7,o8]
      refine rk (i:=15) ⟨some 45,.load 36 (.tmp 44),36,_,_,some (5,false)⟩ hHeld ?_
      try simp only [Act.put,o6,o7,o8]
      refine rk (i:=16) ⟨some 46,.call { callee := .value (.func 207),args:=#[.tmp 36,.tmp 41,.tmp 45],argTypes:=#[23,36,36] },4,_,_,some (5,false)⟩ hHeld ?_
      try simp only [Act.put,o6,o7,o8]
      refine rk (i:=17) ⟨some 47,.unOp UnOp.not 4 (.tmp 46),4,_,_,some (5,false)⟩ hHeld ?_
      try simp only [Act.put,o6,o7,o8]
      refine rt (i:=18) (v := ?_) ⟨some 48,.pick (.tmp 35) (.const (Value.bool true)) (.tmp 47),4,_,_,none⟩ hHeld ?_ ?_
      rotate_left
      ·intro wS hSw;(try dsimp only at hSw);go_simp <;> with_reducible rfl
      try simp only [Act.put,o6,o7,o8]
      refine wpAnyH_done (by kernel_rfl) ?_ _
      have hc:=hHeld.2
      have HE:=qh (z7 HB.out hHeld.1)
      have HO2:=qh (HO.out.below hHeld.1)
      clear hHeld
      go_wp2_with (at_builtin;refine wpList_append_own _ rfl _ _ 147 rfl w1.heap.size 36 j0 (.int .u64 0) 1 8 Tryz.underlying147 hj' hy0 hy1 hy2 rfl (by decide) _ _ _ rfl (y6 HO2.out (z8 _ _)) ⟨_,0,none⟩ 1 1 [.int .u64 0] rfl rfl (cell_one_new _ _ _) (by simp [Value.oneCell']) (by have:=HLN.out;unfold maxLen;omega) (by have:=HLN.out;omega) (Nat.le_trans HE.out.size (z8 _ _).size) ?_;intro v' w4 hown' hgrow _;have HW4:=qh (x8 (z7 HE.out (z8 _ _)) (y6 HO2.out (z8 _ _)) hgrow (Nat.le_trans HE.out.size (z8 _ _).size));obtain ⟨g',cap4,rfl,_⟩:=y8 hown';have HP:=qh hown';clear hown' hgrow)
      go_roundw
      case rel=>exact ⟨k+1,by go_num,by omega,by
       rw [HK.out]
       unfold d7
       rw [List.length_append,xb8]
       exact HP.out,HW4.out⟩
      case measure=>simp [intOf];omega
     ·have hq:(x == 0)=false:=by simpa using hx0
      have e1:IntKind.u64.wrap (x - 1)=x - 1:=by
       have e:IntKind.u64.wrap (x - 1)=(x - 1) % 18446744073709551616:=by kernel_rfl
       rw [e];omega
      have hkx:za3 F x = !y94 F (x - 1) x:=by unfold za3;rw [decide_eq_false hx0,Bool.false_or]
      rw [hkx] at HSN
      obtain ⟨sm,hsm⟩:∃ sm,y94 F (x - 1) x=sm:=⟨_,rfl⟩
      rw [hsm] at HSN KS1
      have KS:=qh KS1.out
      clear hkx hsm hx0 hx64 KS1
      cases sm with
      | true =>
        have HK:Hid ((SS.take (k+1)).filter (za3 F)=(SS.take k).filter (za3 F)):=qh (by rw [HSN.out];simp)
        clear HSN
        generalize (SS.take k).filter (za3 F)=PP at *
        go_wp2_with fail
        refine wp_region_held_drew (S:=(fun w':World=>Below wr.heap.size wr w'∧w'.cell? ⟨g,o+k,none⟩=some (.int .u64 x))) (by kernel_rfl) (HS.out) (fun hHeld => ?_)
        refine rt (i:=0) (v := ?_) ⟨some 30,.move (.tmp 5),147,_,_,none⟩ hHeld ?_ ?_
        rotate_left
        ·intro wS hSw;(try dsimp only at hSw);go_simp <;> with_reducible rfl
        try simp only [Act.put,o6,o7,o8]
        refine rt (i:=1) (v := ?_) ⟨some 31,.move (.tmp 7),3,_,_,none⟩ hHeld ?_ ?_
        rotate_left
        ·intro wS hSw;(try dsimp only at hSw);go_simp <;> with_reducible rfl
        try simp only [Act.put,o6,o7,o8]
        refine rt (i:=2) (v := ?_) ⟨some 32,.indexAddr 147 (.tmp 30) (.tmp 31),0,_,_,none⟩ hHeld ?_ ?_
        rotate_left
        ·intro wS hSw;(try dsimp only at hSw);go_simp <;> with_reducible rfl
        try simp only [Act.put,o6,o7,o8]
        refine rt (i:=3) (v := ?_) ⟨some 33,.load 36 (.tmp 32),36,_,_,none⟩ hHeld ?_ ?_
        rotate_left
        ·intro wS hSw;(try dsimp only at hSw);go_simp <;> with_reducible rfl
        try simp only [Act.put,o6,o7,o8]
        refine rt (i:=4) (v := ?_) ⟨some 34,.binOp .eql 36 (.tmp 33) (.const (Value.int IntKind.u64 0)) 36,4,_,_,none⟩ hHeld ?_ ?_
        rotate_left
        ·intro wS hSw;(try dsimp only at hSw);go_simp <;> with_reducible rfl
        try simp only [Act.put,o6,o7,o8]
        refine rt (i:=5) (v := ?_) ⟨some 35,.move (.tmp 34),4,_,_,none⟩ hHeld ?_ ?_
        rotate_left
        ·intro wS hSw;(try dsimp only at hSw);go_simp <;> with_reducible rfl
        try simp only [Act.put,o6,o7,o8]
        refine rt (i:=6) (v := ?_) ⟨some 36,.move (.tmp 0),23,_,_,some (5,false)⟩ hHeld ?_ ?_
        rotate_left
        ·intro wS hSw;(try dsimp only at hSw);go_simp <;> with_reducible rfl
        try simp only [Act.put,o6,o7,o8]
        refine rt (i:=7) (v := ?_) ⟨some 37,.move (.tmp 5),147,_,_,some (5,false)⟩ hHeld ?_ ?_
        rotate_left
        ·intro wS hSw;(try dsimp only at hSw);go_simp <;> with_reducible rfl
        try simp only [Act.put,o6,o7,o8]
        refine rt (i:=8) (v := ?_) ⟨some 38,.move (.tmp 7),3,_,_,some (5,false)⟩ hHeld ?_ ?_
        rotate_left
        ·intro wS hSw;(try dsimp only at hSw);go_simp <;> with_reducible rfl
        try simp only [Act.put,o6,o7,o8]
        refine rt (i:=9) (v := ?_) ⟨some 39,.indexAddr 147 (.tmp 37) (.tmp 38),0,_,_,some (5,false)⟩ hHeld ?_ ?_
        rotate_left
        ·intro wS hSw;(try dsimp only at hSw);go_simp <;> with_reducible rfl
        try simp only [Act.put,o6,o7,o8]
        refine rt (i:=10) (v := ?_) ⟨some 40,.load 36 (.tmp 39),36,_,_,some (5,false)⟩ hHeld ?_ ?_
        rotate_left
        ·intro wS hSw;(try dsimp only at hSw);go_simp <;> with_reducible rfl
        try simp only [Act.put,o6,o7,o8]
        refine rt (i:=11) (v := ?_) ⟨some 41,.binOp .sub 36 (.tmp 40) (.const (Value.int IntKind.u64 1)) 36,36,_,_,some (5,false)⟩ hHeld ?_ ?_
        rotate_left
        ·intro wS hSw;(try dsimp only at hSw);go_simp <;> with_reducible rfl
        try simp only [Act.put,o6,o7,o8]
        refine rt (i:=12) (v := ?_) ⟨some 42,.move (.tmp 5),147,_,_,some (5,false)⟩ hHeld ?_ ?_
        rotate_left
        ·intro wS hSw;(try dsimp only at hSw);go_simp <;> with_reducible rfl
        try simp only [Act.put,o6,o7,o8]
        refine rt (i:=13) (v := ?_) ⟨some 43,.move (.tmp 7),3,_,_,some (5,false)⟩ hHeld ?_ ?_
        rotate_left
        ·intro wS hSw;(try dsimp only at hSw);go_simp <;> with_reducible rfl
        try simp only [Act.put,o6,o7,o8]
        refine rt (i:=14) (v := ?_) ⟨some 44,.indexAddr 147 (.tmp 42) (.tmp 43),0,_,_,some (5,false)⟩ hHeld ?_ ?_
        rotate_left
        ·intro wS hSw;(try dsimp only at hSw);go_simp <;> with_reducible rfl
        try simp only [Act.put,o6,o7,o8]
        refine rt (i:=15) (v := ?_) ⟨some 45,.load 36 (.tmp 44),36,_,_,some (5,false)⟩ hHeld ?_ ?_
        rotate_left
        ·intro wS hSw;(try dsimp only at hSw);go_simp <;> with_reducible rfl
        try simp only [Act.put,o6,o7,o8]
        refine wpAnyH_ready (rs := [16]) (by kernel_rfl) (by simp) (AllReadyH.cons (o:=⟨some 46,.call { callee := .value (.func 207),args:=#[.tmp 36,.tmp 41,.tmp 45],argTypes:=#[23,36,36] },4,_,_,some (5,false)⟩) rfl (fun K hK => ?_) AllReadyH.nil)
        go_simp
        refine (KS.out _ (And.left hHeld)).mono ?_
        rintro en wN ⟨rfl,hbN⟩
        have hbH:=qh hbN;clear hbN
        go_wp2_with fail
        refine hK.out _ _ (zz8 hHeld hbH.out) (fun hNew => ?_)
        clear hK K hHeld hbH
        have hHeld:=hNew;clear hNew
        try simp only [Act.put,o6,o7,o8]
        refine rt (i:=17) (v := ?_) ⟨some 47,.unOp UnOp.not 4 (.tmp 46),4,_,_,some (5,false)⟩ hHeld ?_ ?_
        rotate_left
        ·intro wS hSw;(try dsimp only at hSw);go_simp <;> with_reducible rfl
        try simp only [Act.put,o6,o7,o8]
        refine rt (i:=18) (v := ?_) ⟨some 48,.pick (.tmp 35) (.const (Value.bool true)) (.tmp 47),4,_,_,none⟩ hHeld ?_ ?_
        rotate_left
        ·intro wS hSw;(try dsimp only at hSw);go_simp <;> with_reducible rfl
        try simp only [Act.put,o6,o7,o8]
        refine wpAnyH_done (by kernel_rfl) ?_ _
        have HE:=qh (z7 HB.out hHeld.1)
        have HO2:=qh (HO.out.below hHeld.1)
        clear hHeld
        go_wp2_with fail
        go_roundw
        case rel=>exact ⟨k+1,by go_num,by omega,by rw [HK.out];exact HO2.out,HE.out⟩
        case measure=>simp [intOf];omega
      | false =>
        have HK:Hid ((SS.take (k+1)).filter (za3 F)=(SS.take k).filter (za3 F) ++ [x]):=qh (by rw [HSN.out];simp)
        clear HSN
        generalize (SS.take k).filter (za3 F)=PP at *
        go_wp2_with fail
        refine wp_region_held_drew (S:=(fun w':World=>Below wr.heap.size wr w'∧w'.cell? ⟨g,o+k,none⟩=some (.int .u64 x))) (by kernel_rfl) (HS.out) (fun hHeld => ?_)
        refine rt (i:=0) (v := ?_) ⟨some 30,.move (.tmp 5),147,_,_,none⟩ hHeld ?_ ?_
        rotate_left
        ·intro wS hSw;(try dsimp only at hSw);go_simp <;> with_reducible rfl
        try simp only [Act.put,o6,o7,o8]
        refine rt (i:=1) (v := ?_) ⟨some 31,.move (.tmp 7),3,_,_,none⟩ hHeld ?_ ?_
        rotate_left
        ·intro wS hSw;(try dsimp only at hSw);go_simp <;> with_reducible rfl
        try simp only [Act.put,o6,o7,o8]
        refine rt (i:=2) (v := ?_) ⟨some 32,.indexAddr 147 (.tmp 30) (.tmp 31),0,_,_,none⟩ hHeld ?_ ?_
        rotate_left
        ·intro wS hSw;(try dsimp only at hSw);go_simp <;> with_reducible rfl
        try simp only [Act.put,o6,o7,o8]
        refine rt (i:=3) (v := ?_) ⟨some 33,.load 36 (.tmp 32),36,_,_,none⟩ hHeld ?_ ?_
        rotate_left
        ·intro wS hSw;(try dsimp only at hSw);go_simp <;> with_reducible rfl
        try simp only [Act.put,o6,o7,o8]
        refine rt (i:=4) (v := ?_) ⟨some 34,.binOp .eql 36 (.tmp 33) (.const (Value.int IntKind.u64 0)) 36,4,_,_,none⟩ hHeld ?_ ?_
        rotate_left
        ·intro wS hSw;(try dsimp only at hSw);go_simp <;> with_reducible rfl
        try simp only [Act.put,o6,o7,o8]
        refine rt (i:=5) (v := ?_) ⟨some 35,.move (.tmp 34),4,_,_,none⟩ hHeld ?_ ?_
        rotate_left
        ·intro wS hSw;(try dsimp only at hSw);go_simp <;> with_reducible rfl
        try simp only [Act.put,o6,o7,o8]
        refine rt (i:=6) (v := ?_) ⟨some 36,.move (.tmp 0),23,_,_,some (5,false)⟩ hHeld ?_ ?_
        rotate_left
        ·intro wS hSw;(try dsimp only at hSw);go_simp <;> with_reducible rfl
        try simp only [Act.put,o6,o7,o8]
        refine rt (i:=7) (v := ?_) ⟨some 37,.move (.tmp 5),147,_,_,some (5,false)⟩ hHeld ?_ ?_
        rotate_left
        ·intro wS hSw;(try dsimp only at hSw);go_simp <;> with_reducible rfl
        try simp only [Act.put,o6,o7,o8]
        refine rt (i:=8) (v := ?_) ⟨some 38,.move (.tmp 7),3,_,_,some (5,false)⟩ hHeld ?_ ?_
        rotate_left
        ·intro wS hSw;(try dsimp only at hSw);go_simp <;> with_reducible rfl
        try simp only [Act.put,o6,o7,o8]
        refine rt (i:=9) (v := ?_) ⟨some 39,.indexAddr 147 (.tmp 37) (.tmp 38),0,_,_,some (5,false)⟩ hHeld ?_ ?_
        rotate_left
        ·intro wS hSw;(try dsimp only at hSw);go_simp <;> with_reducible rfl
        try simp only [Act.put,o6,o7,o8]
        refine rt (i:=10) (v := ?_) ⟨some 40,.load 36 (.tmp 39),36,_,_,some (5,false)⟩ hHeld ?_ ?_
        rotate_left
        ·intro wS hSw;(try dsimp only at hSw);go_simp <;> with_reducible rfl
        try simp only [Act.put,o6,o7,o8]
        refine rt (i:=11) (v := ?_) ⟨some 41,.binOp .sub 36 (.tmp 40) (.const (Value.int IntKind.u64 1)) 36,36,_,_,some (5,false)⟩ hHeld ?_ ?_
        rotate_left
        ·intro wS hSw;(try dsimp only at hSw);go_simp <;> with_reducible rfl
        try simp only [Act.put,o6,o7,o8]
        refine rt (i:=12) (v := ?_) ⟨some 42,.move (.tmp 5),147,_,_,some (5,false)⟩ hHeld ?_ ?_
        rotate_left
        ·intro wS hSw;(try dsimp only at hSw);go_simp <;> with_reducible rfl
        try simp only [Act.put,o6,o7,o8]
        refine rt (i:=13) (v := ?_) ⟨some 43,.move (.tmp 7),3,_,_,some (5,false)⟩ hHeld ?_ ?_
        rotate_left
        ·intro wS hSw;(try dsimp only at hSw);go_simp <;> with_reducible rfl
        try simp only [Act.put,o6,o7,o8]
        refine rt (i:=14) (v := ?_) ⟨some 44,.indexAddr 147 (.tmp 42) (.tmp 43),0,_,_,some (5,false)⟩ hHeld ?_ ?_
        rotate_left
        ·intro wS hSw;(try dsimp only at hSw);go_simp <;> with_reducible rfl
        try simp only [Act.put,o6,o7,o8]
        refine rt (i:=15) (v := ?_) ⟨some 45,.load 36 (.tmp 44),36,_,_,some (5,false)⟩ hHeld ?_ ?_
        rotate_left
        ·intro wS hSw;(try dsimp only at hSw);go_simp <;> with_reducible rfl
        try simp only [Act.put,o6,o7,o8]
        refine wpAnyH_ready (rs := [16]) (by kernel_rfl) (by simp) (AllReadyH.cons (o:=⟨some 46,.call { callee := .value (.func 207),args:=#[.tmp 36,.tmp 41,.tmp 45],argTypes:=#[23,36,36] },4,_,_,some (5,false)⟩) rfl (fun K hK => ?_) AllReadyH.nil)
        go_simp
        refine (KS.out _ (And.left hHeld)).mono ?_
        rintro en wN ⟨rfl,hbN⟩
        have hbH:=qh hbN;clear hbN
        go_wp2_with fail
        refine hK.out _ _ (zz8 hHeld hbH.out) (fun hNew => ?_)
        clear hK K hHeld hbH
        have hHeld:=hNew;clear hNew
        try simp only [Act.put,o6,o7,o8]
        refine rt (i:=17) (v := ?_) ⟨some 47,.unOp UnOp.not 4 (.tmp 46),4,_,_,some (5,false)⟩ hHeld ?_ ?_
        rotate_left
        ·intro wS hSw;(try dsimp only at hSw);go_simp <;> with_reducible rfl
        try simp only [Act.put,o6,o7,o8]
        refine rt (i:=18) (v := ?_) ⟨some 48,.pick (.tmp 35) (.const (Value.bool true)) (.tmp 47),4,_,_,none⟩ hHeld ?_ ?_
        rotate_left
        ·intro wS hSw;(try dsimp only at hSw);go_simp <;> with_reducible rfl
        try simp only [Act.put,o6,o7,o8]
        refine wpAnyH_done (by kernel_rfl) ?_ _
        have hc:=hHeld.2
        have HE:=qh (z7 HB.out hHeld.1)
        have HO2:=qh (HO.out.below hHeld.1)
        clear hHeld
        go_wp2_with (at_builtin;refine wpList_append_own _ rfl _ _ 147 rfl w1.heap.size 36 j0 (.int .u64 0) 1 8 Tryz.underlying147 hj' hy0 hy1 hy2 rfl (by decide) _ _ _ rfl (y6 HO2.out (z8 _ _)) ⟨_,0,none⟩ 1 1 [.int .u64 x] rfl rfl (cell_one_new _ _ _) (by simp [Value.oneCell']) (by have:=HLN.out;unfold maxLen;omega) (by have:=HLN.out;omega) (Nat.le_trans HE.out.size (z8 _ _).size) ?_;intro v' w4 hown' hgrow _;have HW4:=qh (x8 (z7 HE.out (z8 _ _)) (y6 HO2.out (z8 _ _)) hgrow (Nat.le_trans HE.out.size (z8 _ _).size));obtain ⟨g',cap4,rfl,_⟩:=y8 hown';have HP:=qh hown';clear hown' hgrow)
        go_roundw
        case rel=>exact ⟨k+1,by go_num,by omega,by
         rw [HK.out]
         unfold d7
         rw [List.length_append,xb8]
         exact HP.out,HW4.out⟩
        case measure=>simp [intOf];omega
    ·obtain rfl:k=SS.length:=by omega
     rw [List.take_of_length_le (Nat.le_refl _),HEQ.out] at hown ⊢
     have HO:=qh hown;clear hown
     go_wp2_with fail
     go_ret
     exact ⟨_,rfl,p8 HO.out H1.out.size,z7 H1.out HB.out⟩
end Go.Proofs.YtchndljcahjldaaGreatDoor
