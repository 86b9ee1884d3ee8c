/- The law RangesTexts in every state. Conditions: as RangesCheck. -/
import Derived.Test.YtgkdjbdcmmegiaaGreatDoorRLaw4
import Derived.Test.YtgkdjbdcmmegiaaGreatDoorRDouble
namespace Go.Proofs.YtgkdjbdcmmegiaaGreatDoor
open Go.RowKit Go.Shelf

set_option maxRecDepth 100000 in
theorem lawTexts_long (p q : Option Addr) (n cap m cbp : Nat) (w : World) (hg : GlobR w) (hn : 60 < n) :
    Calls Tryz.prog 7 #[.slice p n cap, .slice q m cbp] w (IsEnd true w) := by
  have KA := Lib.hid (alive_in w hg); clear hg
  have hi : (60 : Int) < (n : Int) := by omega
  go_enter Tryz.func7, Tryz.ntmps7
  go_wp2_with fail
  refine KA.out.mono ?_
  rintro e w1 ⟨rfl, h1⟩
  have H1 := Lib.hid h1; clear h1
  go_wp2_with fail
  go_ret
  exact ⟨rfl, H1.out⟩
set_option maxRecDepth 100000 in
theorem lawTexts_long2 (p q : Option Addr) (n cap m cbp : Nat) (w : World) (hg : GlobR w) (hn : n ≤ 60) (hm : 60 < m) :
    Calls Tryz.prog 7 #[.slice p n cap, .slice q m cbp] w (IsEnd true w) := by
  have KA := Lib.hid (alive_in w hg); clear hg
  have hi : ¬ (60 : Int) < (n : Int) := by omega
  have hj : (60 : Int) < (m : Int) := by omega
  go_enter Tryz.func7, Tryz.ntmps7
  go_wp2_with fail
  refine KA.out.mono ?_
  rintro e w1 ⟨rfl, h1⟩
  have H1 := Lib.hid h1; clear h1
  go_wp2_with fail
  go_ret
  exact ⟨rfl, H1.out⟩

set_option maxRecDepth 100000 in
set_option maxHeartbeats 4000000 in
theorem lawTexts_any (a b : List Iv) (s t : Value) (w : World) (hg : GlobR w) (hl : IvsAt w s a) (hm : IvsAt w t b) (h64 : All64 a) (hn : a.length ≤ 60) (hn2 : b.length ≤ 60) :
    Calls Tryz.prog 7 #[s, t] w (IsEnd true w) := by
  obtain ⟨p, cap, rfl, _⟩ := hl.shape
  obtain ⟨q, caq, rfl, _⟩ := hm.shape
  have hi : ¬ (60 : Int) < (a.length : Int) := by omega
  have hj : ¬ (60 : Int) < (b.length : Int) := by omega
  have I := Lib.hid hl
  have J := Lib.hid hm
  have G := Lib.hid hg
  have KA := Lib.hid alive_in
  obtain ⟨T, hT⟩ : ∃ T : ByteArray, ⟨(listText a).toArray⟩ = T := ⟨_, rfl⟩
  have KT : Hid (∀ W, GlobR W → IvsAt W (.slice p a.length cap) a → Calls Tryz.prog 23 #[.slice p a.length cap] W (fun e w' => e = .returned (.string T) ∧ Below W.heap.size W w')) := Lib.hid (fun W h1 h2 => by
    have h := text_any a _ W h2 h64 h1.p
    unfold IsStr at h
    rw [hT] at h
    exact h)
  have KU : Hid (∀ W, IvsAt W (.slice p a.length cap) a → Calls Tryz.prog 24 #[.slice p a.length cap] W (fun e w' => e = .returned (.string T) ∧ Below W.heap.size W w')) := Lib.hid (fun W h2 => by
    have h := refList_any a _ W h2 h64
    unfold IsStr at h
    rw [hT] at h
    exact h)
  have KS := Lib.hid (fun W h1 h2 => same_any a b (.slice p a.length cap) (.slice q b.length caq) W h1 h2)
  have KR := Lib.hid (fun W h1 h2 => refSame_any a b (.slice p a.length cap) (.slice q b.length caq) W h1 h2)
  have KSS : Hid (∀ W, IvsAt W (.slice p a.length cap) a → Calls Tryz.prog 25 #[.slice p a.length cap, .slice p a.length cap] W (IsEnd true W)) := Lib.hid (fun W h1 => by
    have h := same_any a a (.slice p a.length cap) (.slice p a.length cap) W h1 h1
    rw [decide_eq_true rfl] at h
    exact h)
  clear hl hm hg
  generalize decide (a = b) = ab at KS KR
  go_enter Tryz.func7, Tryz.ntmps7
  go_wp2_with fail
  refine (KT.out _ G.out I.out).mono ?_
  rintro e w1 ⟨rfl, h1⟩
  have H1 := Lib.hid h1; clear h1
  go_wp2_with fail
  refine (KU.out _ (I.out.call H1.out)).mono ?_
  rintro e w2 ⟨rfl, h2⟩
  have H2 := Lib.hid (below_call H1.out h2); clear h2
  go_wp2_with fail
  refine (KS.out _ (I.out.call H2.out) (J.out.call H2.out)).mono ?_
  rintro e w3 ⟨rfl, h3⟩
  have H3 := Lib.hid (below_call H2.out h3); clear h3
  go_wp2_with fail
  refine (KR.out _ (I.out.call H3.out) (J.out.call H3.out)).mono ?_
  rintro e w4 ⟨rfl, h4⟩
  have H4 := Lib.hid (below_call H3.out h4); clear h4
  go_wp2_with fail
  refine (KSS.out _ (I.out.call H4.out)).mono ?_
  rintro e w5 ⟨rfl, h5⟩
  have H5 := Lib.hid (below_call H4.out h5); clear h5
  go_wp2_with fail
  refine (KT.out _ (G.out.here H5.out) (I.out.call H5.out)).mono ?_
  rintro e w6 ⟨rfl, h6⟩
  have H6 := Lib.hid (below_call H5.out h6); clear h6
  have KP := Lib.hid (parse_any (listText a) (by
    unfold listText
    split
    · simp
    · have := join_len a h64; omega) w6 (G.out.here H6.out).e (G.out.here H6.out).r)
  rw [hT, parse_text a h64] at KP
  have KRi := Lib.hid (fun W h => refRight_any a (.slice p a.length cap) W h h64)
  have hrb := rightB_iff a
  have hcv : chkV a = none ↔ canon a := by rw [← canon_iff]; unfold chkV; cases chkL a <;> simp
  clear hT h64
  cases hch : chkV a with
  | none =>
    rw [hch] at KP
    rw [hrb.2 (hcv.1 hch)] at KRi
    clear hrb hcv hch
    go_wp2_with fail
    refine KP.out.mono ?_
    rintro e w7 ⟨v, rfl, hv, h7⟩
    have H7 := Lib.hid (below_call H6.out h7); clear h7
    have IV := Lib.hid hv; clear hv
    rw [show errV ((a, none) : List Iv × Option (Int × Option Int)).2 = .nilIface from rfl]
    have KE : Hid (∀ W, IvsAt W (.slice p a.length cap) a → IvsAt W v a → Calls Tryz.prog 16 #[.slice p a.length cap, v] W (IsEnd true W)) := Lib.hid (fun W h1 h2 => by
      have h := refSame_any a a (.slice p a.length cap) v W h1 h2
      rw [decide_eq_true rfl] at h
      exact h)
    go_wp2_with fail
    refine wp_region_held_drew (S := (fun w' : World => Below w.heap.size w w' ∧ Below w7.heap.size w7 w')) (by kernel_rfl) (⟨H7.out.drew, (Below.refl w7.heap.size w7).drew⟩) (fun hHeld => ?_)
    refine wpAnyH_ready (rs := [0]) (by kernel_rfl) (by simp) (AllReadyH.cons (o := { dst := some 42, op := Op.call { callee := Callee.value (Operand.func 9), args := #[], argTypes := #[] }, type := 4, pos := _, after := #[], guard := none }) rfl (fun K hK => ?_) AllReadyH.nil)
    go_simp
    refine (KA.out _ (G.out.here hHeld.1)).mono ?_
    rintro en wN ⟨rfl, hbN⟩
    have hbH := Lib.hid hbN; clear hbN
    go_wp2_with fail
    refine hK.out _ _ (⟨below_call hHeld.1 hbH.out, below_call hHeld.2 hbH.out⟩) (fun hNew => ?_)
    clear hK K hHeld hbH
    have hHeld := hNew; clear hNew
    try simp only [Act.put, List.setIfInBounds_toArray, List.set_cons_zero, List.set_cons_succ]
    refine rtake (i := 1) (v := ?_) { dst := some 43, op := Op.move (Operand.tmp 42), type := 4, pos := _, after := #[{ on := 0, ground := Ground.data }, { on := 0, ground := Ground.chain }], guard := none } rfl (by kernel_rfl) (by kernel_rfl) (by kernel_rfl) (fun _ _ _ h => h) (by rfl) hHeld ?_ ?_
    rotate_left
    · intro wS hSw; (try dsimp only at hSw); go_simp <;> with_reducible rfl
    try simp only [Act.put, List.setIfInBounds_toArray, List.set_cons_zero, List.set_cons_succ]
    refine rtake (i := 2) (v := ?_) { dst := some 44, op := Op.move (Operand.tmp 6), type := 26, pos := _, after := #[{ on := 1, ground := Ground.guard }], guard := some (1, true) } rfl (by kernel_rfl) (by kernel_rfl) (by kernel_rfl) (fun _ _ _ h => h) (by rfl) hHeld ?_ ?_
    rotate_left
    · intro wS hSw; (try dsimp only at hSw); go_simp <;> with_reducible rfl
    try simp only [Act.put, List.setIfInBounds_toArray, List.set_cons_zero, List.set_cons_succ]
    refine rtake (i := 3) (v := ?_) { dst := some 45, op := Op.binOp BinOp.eql 26 (Operand.tmp 44) (Operand.const Value.nilIface) 26, type := 4, pos := _, after := #[{ on := 2, ground := Ground.data }, { on := 1, ground := Ground.guard }], guard := some (1, true) } rfl (by kernel_rfl) (by kernel_rfl) (by kernel_rfl) (fun _ _ _ h => h) (by rfl) hHeld ?_ ?_
    rotate_left
    · intro wS hSw; (try dsimp only at hSw); go_simp <;> with_reducible rfl
    try simp only [Act.put, List.setIfInBounds_toArray, List.set_cons_zero, List.set_cons_succ]
    refine rtake (i := 4) (v := ?_) { dst := some 46, op := Op.move (Operand.tmp 0), type := 23, pos := _, after := #[{ on := 1, ground := Ground.guard }], guard := some (1, true) } rfl (by kernel_rfl) (by kernel_rfl) (by kernel_rfl) (fun _ _ _ h => h) (by rfl) hHeld ?_ ?_
    rotate_left
    · intro wS hSw; (try dsimp only at hSw); go_simp <;> with_reducible rfl
    try simp only [Act.put, List.setIfInBounds_toArray, List.set_cons_zero, List.set_cons_succ]
    refine wpAnyH_ready (rs := [5]) (by kernel_rfl) (by simp) (AllReadyH.cons (o := { dst := some 47, op := Op.call { callee := Callee.value (Operand.func 18), args := #[Operand.tmp 46], argTypes := #[23] }, type := 4, pos := _, after := #[{ on := 4, ground := Ground.data }, { on := 1, ground := Ground.chain }, { on := 1, ground := Ground.guard }], guard := some (1, true) }) rfl (fun K hK => ?_) AllReadyH.nil)
    go_simp
    refine (KRi.out _ (I.out.call hHeld.1)).mono ?_
    rintro en wN ⟨rfl, hbN⟩
    have hbH := Lib.hid hbN; clear hbN
    go_wp2_with fail
    refine hK.out _ _ (⟨below_call hHeld.1 hbH.out, below_call hHeld.2 hbH.out⟩) (fun hNew => ?_)
    clear hK K hHeld hbH
    have hHeld := hNew; clear hNew
    try simp only [Act.put, List.setIfInBounds_toArray, List.set_cons_zero, List.set_cons_succ]
    refine rtake (i := 6) (v := ?_) { dst := some 48, op := Op.binOp BinOp.eql 4 (Operand.tmp 45) (Operand.tmp 47) 4, type := 4, pos := _, after := #[{ on := 3, ground := Ground.data }, { on := 5, ground := Ground.data }, { on := 1, ground := Ground.guard }], guard := some (1, true) } rfl (by kernel_rfl) (by kernel_rfl) (by kernel_rfl) (fun _ _ _ h => h) (by rfl) hHeld ?_ ?_
    rotate_left
    · intro wS hSw; (try dsimp only at hSw); go_simp <;> with_reducible rfl
    try simp only [Act.put, List.setIfInBounds_toArray, List.set_cons_zero, List.set_cons_succ]
    refine rtake (i := 7) (v := ?_) { dst := some 49, op := Op.pick (Operand.tmp 43) (Operand.tmp 48) (Operand.const (Value.bool false)), type := 4, pos := _, after := #[{ on := 1, ground := Ground.data }, { on := 6, ground := Ground.data }], guard := none } rfl (by kernel_rfl) (by kernel_rfl) (by kernel_rfl) (fun _ _ _ h => h) (by rfl) hHeld ?_ ?_
    rotate_left
    · intro wS hSw; (try dsimp only at hSw); go_simp <;> with_reducible rfl
    try simp only [Act.put, List.setIfInBounds_toArray, List.set_cons_zero, List.set_cons_succ]
    refine rtake (i := 8) (v := ?_) { dst := some 50, op := Op.move (Operand.tmp 49), type := 4, pos := _, after := #[{ on := 7, ground := Ground.data }, { on := 5, ground := Ground.chain }], guard := none } rfl (by kernel_rfl) (by kernel_rfl) (by kernel_rfl) (fun _ _ _ h => h) (by rfl) hHeld ?_ ?_
    rotate_left
    · intro wS hSw; (try dsimp only at hSw); go_simp <;> with_reducible rfl
    try simp only [Act.put, List.setIfInBounds_toArray, List.set_cons_zero, List.set_cons_succ]
    refine rtake (i := 9) (v := ?_) { dst := some 51, op := Op.move (Operand.tmp 6), type := 26, pos := _, after := #[{ on := 8, ground := Ground.guard }], guard := some (8, true) } rfl (by kernel_rfl) (by kernel_rfl) (by kernel_rfl) (fun _ _ _ h => h) (by rfl) hHeld ?_ ?_
    rotate_left
    · intro wS hSw; (try dsimp only at hSw); go_simp <;> with_reducible rfl
    try simp only [Act.put, List.setIfInBounds_toArray, List.set_cons_zero, List.set_cons_succ]
    refine rtake (i := 10) (v := ?_) { dst := some 52, op := Op.binOp BinOp.neq 26 (Operand.tmp 51) (Operand.const Value.nilIface) 26, type := 4, pos := _, after := #[{ on := 9, ground := Ground.data }, { on := 8, ground := Ground.guard }], guard := some (8, true) } rfl (by kernel_rfl) (by kernel_rfl) (by kernel_rfl) (fun _ _ _ h => h) (by rfl) hHeld ?_ ?_
    rotate_left
    · intro wS hSw; (try dsimp only at hSw); go_simp <;> with_reducible rfl
    try simp only [Act.put, List.setIfInBounds_toArray, List.set_cons_zero, List.set_cons_succ]
    refine rtake (i := 11) (v := ?_) { dst := some 53, op := Op.move (Operand.tmp 52), type := 4, pos := _, after := #[{ on := 10, ground := Ground.data }, { on := 8, ground := Ground.chain }, { on := 8, ground := Ground.guard }], guard := some (8, true) } rfl (by kernel_rfl) (by kernel_rfl) (by kernel_rfl) (fun _ _ _ h => h) (by rfl) hHeld ?_ ?_
    rotate_left
    · intro wS hSw; (try dsimp only at hSw); go_simp <;> with_reducible rfl
    try simp only [Act.put, List.setIfInBounds_toArray, List.set_cons_zero, List.set_cons_succ]
    refine rtake (i := 12) (v := ?_) { dst := some 54, op := Op.move (Operand.tmp 0), type := 23, pos := _, after := #[{ on := 11, ground := Ground.guard }], guard := some (11, false) } rfl (by kernel_rfl) (by kernel_rfl) (by kernel_rfl) (fun _ _ _ h => h) (by rfl) hHeld ?_ ?_
    rotate_left
    · intro wS hSw; (try dsimp only at hSw); go_simp <;> with_reducible rfl
    try simp only [Act.put, List.setIfInBounds_toArray, List.set_cons_zero, List.set_cons_succ]
    refine rtake (i := 13) (v := ?_) { dst := some 55, op := Op.move (Operand.tmp 5), type := 23, pos := _, after := #[{ on := 11, ground := Ground.guard }], guard := some (11, false) } rfl (by kernel_rfl) (by kernel_rfl) (by kernel_rfl) (fun _ _ _ h => h) (by rfl) hHeld ?_ ?_
    rotate_left
    · intro wS hSw; (try dsimp only at hSw); go_simp <;> with_reducible rfl
    try simp only [Act.put, List.setIfInBounds_toArray, List.set_cons_zero, List.set_cons_succ]
    refine wpAnyH_ready (rs := [14]) (by kernel_rfl) (by simp) (AllReadyH.cons (o := { dst := some 56, op := Op.call { callee := Callee.value (Operand.func 16), args := #[Operand.tmp 54, Operand.tmp 55], argTypes := #[23, 23] }, type := 4, pos := _, after := #[{ on := 12, ground := Ground.data }, { on := 13, ground := Ground.data }, { on := 11, ground := Ground.chain }, { on := 11, ground := Ground.guard }], guard := some (11, false) }) rfl (fun K hK => ?_) AllReadyH.nil)
    go_simp
    refine (KE.out _ (I.out.call hHeld.1) (IV.out.call hHeld.2)).mono ?_
    rintro en wN ⟨rfl, hbN⟩
    have hbH := Lib.hid hbN; clear hbN
    go_wp2_with fail
    refine hK.out _ _ (⟨below_call hHeld.1 hbH.out, below_call hHeld.2 hbH.out⟩) (fun hNew => ?_)
    clear hK K hHeld hbH
    have hHeld := hNew; clear hNew
    try simp only [Act.put, List.setIfInBounds_toArray, List.set_cons_zero, List.set_cons_succ]
    refine rtake (i := 15) (v := ?_) { dst := some 57, op := Op.pick (Operand.tmp 53) (Operand.const (Value.bool true)) (Operand.tmp 56), type := 4, pos := _, after := #[{ on := 11, ground := Ground.data }, { on := 14, ground := Ground.data }, { on := 8, ground := Ground.guard }], guard := some (8, true) } rfl (by kernel_rfl) (by kernel_rfl) (by kernel_rfl) (fun _ _ _ h => h) (by rfl) hHeld ?_ ?_
    rotate_left
    · intro wS hSw; (try dsimp only at hSw); go_simp <;> with_reducible rfl
    try simp only [Act.put, List.setIfInBounds_toArray, List.set_cons_zero, List.set_cons_succ]
    refine rtake (i := 16) (v := ?_) { dst := some 58, op := Op.pick (Operand.tmp 50) (Operand.tmp 57) (Operand.const (Value.bool false)), type := 4, pos := _, after := #[{ on := 8, ground := Ground.data }, { on := 15, ground := Ground.data }], guard := none } rfl (by kernel_rfl) (by kernel_rfl) (by kernel_rfl) (fun _ _ _ h => h) (by rfl) hHeld ?_ ?_
    rotate_left
    · intro wS hSw; (try dsimp only at hSw); go_simp <;> with_reducible rfl
    try simp only [Act.put, List.setIfInBounds_toArray, List.set_cons_zero, List.set_cons_succ]
    refine rtake (i := 17) (v := ?_) { dst := some 4, op := Op.assign (Operand.tmp 58), type := 4, pos := _, after := #[{ on := 16, ground := Ground.data }, { on := 14, ground := Ground.chain }, { on := 0, ground := Ground.phase }, { on := 1, ground := Ground.phase }, { on := 2, ground := Ground.phase }, { on := 3, ground := Ground.phase }, { on := 4, ground := Ground.phase }, { on := 5, ground := Ground.phase }, { on := 6, ground := Ground.phase }, { on := 7, ground := Ground.phase }, { on := 8, ground := Ground.phase }, { on := 9, ground := Ground.phase }, { on := 10, ground := Ground.phase }, { on := 11, ground := Ground.phase }, { on := 12, ground := Ground.phase }, { on := 13, ground := Ground.phase }, { on := 14, ground := Ground.phase }, { on := 15, ground := Ground.phase }, { on := 16, ground := Ground.phase }], guard := none } rfl (by kernel_rfl) (by kernel_rfl) (by kernel_rfl) (fun _ _ _ h => h) (by rfl) hHeld ?_ ?_
    rotate_left
    · intro wS hSw; (try dsimp only at hSw); go_simp <;> with_reducible rfl
    try simp only [Act.put, List.setIfInBounds_toArray, List.set_cons_zero, List.set_cons_succ]
    refine wpAnyH_done (by kernel_rfl) ?_ _
    go_wp2_with fail
    go_ret
    exact ⟨rfl, hHeld.1⟩
  | some e =>
    rw [hch] at KP
    have hnc : ¬ canon a := fun h => by have := hcv.2 h; rw [hch] at this; cases this
    rw [show rightB a = false from by
      cases hr : rightB a with
      | false => rfl
      | true => exact absurd (hrb.1 hr) hnc] at KRi
    obtain ⟨et, ev, hev⟩ : ∃ t v, errV (some e) = .iface t v := by
      obtain ⟨c, o⟩ := e
      cases o <;> exact ⟨_, _, rfl⟩
    clear hrb hcv hch hnc
    go_wp2_with fail
    refine KP.out.mono ?_
    rintro e' w7 ⟨v, rfl, hv, h7⟩
    have H7 := Lib.hid (below_call H6.out h7); clear h7 hv
    rw [show errV (([], some e) : List Iv × Option (Int × Option Int)).2 = .iface et ev from hev]
    clear hev
    go_wp2_with fail
    refine wp_region_held_drew (S := (fun w' : World => Below w.heap.size w w' ∧ Below w7.heap.size w7 w')) (by kernel_rfl) (⟨H7.out.drew, (Below.refl w7.heap.size w7).drew⟩) (fun hHeld => ?_)
    refine wpAnyH_ready (rs := [0]) (by kernel_rfl) (by simp) (AllReadyH.cons (o := { dst := some 42, op := Op.call { callee := Callee.value (Operand.func 9), args := #[], argTypes := #[] }, type := 4, pos := _, after := #[], guard := none }) rfl (fun K hK => ?_) AllReadyH.nil)
    go_simp
    refine (KA.out _ (G.out.here hHeld.1)).mono ?_
    rintro en wN ⟨rfl, hbN⟩
    have hbH := Lib.hid hbN; clear hbN
    go_wp2_with fail
    refine hK.out _ _ (⟨below_call hHeld.1 hbH.out, below_call hHeld.2 hbH.out⟩) (fun hNew => ?_)
    clear hK K hHeld hbH
    have hHeld := hNew; clear hNew
    try simp only [Act.put, List.setIfInBounds_toArray, List.set_cons_zero, List.set_cons_succ]
    refine rtake (i := 1) (v := ?_) { dst := some 43, op := Op.move (Operand.tmp 42), type := 4, pos := _, after := #[{ on := 0, ground := Ground.data }, { on := 0, ground := Ground.chain }], guard := none } rfl (by kernel_rfl) (by kernel_rfl) (by kernel_rfl) (fun _ _ _ h => h) (by rfl) hHeld ?_ ?_
    rotate_left
    · intro wS hSw; (try dsimp only at hSw); go_simp <;> with_reducible rfl
    try simp only [Act.put, List.setIfInBounds_toArray, List.set_cons_zero, List.set_cons_succ]
    refine rtake (i := 2) (v := ?_) { dst := some 44, op := Op.move (Operand.tmp 6), type := 26, pos := _, after := #[{ on := 1, ground := Ground.guard }], guard := some (1, true) } rfl (by kernel_rfl) (by kernel_rfl) (by kernel_rfl) (fun _ _ _ h => h) (by rfl) hHeld ?_ ?_
    rotate_left
    · intro wS hSw; (try dsimp only at hSw); go_simp <;> with_reducible rfl
    try simp only [Act.put, List.setIfInBounds_toArray, List.set_cons_zero, List.set_cons_succ]
    refine rtake (i := 3) (v := ?_) { dst := some 45, op := Op.binOp BinOp.eql 26 (Operand.tmp 44) (Operand.const Value.nilIface) 26, type := 4, pos := _, after := #[{ on := 2, ground := Ground.data }, { on := 1, ground := Ground.guard }], guard := some (1, true) } rfl (by kernel_rfl) (by kernel_rfl) (by kernel_rfl) (fun _ _ _ h => h) (by rfl) hHeld ?_ ?_
    rotate_left
    · intro wS hSw; (try dsimp only at hSw); go_simp <;> with_reducible rfl
    try simp only [Act.put, List.setIfInBounds_toArray, List.set_cons_zero, List.set_cons_succ]
    refine rtake (i := 4) (v := ?_) { dst := some 46, op := Op.move (Operand.tmp 0), type := 23, pos := _, after := #[{ on := 1, ground := Ground.guard }], guard := some (1, true) } rfl (by kernel_rfl) (by kernel_rfl) (by kernel_rfl) (fun _ _ _ h => h) (by rfl) hHeld ?_ ?_
    rotate_left
    · intro wS hSw; (try dsimp only at hSw); go_simp <;> with_reducible rfl
    try simp only [Act.put, List.setIfInBounds_toArray, List.set_cons_zero, List.set_cons_succ]
    refine wpAnyH_ready (rs := [5]) (by kernel_rfl) (by simp) (AllReadyH.cons (o := { dst := some 47, op := Op.call { callee := Callee.value (Operand.func 18), args := #[Operand.tmp 46], argTypes := #[23] }, type := 4, pos := _, after := #[{ on := 4, ground := Ground.data }, { on := 1, ground := Ground.chain }, { on := 1, ground := Ground.guard }], guard := some (1, true) }) rfl (fun K hK => ?_) AllReadyH.nil)
    go_simp
    refine (KRi.out _ (I.out.call hHeld.1)).mono ?_
    rintro en wN ⟨rfl, hbN⟩
    have hbH := Lib.hid hbN; clear hbN
    go_wp2_with fail
    refine hK.out _ _ (⟨below_call hHeld.1 hbH.out, below_call hHeld.2 hbH.out⟩) (fun hNew => ?_)
    clear hK K hHeld hbH
    have hHeld := hNew; clear hNew
    try simp only [Act.put, List.setIfInBounds_toArray, List.set_cons_zero, List.set_cons_succ]
    refine rtake (i := 6) (v := ?_) { dst := some 48, op := Op.binOp BinOp.eql 4 (Operand.tmp 45) (Operand.tmp 47) 4, type := 4, pos := _, after := #[{ on := 3, ground := Ground.data }, { on := 5, ground := Ground.data }, { on := 1, ground := Ground.guard }], guard := some (1, true) } rfl (by kernel_rfl) (by kernel_rfl) (by kernel_rfl) (fun _ _ _ h => h) (by rfl) hHeld ?_ ?_
    rotate_left
    · intro wS hSw; (try dsimp only at hSw); go_simp <;> with_reducible rfl
    try simp only [Act.put, List.setIfInBounds_toArray, List.set_cons_zero, List.set_cons_succ]
    refine rtake (i := 7) (v := ?_) { dst := some 49, op := Op.pick (Operand.tmp 43) (Operand.tmp 48) (Operand.const (Value.bool false)), type := 4, pos := _, after := #[{ on := 1, ground := Ground.data }, { on := 6, ground := Ground.data }], guard := none } rfl (by kernel_rfl) (by kernel_rfl) (by kernel_rfl) (fun _ _ _ h => h) (by rfl) hHeld ?_ ?_
    rotate_left
    · intro wS hSw; (try dsimp only at hSw); go_simp <;> with_reducible rfl
    try simp only [Act.put, List.setIfInBounds_toArray, List.set_cons_zero, List.set_cons_succ]
    refine rtake (i := 8) (v := ?_) { dst := some 50, op := Op.move (Operand.tmp 49), type := 4, pos := _, after := #[{ on := 7, ground := Ground.data }, { on := 5, ground := Ground.chain }], guard := none } rfl (by kernel_rfl) (by kernel_rfl) (by kernel_rfl) (fun _ _ _ h => h) (by rfl) hHeld ?_ ?_
    rotate_left
    · intro wS hSw; (try dsimp only at hSw); go_simp <;> with_reducible rfl
    try simp only [Act.put, List.setIfInBounds_toArray, List.set_cons_zero, List.set_cons_succ]
    refine rtake (i := 9) (v := ?_) { dst := some 51, op := Op.move (Operand.tmp 6), type := 26, pos := _, after := #[{ on := 8, ground := Ground.guard }], guard := some (8, true) } rfl (by kernel_rfl) (by kernel_rfl) (by kernel_rfl) (fun _ _ _ h => h) (by rfl) hHeld ?_ ?_
    rotate_left
    · intro wS hSw; (try dsimp only at hSw); go_simp <;> with_reducible rfl
    try simp only [Act.put, List.setIfInBounds_toArray, List.set_cons_zero, List.set_cons_succ]
    refine rtake (i := 10) (v := ?_) { dst := some 52, op := Op.binOp BinOp.neq 26 (Operand.tmp 51) (Operand.const Value.nilIface) 26, type := 4, pos := _, after := #[{ on := 9, ground := Ground.data }, { on := 8, ground := Ground.guard }], guard := some (8, true) } rfl (by kernel_rfl) (by kernel_rfl) (by kernel_rfl) (fun _ _ _ h => h) (by rfl) hHeld ?_ ?_
    rotate_left
    · intro wS hSw; (try dsimp only at hSw); go_simp <;> with_reducible rfl
    try simp only [Act.put, List.setIfInBounds_toArray, List.set_cons_zero, List.set_cons_succ]
    refine rtake (i := 11) (v := ?_) { dst := some 53, op := Op.move (Operand.tmp 52), type := 4, pos := _, after := #[{ on := 10, ground := Ground.data }, { on := 8, ground := Ground.chain }, { on := 8, ground := Ground.guard }], guard := some (8, true) } rfl (by kernel_rfl) (by kernel_rfl) (by kernel_rfl) (fun _ _ _ h => h) (by rfl) hHeld ?_ ?_
    rotate_left
    · intro wS hSw; (try dsimp only at hSw); go_simp <;> with_reducible rfl
    try simp only [Act.put, List.setIfInBounds_toArray, List.set_cons_zero, List.set_cons_succ]
    refine rskip (i := 12) { dst := some 54, op := Op.move (Operand.tmp 0), type := 23, pos := _, after := #[{ on := 11, ground := Ground.guard }], guard := some (11, false) } rfl (by kernel_rfl) (by kernel_rfl) (by kernel_rfl) (fun _ _ _ h => h) (by rfl) hHeld ?_
    try simp only [Act.put, List.setIfInBounds_toArray, List.set_cons_zero, List.set_cons_succ]
    refine rskip (i := 13) { dst := some 55, op := Op.move (Operand.tmp 5), type := 23, pos := _, after := #[{ on := 11, ground := Ground.guard }], guard := some (11, false) } rfl (by kernel_rfl) (by kernel_rfl) (by kernel_rfl) (fun _ _ _ h => h) (by rfl) hHeld ?_
    try simp only [Act.put, List.setIfInBounds_toArray, List.set_cons_zero, List.set_cons_succ]
    refine rskip (i := 14) { dst := some 56, op := Op.call { callee := Callee.value (Operand.func 16), args := #[Operand.tmp 54, Operand.tmp 55], argTypes := #[23, 23] }, type := 4, pos := _, after := #[{ on := 12, ground := Ground.data }, { on := 13, ground := Ground.data }, { on := 11, ground := Ground.chain }, { on := 11, ground := Ground.guard }], guard := some (11, false) } rfl (by kernel_rfl) (by kernel_rfl) (by kernel_rfl) (fun _ _ _ h => h) (by rfl) hHeld ?_
    try simp only [Act.put, List.setIfInBounds_toArray, List.set_cons_zero, List.set_cons_succ]
    refine rtake (i := 15) (v := ?_) { dst := some 57, op := Op.pick (Operand.tmp 53) (Operand.const (Value.bool true)) (Operand.tmp 56), type := 4, pos := _, after := #[{ on := 11, ground := Ground.data }, { on := 14, ground := Ground.data }, { on := 8, ground := Ground.guard }], guard := some (8, true) } rfl (by kernel_rfl) (by kernel_rfl) (by kernel_rfl) (fun _ _ _ h => h) (by rfl) hHeld ?_ ?_
    rotate_left
    · intro wS hSw; (try dsimp only at hSw); go_simp <;> with_reducible rfl
    try simp only [Act.put, List.setIfInBounds_toArray, List.set_cons_zero, List.set_cons_succ]
    refine rtake (i := 16) (v := ?_) { dst := some 58, op := Op.pick (Operand.tmp 50) (Operand.tmp 57) (Operand.const (Value.bool false)), type := 4, pos := _, after := #[{ on := 8, ground := Ground.data }, { on := 15, ground := Ground.data }], guard := none } rfl (by kernel_rfl) (by kernel_rfl) (by kernel_rfl) (fun _ _ _ h => h) (by rfl) hHeld ?_ ?_
    rotate_left
    · intro wS hSw; (try dsimp only at hSw); go_simp <;> with_reducible rfl
    try simp only [Act.put, List.setIfInBounds_toArray, List.set_cons_zero, List.set_cons_succ]
    refine rtake (i := 17) (v := ?_) { dst := some 4, op := Op.assign (Operand.tmp 58), type := 4, pos := _, after := #[{ on := 16, ground := Ground.data }, { on := 14, ground := Ground.chain }, { on := 0, ground := Ground.phase }, { on := 1, ground := Ground.phase }, { on := 2, ground := Ground.phase }, { on := 3, ground := Ground.phase }, { on := 4, ground := Ground.phase }, { on := 5, ground := Ground.phase }, { on := 6, ground := Ground.phase }, { on := 7, ground := Ground.phase }, { on := 8, ground := Ground.phase }, { on := 9, ground := Ground.phase }, { on := 10, ground := Ground.phase }, { on := 11, ground := Ground.phase }, { on := 12, ground := Ground.phase }, { on := 13, ground := Ground.phase }, { on := 14, ground := Ground.phase }, { on := 15, ground := Ground.phase }, { on := 16, ground := Ground.phase }], guard := none } rfl (by kernel_rfl) (by kernel_rfl) (by kernel_rfl) (fun _ _ _ h => h) (by rfl) hHeld ?_ ?_
    rotate_left
    · intro wS hSw; (try dsimp only at hSw); go_simp <;> with_reducible rfl
    try simp only [Act.put, List.setIfInBounds_toArray, List.set_cons_zero, List.set_cons_succ]
    refine wpAnyH_done (by kernel_rfl) ?_ _
    go_wp2_with fail
    go_ret
    exact ⟨rfl, hHeld.1⟩
end Go.Proofs.YtgkdjbdcmmegiaaGreatDoor
