/- The laws' look at entries of one replica, and the reference's calculations with them. Conditions: as each theorem says. -/
import Derived.Test.YtnlbohaealkelaaDoorNSet
import Derived.Test.YtnlbohaealkelaaDoorJMath
import Derived.Test.YtnlbohaealkelaaDoorCells
import Derived.Test.YtnlbohaealkelaaDoorNLaws
namespace Go.Proofs.YtnlbohaealkelaaDoor
open Go.RowKit
theorem f4_call {W w1 w2 : World} {p q r t : Addr} {a b c d : Value}
    (h : Below W.heap.size W w1 ∧ w1.cell? p = some a ∧ w1.cell? q = some b ∧ w1.cell? r = some c ∧ w1.cell? t = some d) (hb : Hid (Below w1.heap.size w1 w2)) :
    Below W.heap.size W w2 ∧ w2.cell? p = some a ∧ w2.cell? q = some b ∧ w2.cell? r = some c ∧ w2.cell? t = some d :=
  ⟨below_call h.1 hb.out, keep_cell h.2.1 hb.out, keep_cell h.2.2.1 hb.out, keep_cell h.2.2.2.1 hb.out, keep_cell h.2.2.2.2 hb.out⟩
theorem f4_drew {W w1 : World} {p q r t : Addr} {a b c d : Value}
    (h : Below W.heap.size W w1 ∧ w1.cell? p = some a ∧ w1.cell? q = some b ∧ w1.cell? r = some c ∧ w1.cell? t = some d) :
    Below W.heap.size W w1.drew ∧ w1.drew.cell? p = some a ∧ w1.drew.cell? q = some b ∧ w1.drew.cell? r = some c ∧ w1.drew.cell? t = some d := f4_call h (Lib.hid (Below.refl _ _).drew)
theorem r6_set {W w1 : World} {p0 p1 p2 p3 p4 p5 : Addr} {a0 a1 a2 a3 a4 a5 : Value} {g : Nat} (h : Below W.heap.size W w1 ∧ w1.cell? p0 = some a0 ∧ w1.cell? p1 = some a1 ∧ w1.cell? p2 = some a2 ∧ w1.cell? p3 = some a3 ∧ w1.cell? p4 = some a4 ∧ w1.cell? p5 = some a5) (hg : W.heap.size ≤ g) (h0 : p0.block ≠ g) (h1 : p1.block ≠ g) (h2 : p2.block ≠ g) (h3 : p3.block ≠ g) (h4 : p4.block ≠ g) (h5 : p5.block ≠ g) (x y z : Value) :
    Below W.heap.size W (((w1.setCell ⟨g, 0, none⟩ x).setCell ⟨g, 1, none⟩ y).setCell ⟨g, 2, none⟩ z) ∧ (((w1.setCell ⟨g, 0, none⟩ x).setCell ⟨g, 1, none⟩ y).setCell ⟨g, 2, none⟩ z).cell? p0 = some a0 ∧ (((w1.setCell ⟨g, 0, none⟩ x).setCell ⟨g, 1, none⟩ y).setCell ⟨g, 2, none⟩ z).cell? p1 = some a1 ∧ (((w1.setCell ⟨g, 0, none⟩ x).setCell ⟨g, 1, none⟩ y).setCell ⟨g, 2, none⟩ z).cell? p2 = some a2 ∧ (((w1.setCell ⟨g, 0, none⟩ x).setCell ⟨g, 1, none⟩ y).setCell ⟨g, 2, none⟩ z).cell? p3 = some a3 ∧ (((w1.setCell ⟨g, 0, none⟩ x).setCell ⟨g, 1, none⟩ y).setCell ⟨g, 2, none⟩ z).cell? p4 = some a4 ∧ (((w1.setCell ⟨g, 0, none⟩ x).setCell ⟨g, 1, none⟩ y).setCell ⟨g, 2, none⟩ z).cell? p5 = some a5 := by
  have far : ∀ k : Addr, k.block ≠ g → (((w1.setCell ⟨g, 0, none⟩ x).setCell ⟨g, 1, none⟩ y).setCell ⟨g, 2, none⟩ z).cell? k = w1.cell? k := fun k hk => by
    rw [World.cell?_setCell_other _ _ _ _ (fun e => hk (by rw [← e])), World.cell?_setCell_other _ _ _ _ (fun e => hk (by rw [← e])), World.cell?_setCell_other _ _ _ _ (fun e => hk (by rw [← e]))]
  obtain ⟨hb, c0, c1, c2, c3, c4, c5⟩ := h
  exact ⟨((hb.setCell (p := ⟨g, 0, none⟩) hg _).setCell (p := ⟨g, 1, none⟩) hg _).setCell (p := ⟨g, 2, none⟩) hg _, by rw [far _ h0]; exact c0, by rw [far _ h1]; exact c1, by rw [far _ h2]; exact c2, by rw [far _ h3]; exact c3, by rw [far _ h4]; exact c4, by rw [far _ h5]; exact c5⟩
/-- An entry that the laws take. -/
def okE (w : World) (r0 : Int) (e : Int × Int × Value) : Prop := e.1 = r0 ∧ ∃ H, IvsAt w e.2.2 H ∧ GoodE e.2.1 H ∧ H.length ≤ 60
/-- An entry that the laws turn away. -/
def badE (w : World) (r0 : Int) (e : Int × Int × Value) : Prop := (∃ q n cap, e.2.2 = .slice q n cap ∧ 60 < n) ∨ ∃ H, H.length ≤ 60 ∧ All64 H ∧ IvsAt w e.2.2 H ∧ (okN e.2.1 H = false ∨ (okN e.2.1 H = true ∧ e.1 ≠ r0))
theorem okE.call {w w' : World} {r0 : Int} {e : Int × Int × Value} (h : okE w r0 e) (hb : Below w.heap.size w w') : okE w' r0 e := by
  obtain ⟨h0, H, h1, h2, h3⟩ := h
  exact ⟨h0, H, h1.call hb, h2, h3⟩
theorem badE.call {w w' : World} {r0 : Int} {e : Int × Int × Value} (h : badE w r0 e) (hb : Below w.heap.size w w') : badE w' r0 e := by
  rcases h with h | ⟨H, h1, h2, h3, h4⟩
  · exact .inl h
  · exact .inr ⟨H, h1, h2, h3.call hb, h4⟩
theorem ent_split {w : World} (r0 : Int) {e : Int × Int × Value} (hm : 0 ≤ e.2.1 ∧ e.2.1 ≤ 18446744073709551615) (h : (∃ q n cap, e.2.2 = .slice q n cap ∧ 60 < n) ∨ ∃ H, H.length ≤ 60 ∧ All64 H ∧ IvsAt w e.2.2 H) : okE w r0 e ∨ badE w r0 e := by
  rcases h with h | ⟨H, hl, h64, hi⟩
  · exact .inr (.inl h)
  · cases ho : okN e.2.1 H with
    | false => exact .inr (.inr ⟨H, hl, h64, hi, .inl ho⟩)
    | true =>
      by_cases hr : e.1 = r0
      · exact .inl ⟨hr, H, hi, (okN_iff h64 hm).1 ho, hl⟩
      · exact .inr (.inr ⟨H, hl, h64, hi, .inr ⟨ho, hr⟩⟩)
theorem six_new (wr : World) (x y z : Value) (t : TypeId) {p : Addr} {d : Value} (hp : wr.cell? p = some d) :
    Below wr.heap.size wr (wr.alloc (.cells #[x, y, z] t)) ∧ (wr.alloc (.cells #[x, y, z] t)).cell? ⟨wr.heap.size, 0, none⟩ = some x ∧ (wr.alloc (.cells #[x, y, z] t)).cell? ⟨wr.heap.size, 1, none⟩ = some y ∧ (wr.alloc (.cells #[x, y, z] t)).cell? ⟨wr.heap.size, 2, none⟩ = some z ∧ (wr.alloc (.cells #[x, y, z] t)).cell? p = some d :=
  ⟨below_new _ _, by simp, by simp, by simp, keep_cell hp (below_new _ _)⟩
set_option maxRecDepth 100000 in
set_option maxHeartbeats 4000000 in
theorem rightsE_upto (n bl cp : Nat) (es : Nat → Int × Int × Value) (w : World) (m : Nat) (hm : m ≤ n) (hn : n ≤ 100) (h : ∀ i, i < n → w.cell? ⟨bl, i * 3, none⟩ = some (.int .u64 (es i).1) ∧ w.cell? ⟨bl, i * 3 + 1, none⟩ = some (.int .u64 (es i).2.1) ∧ w.cell? ⟨bl, i * 3 + 2, none⟩ = some (es i).2.2)
    (hok : ∀ i, i < m → okE w (es 0).1 (es i)) (hbad : m < n → badE w (es 0).1 (es m)) :
    Calls Tryd.prog 4 #[.slice (some ⟨bl, 0, none⟩) n cp] w (IsEnd (decide (m = n)) w) := by
  have HC := Lib.hid h
  have HK := Lib.hid hok
  have HD := Lib.hid hbad
  have HR := Lib.hid refRightE_any
  clear h hok hbad
  go_enter Tryd.func4, Tryd.ntmps4
  go_wp2_with fail
  go_loopw [4, 7] (fun _ i wr => ∃ k : Nat, k ≤ m ∧ i = .int .i64 k ∧ Below w.heap.size w wr) (fun _ i _ => n - (intOf i).toNat)
  case atStart => exact ⟨0, Nat.zero_le _, rfl, Below.refl _ _⟩
  case round =>
    obtain ⟨k, hk, rfl, hb⟩ := hrel
    have HB := Lib.hid hb; clear hb
    by_cases hlt : k < n
    · obtain ⟨c0, c1, c2⟩ := HC.out k hlt
      obtain ⟨z0, _, _⟩ := HC.out 0 (by omega)
      rw [Nat.zero_mul] at z0
      replace c0 := keep_cell c0 HB.out
      replace c1 := keep_cell c1 HB.out
      replace c2 := keep_cell c2 HB.out
      replace z0 := keep_cell z0 HB.out
      have i1 : (0 : Int) ≤ (k : Int) := by omega
      have i2 : (k : Int) < (n : Int) := by omega
      have i0 : (0 : Int) < (n : Int) := by omega
      have i00 : 0 < n := by omega
      obtain ⟨r0, hr0⟩ : ∃ r0, (es 0).1 = r0 := ⟨_, rfl⟩
      have KE := fun hkm => HK.out k hkm
      have DE := fun hlt' => HD.out hlt'
      rw [hr0] at z0 KE DE
      by_cases hkm : k < m
      · obtain ⟨hre, H, hi, hg, hl⟩ := (KE hkm).call HB.out
        obtain ⟨⟨r, mx, s⟩, he⟩ : ∃ e, es k = e := ⟨_, rfl⟩
        rw [he] at hre hi hg c0 c1 c2
        dsimp only at hre hi hg c0 c1 c2
        subst hre
        obtain ⟨p, cap, rfl, _⟩ := hi.shape
        have i3 : decide ((60 : Int) < (H.length : Int)) = false := by simp; omega
        have KR := Lib.hid (fun W hW => okN_good hg ▸ HR.out r mx H (.slice p H.length cap) W (hi.call hW) hg.good.all)
        have HS0 := Lib.hid (six_new wr (.int .u64 r) (.int .u64 mx) (.slice p H.length cap) 26 z0)
        clear hi hg he KE DE
        go_wp2_with fail
        clear c0 c1 c2 z0
        refine wp_region_held_drew (S := (fun w' : World => Below wr.heap.size wr w' ∧ w'.cell? ⟨wr.heap.size, 0, none⟩ = some (.int .u64 r) ∧ w'.cell? ⟨wr.heap.size, 1, none⟩ = some (.int .u64 mx) ∧ w'.cell? ⟨wr.heap.size, 2, none⟩ = some (.slice p H.length cap) ∧ w'.cell? ⟨bl, 0, none⟩ = some (.int .u64 r))) (by kernel_rfl) (f4_drew HS0.out) (fun hHeld => ?_)
        refine rtake (i := 0) (v := ?_) { dst := some 11, op := Op.fieldAddr 26 (Operand.tmp 4) 2, type := 0, pos := _, after := #[], guard := none } rfl (by kernel_rfl) (by kernel_rfl) (by kernel_rfl) (fun _ _ _ h => h) (by rfl) hHeld ?_ ?_
        rotate_left
        · intro wS hSw; (try dsimp only at hSw); go_simp <;> with_reducible rfl
        try simp only [Act.put, List.setIfInBounds_toArray, List.set_cons_zero, List.set_cons_succ]
        refine rtake (i := 1) (v := ?_) { dst := some 12, op := Op.load 24 (Operand.tmp 11), type := 24, pos := _, after := #[{ on := 0, ground := Ground.data }], guard := none } rfl (by kernel_rfl) (by kernel_rfl) (by kernel_rfl) (fun _ _ _ h => h) (by rfl) hHeld ?_ ?_
        rotate_left
        · intro wS hSw; (try dsimp only at hSw); go_simp <;> with_reducible rfl
        try simp only [Act.put, List.setIfInBounds_toArray, List.set_cons_zero, List.set_cons_succ]
        refine rtake (i := 2) (v := ?_) { dst := some 13, op := Op.call { callee := Callee.builtin Builtin.len, args := #[Operand.tmp 12], argTypes := #[24] }, type := 3, pos := _, after := #[{ on := 1, ground := Ground.data }], guard := none } rfl (by kernel_rfl) (by kernel_rfl) (by kernel_rfl) (fun _ _ _ h => h) (by rfl) hHeld ?_ ?_
        rotate_left
        · intro wS hSw; (try dsimp only at hSw); go_simp <;> with_reducible rfl
        try simp only [Act.put, List.setIfInBounds_toArray, List.set_cons_zero, List.set_cons_succ]
        refine rtake (i := 3) (v := ?_) { dst := some 14, op := Op.binOp BinOp.gtr 3 (Operand.tmp 13) (Operand.const (Value.int IntKind.i64 60)) 3, type := 4, pos := _, after := #[{ on := 2, ground := Ground.data }], guard := none } rfl (by kernel_rfl) (by kernel_rfl) (by kernel_rfl) (fun _ _ _ h => h) (by rfl) hHeld ?_ ?_
        rotate_left
        · intro wS hSw; (try dsimp only at hSw); go_simp <;> with_reducible rfl
        try simp only [Act.put, List.setIfInBounds_toArray, List.set_cons_zero, List.set_cons_succ]
        refine rtake (i := 4) (v := ?_) { dst := some 15, op := Op.move (Operand.tmp 14), type := 4, pos := _, after := #[{ on := 3, ground := Ground.data }], guard := none } rfl (by kernel_rfl) (by kernel_rfl) (by kernel_rfl) (fun _ _ _ h => h) (by rfl) hHeld ?_ ?_
        rotate_left
        · intro wS hSw; (try dsimp only at hSw); go_simp <;> with_reducible rfl
        try simp only [Act.put, List.setIfInBounds_toArray, List.set_cons_zero, List.set_cons_succ]
        refine rtake (i := 5) (v := ?_) { dst := some 16, op := Op.load 26 (Operand.tmp 4), type := 26, pos := _, after := #[{ on := 4, ground := Ground.guard }], guard := some (4, false) } rfl (by kernel_rfl) (by kernel_rfl) (by kernel_rfl) (fun _ _ _ h => h) (by rfl) hHeld ?_ ?_
        rotate_left
        · intro wS hSw; (try dsimp only at hSw); go_simp <;> with_reducible rfl
        try simp only [Act.put, List.setIfInBounds_toArray, List.set_cons_zero, List.set_cons_succ]
        refine wpAnyH_ready (rs := [6]) (by kernel_rfl) (by simp) (AllReadyH.cons (o := { dst := some 17, op := Op.call { callee := Callee.value (Operand.func 11), args := #[Operand.tmp 16], argTypes := #[26] }, type := 4, pos := _, after := #[{ on := 5, ground := Ground.data }, { on := 4, ground := Ground.chain }, { on := 4, ground := Ground.guard }], guard := some (4, false) }) rfl (fun K hK => ?_) AllReadyH.nil)
        go_simp
        refine (KR.out _ hHeld.1).mono ?_
        rintro en wN ⟨rfl, hbN⟩
        have hbH := Lib.hid hbN; clear hbN
        go_wp2_with fail
        refine hK.out _ _ (f4_call hHeld hbH) (fun hNew => ?_)
        clear hK K hHeld hbH
        have hHeld := hNew; clear hNew
        try simp only [Act.put, List.setIfInBounds_toArray, List.set_cons_zero, List.set_cons_succ]
        refine rtake (i := 7) (v := ?_) { dst := some 18, op := Op.unOp UnOp.not 4 (Operand.tmp 17), type := 4, pos := _, after := #[{ on := 6, ground := Ground.data }, { on := 4, ground := Ground.guard }], guard := some (4, false) } rfl (by kernel_rfl) (by kernel_rfl) (by kernel_rfl) (fun _ _ _ h => h) (by rfl) hHeld ?_ ?_
        rotate_left
        · intro wS hSw; (try dsimp only at hSw); go_simp <;> with_reducible rfl
        try simp only [Act.put, List.setIfInBounds_toArray, List.set_cons_zero, List.set_cons_succ]
        refine rtake (i := 8) (v := ?_) { dst := some 19, op := Op.pick (Operand.tmp 15) (Operand.const (Value.bool true)) (Operand.tmp 18), type := 4, pos := _, after := #[{ on := 4, ground := Ground.data }, { on := 7, ground := Ground.data }], guard := none } rfl (by kernel_rfl) (by kernel_rfl) (by kernel_rfl) (fun _ _ _ h => h) (by rfl) hHeld ?_ ?_
        rotate_left
        · intro wS hSw; (try dsimp only at hSw); go_simp <;> with_reducible rfl
        try simp only [Act.put, List.setIfInBounds_toArray, List.set_cons_zero, List.set_cons_succ]
        refine rtake (i := 9) (v := ?_) { dst := some 20, op := Op.move (Operand.tmp 19), type := 4, pos := _, after := #[{ on := 8, ground := Ground.data }, { on := 6, ground := Ground.chain }], guard := none } rfl (by kernel_rfl) (by kernel_rfl) (by kernel_rfl) (fun _ _ _ h => h) (by rfl) hHeld ?_ ?_
        rotate_left
        · intro wS hSw; (try dsimp only at hSw); go_simp <;> with_reducible rfl
        try simp only [Act.put, List.setIfInBounds_toArray, List.set_cons_zero, List.set_cons_succ]
        refine rtake (i := 10) (v := ?_) { dst := some 21, op := Op.fieldAddr 26 (Operand.tmp 4) 0, type := 0, pos := _, after := #[{ on := 9, ground := Ground.guard }], guard := some (9, false) } rfl (by kernel_rfl) (by kernel_rfl) (by kernel_rfl) (fun _ _ _ h => h) (by rfl) hHeld ?_ ?_
        rotate_left
        · intro wS hSw; (try dsimp only at hSw); go_simp <;> with_reducible rfl
        try simp only [Act.put, List.setIfInBounds_toArray, List.set_cons_zero, List.set_cons_succ]
        refine rtake (i := 11) (v := ?_) { dst := some 22, op := Op.load 22 (Operand.tmp 21), type := 22, pos := _, after := #[{ on := 10, ground := Ground.data }, { on := 9, ground := Ground.guard }], guard := some (9, false) } rfl (by kernel_rfl) (by kernel_rfl) (by kernel_rfl) (fun _ _ _ h => h) (by rfl) hHeld ?_ ?_
        rotate_left
        · intro wS hSw; (try dsimp only at hSw); go_simp <;> with_reducible rfl
        try simp only [Act.put, List.setIfInBounds_toArray, List.set_cons_zero, List.set_cons_succ]
        refine rtake (i := 12) (v := ?_) { dst := some 23, op := Op.move (Operand.tmp 0), type := 34, pos := _, after := #[{ on := 9, ground := Ground.guard }], guard := some (9, false) } rfl (by kernel_rfl) (by kernel_rfl) (by kernel_rfl) (fun _ _ _ h => h) (by rfl) hHeld ?_ ?_
        rotate_left
        · intro wS hSw; (try dsimp only at hSw); go_simp <;> with_reducible rfl
        try simp only [Act.put, List.setIfInBounds_toArray, List.set_cons_zero, List.set_cons_succ]
        refine rtake (i := 13) (v := ?_) { dst := some 24, op := Op.indexAddr 34 (Operand.tmp 23) (Operand.const (Value.int IntKind.i64 0)), type := 0, pos := _, after := #[{ on := 12, ground := Ground.data }, { on := 9, ground := Ground.guard }], guard := some (9, false) } rfl (by kernel_rfl) (by kernel_rfl) (by kernel_rfl) (fun _ _ _ h => h) (by rfl) hHeld ?_ ?_
        rotate_left
        · intro wS hSw; (try dsimp only at hSw); go_simp <;> with_reducible rfl
        try simp only [Act.put, List.setIfInBounds_toArray, List.set_cons_zero, List.set_cons_succ]
        refine rtake (i := 14) (v := ?_) { dst := some 25, op := Op.fieldAddr 26 (Operand.tmp 24) 0, type := 0, pos := _, after := #[{ on := 13, ground := Ground.data }, { on := 9, ground := Ground.guard }], guard := some (9, false) } rfl (by kernel_rfl) (by kernel_rfl) (by kernel_rfl) (fun _ _ _ h => h) (by rfl) hHeld ?_ ?_
        rotate_left
        · intro wS hSw; (try dsimp only at hSw); go_simp <;> with_reducible rfl
        try simp only [Act.put, List.setIfInBounds_toArray, List.set_cons_zero, List.set_cons_succ]
        refine rtake (i := 15) (v := ?_) { dst := some 26, op := Op.load 22 (Operand.tmp 25), type := 22, pos := _, after := #[{ on := 14, ground := Ground.data }, { on := 9, ground := Ground.guard }], guard := some (9, false) } rfl (by kernel_rfl) (by kernel_rfl) (by kernel_rfl) (fun _ _ _ h => h) (by rfl) hHeld ?_ ?_
        rotate_left
        · intro wS hSw; (try dsimp only at hSw); go_simp <;> with_reducible rfl
        try simp only [Act.put, List.setIfInBounds_toArray, List.set_cons_zero, List.set_cons_succ]
        refine rtake (i := 16) (v := ?_) { dst := some 27, op := Op.binOp BinOp.neq 22 (Operand.tmp 22) (Operand.tmp 26) 22, type := 4, pos := _, after := #[{ on := 11, ground := Ground.data }, { on := 15, ground := Ground.data }, { on := 9, ground := Ground.guard }], guard := some (9, false) } rfl (by kernel_rfl) (by kernel_rfl) (by kernel_rfl) (fun _ _ _ h => h) (by rfl) hHeld ?_ ?_
        rotate_left
        · intro wS hSw; (try dsimp only at hSw); go_simp <;> with_reducible rfl
        try simp only [Act.put, List.setIfInBounds_toArray, List.set_cons_zero, List.set_cons_succ]
        refine rtake (i := 17) (v := ?_) { dst := some 28, op := Op.pick (Operand.tmp 20) (Operand.const (Value.bool true)) (Operand.tmp 27), type := 4, pos := _, after := #[{ on := 9, ground := Ground.data }, { on := 16, ground := Ground.data }], guard := none } rfl (by kernel_rfl) (by kernel_rfl) (by kernel_rfl) (fun _ _ _ h => h) (by rfl) hHeld ?_ ?_
        rotate_left
        · intro wS hSw; (try dsimp only at hSw); go_simp <;> with_reducible rfl
        try simp only [Act.put, List.setIfInBounds_toArray, List.set_cons_zero, List.set_cons_succ]
        refine wpAnyH_done (by kernel_rfl) ?_ _
        have HW := Lib.hid hHeld.1
        clear hHeld
        go_wp2_with fail
        go_roundw
        case rel => exact ⟨k + 1, by omega, by go_num, below_call HB.out HW.out⟩
        case measure => simp [intOf]; omega
      · obtain rfl : k = m := by omega
        have hd : decide (k = n) = false := by simp; omega
        rw [hd]
        rcases (DE hlt).call HB.out with ⟨p, n', cap, hs, hn'⟩ | ⟨H, hl, h64, hi, hv⟩
        · obtain ⟨⟨r, mx, s⟩, he⟩ : ∃ e, es k = e := ⟨_, rfl⟩
          rw [he] at hs c0 c1 c2
          dsimp only at hs c0 c1 c2
          subst hs
          have i3 : decide ((60 : Int) < (n' : Int)) = true := by simp; omega
          have HS0 := Lib.hid (six_new wr (.int .u64 r) (.int .u64 mx) (.slice p n' cap) 26 z0)
          clear he KE DE
          go_wp2_with fail
          clear c0 c1 c2 z0
          refine wp_region_held_drew (S := (fun w' : World => Below wr.heap.size wr w' ∧ w'.cell? ⟨wr.heap.size, 0, none⟩ = some (.int .u64 r) ∧ w'.cell? ⟨wr.heap.size, 1, none⟩ = some (.int .u64 mx) ∧ w'.cell? ⟨wr.heap.size, 2, none⟩ = some (.slice p n' cap) ∧ w'.cell? ⟨bl, 0, none⟩ = some (.int .u64 r0))) (by kernel_rfl) (f4_drew HS0.out) (fun hHeld => ?_)
          refine rtake (i := 0) (v := ?_) { dst := some 11, op := Op.fieldAddr 26 (Operand.tmp 4) 2, type := 0, pos := _, after := #[], guard := none } rfl (by kernel_rfl) (by kernel_rfl) (by kernel_rfl) (fun _ _ _ h => h) (by rfl) hHeld ?_ ?_
          rotate_left
          · intro wS hSw; (try dsimp only at hSw); go_simp <;> with_reducible rfl
          try simp only [Act.put, List.setIfInBounds_toArray, List.set_cons_zero, List.set_cons_succ]
          refine rtake (i := 1) (v := ?_) { dst := some 12, op := Op.load 24 (Operand.tmp 11), type := 24, pos := _, after := #[{ on := 0, ground := Ground.data }], guard := none } rfl (by kernel_rfl) (by kernel_rfl) (by kernel_rfl) (fun _ _ _ h => h) (by rfl) hHeld ?_ ?_
          rotate_left
          · intro wS hSw; (try dsimp only at hSw); go_simp <;> with_reducible rfl
          try simp only [Act.put, List.setIfInBounds_toArray, List.set_cons_zero, List.set_cons_succ]
          refine rtake (i := 2) (v := ?_) { dst := some 13, op := Op.call { callee := Callee.builtin Builtin.len, args := #[Operand.tmp 12], argTypes := #[24] }, type := 3, pos := _, after := #[{ on := 1, ground := Ground.data }], guard := none } rfl (by kernel_rfl) (by kernel_rfl) (by kernel_rfl) (fun _ _ _ h => h) (by rfl) hHeld ?_ ?_
          rotate_left
          · intro wS hSw; (try dsimp only at hSw); go_simp <;> with_reducible rfl
          try simp only [Act.put, List.setIfInBounds_toArray, List.set_cons_zero, List.set_cons_succ]
          refine rtake (i := 3) (v := ?_) { dst := some 14, op := Op.binOp BinOp.gtr 3 (Operand.tmp 13) (Operand.const (Value.int IntKind.i64 60)) 3, type := 4, pos := _, after := #[{ on := 2, ground := Ground.data }], guard := none } rfl (by kernel_rfl) (by kernel_rfl) (by kernel_rfl) (fun _ _ _ h => h) (by rfl) hHeld ?_ ?_
          rotate_left
          · intro wS hSw; (try dsimp only at hSw); go_simp <;> with_reducible rfl
          try simp only [Act.put, List.setIfInBounds_toArray, List.set_cons_zero, List.set_cons_succ]
          refine rtake (i := 4) (v := ?_) { dst := some 15, op := Op.move (Operand.tmp 14), type := 4, pos := _, after := #[{ on := 3, ground := Ground.data }], guard := none } rfl (by kernel_rfl) (by kernel_rfl) (by kernel_rfl) (fun _ _ _ h => h) (by rfl) hHeld ?_ ?_
          rotate_left
          · intro wS hSw; (try dsimp only at hSw); go_simp <;> with_reducible rfl
          try simp only [Act.put, List.setIfInBounds_toArray, List.set_cons_zero, List.set_cons_succ]
          refine rskip (i := 5) { dst := some 16, op := Op.load 26 (Operand.tmp 4), type := 26, pos := _, after := #[{ on := 4, ground := Ground.guard }], guard := some (4, false) } rfl (by kernel_rfl) (by kernel_rfl) (by kernel_rfl) (fun _ _ _ h => h) (by rfl) hHeld ?_
          try simp only [Act.put, List.setIfInBounds_toArray, List.set_cons_zero, List.set_cons_succ]
          refine rskip (i := 6) { dst := some 17, op := Op.call { callee := Callee.value (Operand.func 11), args := #[Operand.tmp 16], argTypes := #[26] }, type := 4, pos := _, after := #[{ on := 5, ground := Ground.data }, { on := 4, ground := Ground.chain }, { on := 4, ground := Ground.guard }], guard := some (4, false) } rfl (by kernel_rfl) (by kernel_rfl) (by kernel_rfl) (fun _ _ _ h => h) (by rfl) hHeld ?_
          try simp only [Act.put, List.setIfInBounds_toArray, List.set_cons_zero, List.set_cons_succ]
          refine rskip (i := 7) { dst := some 18, op := Op.unOp UnOp.not 4 (Operand.tmp 17), type := 4, pos := _, after := #[{ on := 6, ground := Ground.data }, { on := 4, ground := Ground.guard }], guard := some (4, false) } rfl (by kernel_rfl) (by kernel_rfl) (by kernel_rfl) (fun _ _ _ h => h) (by rfl) hHeld ?_
          try simp only [Act.put, List.setIfInBounds_toArray, List.set_cons_zero, List.set_cons_succ]
          refine rtake (i := 8) (v := ?_) { dst := some 19, op := Op.pick (Operand.tmp 15) (Operand.const (Value.bool true)) (Operand.tmp 18), type := 4, pos := _, after := #[{ on := 4, ground := Ground.data }, { on := 7, ground := Ground.data }], guard := none } rfl (by kernel_rfl) (by kernel_rfl) (by kernel_rfl) (fun _ _ _ h => h) (by rfl) hHeld ?_ ?_
          rotate_left
          · intro wS hSw; (try dsimp only at hSw); go_simp <;> with_reducible rfl
          try simp only [Act.put, List.setIfInBounds_toArray, List.set_cons_zero, List.set_cons_succ]
          refine rtake (i := 9) (v := ?_) { dst := some 20, op := Op.move (Operand.tmp 19), type := 4, pos := _, after := #[{ on := 8, ground := Ground.data }, { on := 6, ground := Ground.chain }], guard := none } rfl (by kernel_rfl) (by kernel_rfl) (by kernel_rfl) (fun _ _ _ h => h) (by rfl) hHeld ?_ ?_
          rotate_left
          · intro wS hSw; (try dsimp only at hSw); go_simp <;> with_reducible rfl
          try simp only [Act.put, List.setIfInBounds_toArray, List.set_cons_zero, List.set_cons_succ]
          refine rskip (i := 10) { dst := some 21, op := Op.fieldAddr 26 (Operand.tmp 4) 0, type := 0, pos := _, after := #[{ on := 9, ground := Ground.guard }], guard := some (9, false) } rfl (by kernel_rfl) (by kernel_rfl) (by kernel_rfl) (fun _ _ _ h => h) (by rfl) hHeld ?_
          try simp only [Act.put, List.setIfInBounds_toArray, List.set_cons_zero, List.set_cons_succ]
          refine rskip (i := 11) { dst := some 22, op := Op.load 22 (Operand.tmp 21), type := 22, pos := _, after := #[{ on := 10, ground := Ground.data }, { on := 9, ground := Ground.guard }], guard := some (9, false) } rfl (by kernel_rfl) (by kernel_rfl) (by kernel_rfl) (fun _ _ _ h => h) (by rfl) hHeld ?_
          try simp only [Act.put, List.setIfInBounds_toArray, List.set_cons_zero, List.set_cons_succ]
          refine rskip (i := 12) { dst := some 23, op := Op.move (Operand.tmp 0), type := 34, pos := _, after := #[{ on := 9, ground := Ground.guard }], guard := some (9, false) } rfl (by kernel_rfl) (by kernel_rfl) (by kernel_rfl) (fun _ _ _ h => h) (by rfl) hHeld ?_
          try simp only [Act.put, List.setIfInBounds_toArray, List.set_cons_zero, List.set_cons_succ]
          refine rskip (i := 13) { dst := some 24, op := Op.indexAddr 34 (Operand.tmp 23) (Operand.const (Value.int IntKind.i64 0)), type := 0, pos := _, after := #[{ on := 12, ground := Ground.data }, { on := 9, ground := Ground.guard }], guard := some (9, false) } rfl (by kernel_rfl) (by kernel_rfl) (by kernel_rfl) (fun _ _ _ h => h) (by rfl) hHeld ?_
          try simp only [Act.put, List.setIfInBounds_toArray, List.set_cons_zero, List.set_cons_succ]
          refine rskip (i := 14) { dst := some 25, op := Op.fieldAddr 26 (Operand.tmp 24) 0, type := 0, pos := _, after := #[{ on := 13, ground := Ground.data }, { on := 9, ground := Ground.guard }], guard := some (9, false) } rfl (by kernel_rfl) (by kernel_rfl) (by kernel_rfl) (fun _ _ _ h => h) (by rfl) hHeld ?_
          try simp only [Act.put, List.setIfInBounds_toArray, List.set_cons_zero, List.set_cons_succ]
          refine rskip (i := 15) { dst := some 26, op := Op.load 22 (Operand.tmp 25), type := 22, pos := _, after := #[{ on := 14, ground := Ground.data }, { on := 9, ground := Ground.guard }], guard := some (9, false) } rfl (by kernel_rfl) (by kernel_rfl) (by kernel_rfl) (fun _ _ _ h => h) (by rfl) hHeld ?_
          try simp only [Act.put, List.setIfInBounds_toArray, List.set_cons_zero, List.set_cons_succ]
          refine rskip (i := 16) { dst := some 27, op := Op.binOp BinOp.neq 22 (Operand.tmp 22) (Operand.tmp 26) 22, type := 4, pos := _, after := #[{ on := 11, ground := Ground.data }, { on := 15, ground := Ground.data }, { on := 9, ground := Ground.guard }], guard := some (9, false) } rfl (by kernel_rfl) (by kernel_rfl) (by kernel_rfl) (fun _ _ _ h => h) (by rfl) hHeld ?_
          try simp only [Act.put, List.setIfInBounds_toArray, List.set_cons_zero, List.set_cons_succ]
          refine rtake (i := 17) (v := ?_) { dst := some 28, op := Op.pick (Operand.tmp 20) (Operand.const (Value.bool true)) (Operand.tmp 27), type := 4, pos := _, after := #[{ on := 9, ground := Ground.data }, { on := 16, ground := Ground.data }], guard := none } rfl (by kernel_rfl) (by kernel_rfl) (by kernel_rfl) (fun _ _ _ h => h) (by rfl) hHeld ?_ ?_
          rotate_left
          · intro wS hSw; (try dsimp only at hSw); go_simp <;> with_reducible rfl
          try simp only [Act.put, List.setIfInBounds_toArray, List.set_cons_zero, List.set_cons_succ]
          refine wpAnyH_done (by kernel_rfl) ?_ _
          have HW := Lib.hid hHeld.1
          clear hHeld
          go_wp2_with fail
          go_ret
          exact ⟨rfl, below_call HB.out HW.out⟩
        · obtain ⟨⟨r, mx, s⟩, he⟩ : ∃ e, es k = e := ⟨_, rfl⟩
          rw [he] at hi hv c0 c1 c2
          dsimp only at hi hv c0 c1 c2
          obtain ⟨p, cap, rfl, _⟩ := hi.shape
          have i3 : decide ((60 : Int) < (H.length : Int)) = false := by simp; omega
          have HS0 := Lib.hid (six_new wr (.int .u64 r) (.int .u64 mx) (.slice p H.length cap) 26 z0)
          rcases hv with hv | ⟨hv, hne⟩
          · have KR := Lib.hid (fun W hW => hv ▸ HR.out r mx H (.slice p H.length cap) W (hi.call hW) h64)
            clear hi he KE DE h64 hv
            go_wp2_with fail
            clear c0 c1 c2 z0
            refine wp_region_held_drew (S := (fun w' : World => Below wr.heap.size wr w' ∧ w'.cell? ⟨wr.heap.size, 0, none⟩ = some (.int .u64 r) ∧ w'.cell? ⟨wr.heap.size, 1, none⟩ = some (.int .u64 mx) ∧ w'.cell? ⟨wr.heap.size, 2, none⟩ = some (.slice p H.length cap) ∧ w'.cell? ⟨bl, 0, none⟩ = some (.int .u64 r0))) (by kernel_rfl) (f4_drew HS0.out) (fun hHeld => ?_)
            refine rtake (i := 0) (v := ?_) { dst := some 11, op := Op.fieldAddr 26 (Operand.tmp 4) 2, type := 0, pos := _, after := #[], guard := none } rfl (by kernel_rfl) (by kernel_rfl) (by kernel_rfl) (fun _ _ _ h => h) (by rfl) hHeld ?_ ?_
            rotate_left
            · intro wS hSw; (try dsimp only at hSw); go_simp <;> with_reducible rfl
            try simp only [Act.put, List.setIfInBounds_toArray, List.set_cons_zero, List.set_cons_succ]
            refine rtake (i := 1) (v := ?_) { dst := some 12, op := Op.load 24 (Operand.tmp 11), type := 24, pos := _, after := #[{ on := 0, ground := Ground.data }], guard := none } rfl (by kernel_rfl) (by kernel_rfl) (by kernel_rfl) (fun _ _ _ h => h) (by rfl) hHeld ?_ ?_
            rotate_left
            · intro wS hSw; (try dsimp only at hSw); go_simp <;> with_reducible rfl
            try simp only [Act.put, List.setIfInBounds_toArray, List.set_cons_zero, List.set_cons_succ]
            refine rtake (i := 2) (v := ?_) { dst := some 13, op := Op.call { callee := Callee.builtin Builtin.len, args := #[Operand.tmp 12], argTypes := #[24] }, type := 3, pos := _, after := #[{ on := 1, ground := Ground.data }], guard := none } rfl (by kernel_rfl) (by kernel_rfl) (by kernel_rfl) (fun _ _ _ h => h) (by rfl) hHeld ?_ ?_
            rotate_left
            · intro wS hSw; (try dsimp only at hSw); go_simp <;> with_reducible rfl
            try simp only [Act.put, List.setIfInBounds_toArray, List.set_cons_zero, List.set_cons_succ]
            refine rtake (i := 3) (v := ?_) { dst := some 14, op := Op.binOp BinOp.gtr 3 (Operand.tmp 13) (Operand.const (Value.int IntKind.i64 60)) 3, type := 4, pos := _, after := #[{ on := 2, ground := Ground.data }], guard := none } rfl (by kernel_rfl) (by kernel_rfl) (by kernel_rfl) (fun _ _ _ h => h) (by rfl) hHeld ?_ ?_
            rotate_left
            · intro wS hSw; (try dsimp only at hSw); go_simp <;> with_reducible rfl
            try simp only [Act.put, List.setIfInBounds_toArray, List.set_cons_zero, List.set_cons_succ]
            refine rtake (i := 4) (v := ?_) { dst := some 15, op := Op.move (Operand.tmp 14), type := 4, pos := _, after := #[{ on := 3, ground := Ground.data }], guard := none } rfl (by kernel_rfl) (by kernel_rfl) (by kernel_rfl) (fun _ _ _ h => h) (by rfl) hHeld ?_ ?_
            rotate_left
            · intro wS hSw; (try dsimp only at hSw); go_simp <;> with_reducible rfl
            try simp only [Act.put, List.setIfInBounds_toArray, List.set_cons_zero, List.set_cons_succ]
            refine rtake (i := 5) (v := ?_) { dst := some 16, op := Op.load 26 (Operand.tmp 4), type := 26, pos := _, after := #[{ on := 4, ground := Ground.guard }], guard := some (4, false) } rfl (by kernel_rfl) (by kernel_rfl) (by kernel_rfl) (fun _ _ _ h => h) (by rfl) hHeld ?_ ?_
            rotate_left
            · intro wS hSw; (try dsimp only at hSw); go_simp <;> with_reducible rfl
            try simp only [Act.put, List.setIfInBounds_toArray, List.set_cons_zero, List.set_cons_succ]
            refine wpAnyH_ready (rs := [6]) (by kernel_rfl) (by simp) (AllReadyH.cons (o := { dst := some 17, op := Op.call { callee := Callee.value (Operand.func 11), args := #[Operand.tmp 16], argTypes := #[26] }, type := 4, pos := _, after := #[{ on := 5, ground := Ground.data }, { on := 4, ground := Ground.chain }, { on := 4, ground := Ground.guard }], guard := some (4, false) }) rfl (fun K hK => ?_) AllReadyH.nil)
            go_simp
            refine (KR.out _ hHeld.1).mono ?_
            rintro en wN ⟨rfl, hbN⟩
            have hbH := Lib.hid hbN; clear hbN
            go_wp2_with fail
            refine hK.out _ _ (f4_call hHeld hbH) (fun hNew => ?_)
            clear hK K hHeld hbH
            have hHeld := hNew; clear hNew
            try simp only [Act.put, List.setIfInBounds_toArray, List.set_cons_zero, List.set_cons_succ]
            refine rtake (i := 7) (v := ?_) { dst := some 18, op := Op.unOp UnOp.not 4 (Operand.tmp 17), type := 4, pos := _, after := #[{ on := 6, ground := Ground.data }, { on := 4, ground := Ground.guard }], guard := some (4, false) } rfl (by kernel_rfl) (by kernel_rfl) (by kernel_rfl) (fun _ _ _ h => h) (by rfl) hHeld ?_ ?_
            rotate_left
            · intro wS hSw; (try dsimp only at hSw); go_simp <;> with_reducible rfl
            try simp only [Act.put, List.setIfInBounds_toArray, List.set_cons_zero, List.set_cons_succ]
            refine rtake (i := 8) (v := ?_) { dst := some 19, op := Op.pick (Operand.tmp 15) (Operand.const (Value.bool true)) (Operand.tmp 18), type := 4, pos := _, after := #[{ on := 4, ground := Ground.data }, { on := 7, ground := Ground.data }], guard := none } rfl (by kernel_rfl) (by kernel_rfl) (by kernel_rfl) (fun _ _ _ h => h) (by rfl) hHeld ?_ ?_
            rotate_left
            · intro wS hSw; (try dsimp only at hSw); go_simp <;> with_reducible rfl
            try simp only [Act.put, List.setIfInBounds_toArray, List.set_cons_zero, List.set_cons_succ]
            refine rtake (i := 9) (v := ?_) { dst := some 20, op := Op.move (Operand.tmp 19), type := 4, pos := _, after := #[{ on := 8, ground := Ground.data }, { on := 6, ground := Ground.chain }], guard := none } rfl (by kernel_rfl) (by kernel_rfl) (by kernel_rfl) (fun _ _ _ h => h) (by rfl) hHeld ?_ ?_
            rotate_left
            · intro wS hSw; (try dsimp only at hSw); go_simp <;> with_reducible rfl
            try simp only [Act.put, List.setIfInBounds_toArray, List.set_cons_zero, List.set_cons_succ]
            refine rskip (i := 10) { dst := some 21, op := Op.fieldAddr 26 (Operand.tmp 4) 0, type := 0, pos := _, after := #[{ on := 9, ground := Ground.guard }], guard := some (9, false) } rfl (by kernel_rfl) (by kernel_rfl) (by kernel_rfl) (fun _ _ _ h => h) (by rfl) hHeld ?_
            try simp only [Act.put, List.setIfInBounds_toArray, List.set_cons_zero, List.set_cons_succ]
            refine rskip (i := 11) { dst := some 22, op := Op.load 22 (Operand.tmp 21), type := 22, pos := _, after := #[{ on := 10, ground := Ground.data }, { on := 9, ground := Ground.guard }], guard := some (9, false) } rfl (by kernel_rfl) (by kernel_rfl) (by kernel_rfl) (fun _ _ _ h => h) (by rfl) hHeld ?_
            try simp only [Act.put, List.setIfInBounds_toArray, List.set_cons_zero, List.set_cons_succ]
            refine rskip (i := 12) { dst := some 23, op := Op.move (Operand.tmp 0), type := 34, pos := _, after := #[{ on := 9, ground := Ground.guard }], guard := some (9, false) } rfl (by kernel_rfl) (by kernel_rfl) (by kernel_rfl) (fun _ _ _ h => h) (by rfl) hHeld ?_
            try simp only [Act.put, List.setIfInBounds_toArray, List.set_cons_zero, List.set_cons_succ]
            refine rskip (i := 13) { dst := some 24, op := Op.indexAddr 34 (Operand.tmp 23) (Operand.const (Value.int IntKind.i64 0)), type := 0, pos := _, after := #[{ on := 12, ground := Ground.data }, { on := 9, ground := Ground.guard }], guard := some (9, false) } rfl (by kernel_rfl) (by kernel_rfl) (by kernel_rfl) (fun _ _ _ h => h) (by rfl) hHeld ?_
            try simp only [Act.put, List.setIfInBounds_toArray, List.set_cons_zero, List.set_cons_succ]
            refine rskip (i := 14) { dst := some 25, op := Op.fieldAddr 26 (Operand.tmp 24) 0, type := 0, pos := _, after := #[{ on := 13, ground := Ground.data }, { on := 9, ground := Ground.guard }], guard := some (9, false) } rfl (by kernel_rfl) (by kernel_rfl) (by kernel_rfl) (fun _ _ _ h => h) (by rfl) hHeld ?_
            try simp only [Act.put, List.setIfInBounds_toArray, List.set_cons_zero, List.set_cons_succ]
            refine rskip (i := 15) { dst := some 26, op := Op.load 22 (Operand.tmp 25), type := 22, pos := _, after := #[{ on := 14, ground := Ground.data }, { on := 9, ground := Ground.guard }], guard := some (9, false) } rfl (by kernel_rfl) (by kernel_rfl) (by kernel_rfl) (fun _ _ _ h => h) (by rfl) hHeld ?_
            try simp only [Act.put, List.setIfInBounds_toArray, List.set_cons_zero, List.set_cons_succ]
            refine rskip (i := 16) { dst := some 27, op := Op.binOp BinOp.neq 22 (Operand.tmp 22) (Operand.tmp 26) 22, type := 4, pos := _, after := #[{ on := 11, ground := Ground.data }, { on := 15, ground := Ground.data }, { on := 9, ground := Ground.guard }], guard := some (9, false) } rfl (by kernel_rfl) (by kernel_rfl) (by kernel_rfl) (fun _ _ _ h => h) (by rfl) hHeld ?_
            try simp only [Act.put, List.setIfInBounds_toArray, List.set_cons_zero, List.set_cons_succ]
            refine rtake (i := 17) (v := ?_) { dst := some 28, op := Op.pick (Operand.tmp 20) (Operand.const (Value.bool true)) (Operand.tmp 27), type := 4, pos := _, after := #[{ on := 9, ground := Ground.data }, { on := 16, ground := Ground.data }], guard := none } rfl (by kernel_rfl) (by kernel_rfl) (by kernel_rfl) (fun _ _ _ h => h) (by rfl) hHeld ?_ ?_
            rotate_left
            · intro wS hSw; (try dsimp only at hSw); go_simp <;> with_reducible rfl
            try simp only [Act.put, List.setIfInBounds_toArray, List.set_cons_zero, List.set_cons_succ]
            refine wpAnyH_done (by kernel_rfl) ?_ _
            have HW := Lib.hid hHeld.1
            clear hHeld
            go_wp2_with fail
            go_ret
            exact ⟨rfl, below_call HB.out HW.out⟩
          · have KR := Lib.hid (fun W hW => hv ▸ HR.out r mx H (.slice p H.length cap) W (hi.call hW) h64)
            have i4 : (r != r0) = true := by simpa using hne
            clear hi he KE DE h64 hv hne
            go_wp2_with fail
            clear c0 c1 c2 z0
            refine wp_region_held_drew (S := (fun w' : World => Below wr.heap.size wr w' ∧ w'.cell? ⟨wr.heap.size, 0, none⟩ = some (.int .u64 r) ∧ w'.cell? ⟨wr.heap.size, 1, none⟩ = some (.int .u64 mx) ∧ w'.cell? ⟨wr.heap.size, 2, none⟩ = some (.slice p H.length cap) ∧ w'.cell? ⟨bl, 0, none⟩ = some (.int .u64 r0))) (by kernel_rfl) (f4_drew HS0.out) (fun hHeld => ?_)
            refine rtake (i := 0) (v := ?_) { dst := some 11, op := Op.fieldAddr 26 (Operand.tmp 4) 2, type := 0, pos := _, after := #[], guard := none } rfl (by kernel_rfl) (by kernel_rfl) (by kernel_rfl) (fun _ _ _ h => h) (by rfl) hHeld ?_ ?_
            rotate_left
            · intro wS hSw; (try dsimp only at hSw); go_simp <;> with_reducible rfl
            try simp only [Act.put, List.setIfInBounds_toArray, List.set_cons_zero, List.set_cons_succ]
            refine rtake (i := 1) (v := ?_) { dst := some 12, op := Op.load 24 (Operand.tmp 11), type := 24, pos := _, after := #[{ on := 0, ground := Ground.data }], guard := none } rfl (by kernel_rfl) (by kernel_rfl) (by kernel_rfl) (fun _ _ _ h => h) (by rfl) hHeld ?_ ?_
            rotate_left
            · intro wS hSw; (try dsimp only at hSw); go_simp <;> with_reducible rfl
            try simp only [Act.put, List.setIfInBounds_toArray, List.set_cons_zero, List.set_cons_succ]
            refine rtake (i := 2) (v := ?_) { dst := some 13, op := Op.call { callee := Callee.builtin Builtin.len, args := #[Operand.tmp 12], argTypes := #[24] }, type := 3, pos := _, after := #[{ on := 1, ground := Ground.data }], guard := none } rfl (by kernel_rfl) (by kernel_rfl) (by kernel_rfl) (fun _ _ _ h => h) (by rfl) hHeld ?_ ?_
            rotate_left
            · intro wS hSw; (try dsimp only at hSw); go_simp <;> with_reducible rfl
            try simp only [Act.put, List.setIfInBounds_toArray, List.set_cons_zero, List.set_cons_succ]
            refine rtake (i := 3) (v := ?_) { dst := some 14, op := Op.binOp BinOp.gtr 3 (Operand.tmp 13) (Operand.const (Value.int IntKind.i64 60)) 3, type := 4, pos := _, after := #[{ on := 2, ground := Ground.data }], guard := none } rfl (by kernel_rfl) (by kernel_rfl) (by kernel_rfl) (fun _ _ _ h => h) (by rfl) hHeld ?_ ?_
            rotate_left
            · intro wS hSw; (try dsimp only at hSw); go_simp <;> with_reducible rfl
            try simp only [Act.put, List.setIfInBounds_toArray, List.set_cons_zero, List.set_cons_succ]
            refine rtake (i := 4) (v := ?_) { dst := some 15, op := Op.move (Operand.tmp 14), type := 4, pos := _, after := #[{ on := 3, ground := Ground.data }], guard := none } rfl (by kernel_rfl) (by kernel_rfl) (by kernel_rfl) (fun _ _ _ h => h) (by rfl) hHeld ?_ ?_
            rotate_left
            · intro wS hSw; (try dsimp only at hSw); go_simp <;> with_reducible rfl
            try simp only [Act.put, List.setIfInBounds_toArray, List.set_cons_zero, List.set_cons_succ]
            refine rtake (i := 5) (v := ?_) { dst := some 16, op := Op.load 26 (Operand.tmp 4), type := 26, pos := _, after := #[{ on := 4, ground := Ground.guard }], guard := some (4, false) } rfl (by kernel_rfl) (by kernel_rfl) (by kernel_rfl) (fun _ _ _ h => h) (by rfl) hHeld ?_ ?_
            rotate_left
            · intro wS hSw; (try dsimp only at hSw); go_simp <;> with_reducible rfl
            try simp only [Act.put, List.setIfInBounds_toArray, List.set_cons_zero, List.set_cons_succ]
            refine wpAnyH_ready (rs := [6]) (by kernel_rfl) (by simp) (AllReadyH.cons (o := { dst := some 17, op := Op.call { callee := Callee.value (Operand.func 11), args := #[Operand.tmp 16], argTypes := #[26] }, type := 4, pos := _, after := #[{ on := 5, ground := Ground.data }, { on := 4, ground := Ground.chain }, { on := 4, ground := Ground.guard }], guard := some (4, false) }) rfl (fun K hK => ?_) AllReadyH.nil)
            go_simp
            refine (KR.out _ hHeld.1).mono ?_
            rintro en wN ⟨rfl, hbN⟩
            have hbH := Lib.hid hbN; clear hbN
            go_wp2_with fail
            refine hK.out _ _ (f4_call hHeld hbH) (fun hNew => ?_)
            clear hK K hHeld hbH
            have hHeld := hNew; clear hNew
            try simp only [Act.put, List.setIfInBounds_toArray, List.set_cons_zero, List.set_cons_succ]
            refine rtake (i := 7) (v := ?_) { dst := some 18, op := Op.unOp UnOp.not 4 (Operand.tmp 17), type := 4, pos := _, after := #[{ on := 6, ground := Ground.data }, { on := 4, ground := Ground.guard }], guard := some (4, false) } rfl (by kernel_rfl) (by kernel_rfl) (by kernel_rfl) (fun _ _ _ h => h) (by rfl) hHeld ?_ ?_
            rotate_left
            · intro wS hSw; (try dsimp only at hSw); go_simp <;> with_reducible rfl
            try simp only [Act.put, List.setIfInBounds_toArray, List.set_cons_zero, List.set_cons_succ]
            refine rtake (i := 8) (v := ?_) { dst := some 19, op := Op.pick (Operand.tmp 15) (Operand.const (Value.bool true)) (Operand.tmp 18), type := 4, pos := _, after := #[{ on := 4, ground := Ground.data }, { on := 7, ground := Ground.data }], guard := none } rfl (by kernel_rfl) (by kernel_rfl) (by kernel_rfl) (fun _ _ _ h => h) (by rfl) hHeld ?_ ?_
            rotate_left
            · intro wS hSw; (try dsimp only at hSw); go_simp <;> with_reducible rfl
            try simp only [Act.put, List.setIfInBounds_toArray, List.set_cons_zero, List.set_cons_succ]
            refine rtake (i := 9) (v := ?_) { dst := some 20, op := Op.move (Operand.tmp 19), type := 4, pos := _, after := #[{ on := 8, ground := Ground.data }, { on := 6, ground := Ground.chain }], guard := none } rfl (by kernel_rfl) (by kernel_rfl) (by kernel_rfl) (fun _ _ _ h => h) (by rfl) hHeld ?_ ?_
            rotate_left
            · intro wS hSw; (try dsimp only at hSw); go_simp <;> with_reducible rfl
            try simp only [Act.put, List.setIfInBounds_toArray, List.set_cons_zero, List.set_cons_succ]
            refine rtake (i := 10) (v := ?_) { dst := some 21, op := Op.fieldAddr 26 (Operand.tmp 4) 0, type := 0, pos := _, after := #[{ on := 9, ground := Ground.guard }], guard := some (9, false) } rfl (by kernel_rfl) (by kernel_rfl) (by kernel_rfl) (fun _ _ _ h => h) (by rfl) hHeld ?_ ?_
            rotate_left
            · intro wS hSw; (try dsimp only at hSw); go_simp <;> with_reducible rfl
            try simp only [Act.put, List.setIfInBounds_toArray, List.set_cons_zero, List.set_cons_succ]
            refine rtake (i := 11) (v := ?_) { dst := some 22, op := Op.load 22 (Operand.tmp 21), type := 22, pos := _, after := #[{ on := 10, ground := Ground.data }, { on := 9, ground := Ground.guard }], guard := some (9, false) } rfl (by kernel_rfl) (by kernel_rfl) (by kernel_rfl) (fun _ _ _ h => h) (by rfl) hHeld ?_ ?_
            rotate_left
            · intro wS hSw; (try dsimp only at hSw); go_simp <;> with_reducible rfl
            try simp only [Act.put, List.setIfInBounds_toArray, List.set_cons_zero, List.set_cons_succ]
            refine rtake (i := 12) (v := ?_) { dst := some 23, op := Op.move (Operand.tmp 0), type := 34, pos := _, after := #[{ on := 9, ground := Ground.guard }], guard := some (9, false) } rfl (by kernel_rfl) (by kernel_rfl) (by kernel_rfl) (fun _ _ _ h => h) (by rfl) hHeld ?_ ?_
            rotate_left
            · intro wS hSw; (try dsimp only at hSw); go_simp <;> with_reducible rfl
            try simp only [Act.put, List.setIfInBounds_toArray, List.set_cons_zero, List.set_cons_succ]
            refine rtake (i := 13) (v := ?_) { dst := some 24, op := Op.indexAddr 34 (Operand.tmp 23) (Operand.const (Value.int IntKind.i64 0)), type := 0, pos := _, after := #[{ on := 12, ground := Ground.data }, { on := 9, ground := Ground.guard }], guard := some (9, false) } rfl (by kernel_rfl) (by kernel_rfl) (by kernel_rfl) (fun _ _ _ h => h) (by rfl) hHeld ?_ ?_
            rotate_left
            · intro wS hSw; (try dsimp only at hSw); go_simp <;> with_reducible rfl
            try simp only [Act.put, List.setIfInBounds_toArray, List.set_cons_zero, List.set_cons_succ]
            refine rtake (i := 14) (v := ?_) { dst := some 25, op := Op.fieldAddr 26 (Operand.tmp 24) 0, type := 0, pos := _, after := #[{ on := 13, ground := Ground.data }, { on := 9, ground := Ground.guard }], guard := some (9, false) } rfl (by kernel_rfl) (by kernel_rfl) (by kernel_rfl) (fun _ _ _ h => h) (by rfl) hHeld ?_ ?_
            rotate_left
            · intro wS hSw; (try dsimp only at hSw); go_simp <;> with_reducible rfl
            try simp only [Act.put, List.setIfInBounds_toArray, List.set_cons_zero, List.set_cons_succ]
            refine rtake (i := 15) (v := ?_) { dst := some 26, op := Op.load 22 (Operand.tmp 25), type := 22, pos := _, after := #[{ on := 14, ground := Ground.data }, { on := 9, ground := Ground.guard }], guard := some (9, false) } rfl (by kernel_rfl) (by kernel_rfl) (by kernel_rfl) (fun _ _ _ h => h) (by rfl) hHeld ?_ ?_
            rotate_left
            · intro wS hSw; (try dsimp only at hSw); go_simp <;> with_reducible rfl
            try simp only [Act.put, List.setIfInBounds_toArray, List.set_cons_zero, List.set_cons_succ]
            refine rtake (i := 16) (v := ?_) { dst := some 27, op := Op.binOp BinOp.neq 22 (Operand.tmp 22) (Operand.tmp 26) 22, type := 4, pos := _, after := #[{ on := 11, ground := Ground.data }, { on := 15, ground := Ground.data }, { on := 9, ground := Ground.guard }], guard := some (9, false) } rfl (by kernel_rfl) (by kernel_rfl) (by kernel_rfl) (fun _ _ _ h => h) (by rfl) hHeld ?_ ?_
            rotate_left
            · intro wS hSw; (try dsimp only at hSw); go_simp <;> with_reducible rfl
            try simp only [Act.put, List.setIfInBounds_toArray, List.set_cons_zero, List.set_cons_succ]
            refine rtake (i := 17) (v := ?_) { dst := some 28, op := Op.pick (Operand.tmp 20) (Operand.const (Value.bool true)) (Operand.tmp 27), type := 4, pos := _, after := #[{ on := 9, ground := Ground.data }, { on := 16, ground := Ground.data }], guard := none } rfl (by kernel_rfl) (by kernel_rfl) (by kernel_rfl) (fun _ _ _ h => h) (by rfl) hHeld ?_ ?_
            rotate_left
            · intro wS hSw; (try dsimp only at hSw); go_simp <;> with_reducible rfl
            try simp only [Act.put, List.setIfInBounds_toArray, List.set_cons_zero, List.set_cons_succ]
            refine wpAnyH_done (by kernel_rfl) ?_ _
            have HW := Lib.hid hHeld.1
            clear hHeld
            go_wp2_with fail
            go_ret
            exact ⟨rfl, below_call HB.out HW.out⟩
    · obtain rfl : k = n := by omega
      obtain rfl : k = m := by omega
      rw [decide_eq_true rfl]
      go_wp2_with fail
      go_ret
      exact ⟨rfl, HB.out⟩
end Go.Proofs.YtnlbohaealkelaaDoor
