/- The laws' look at entries of one replica, and the reference's calculations with them. Conditions: as each theorem says. -/
import Derived.Test.YtnlbohaealkelaaNSet
import Derived.Test.YtnlbohaealkelaaJMath
import Derived.Test.YtnlbohaealkelaaCells
import Derived.Test.YtnlbohaealkelaaNLaws
namespace Go.Proofs.Ytnlbohaealkelaa
open Go.RowKit
theorem f4_call {W w1 w2 : World} {p q r t : Addr} {a b c d : Value}
    (h : Below W.heap.size W w1 ∧ w1.cell? p = some a ∧ w1.cell? q = some b ∧ w1.cell? r = some c ∧ w1.cell? t = some d) (hb : Hid (Below w1.heap.size w1 w2)) :
    Below W.heap.size W w2 ∧ w2.cell? p = some a ∧ w2.cell? q = some b ∧ w2.cell? r = some c ∧ w2.cell? t = some d :=
  ⟨below_call h.1 hb.out, keep_cell h.2.1 hb.out, keep_cell h.2.2.1 hb.out, keep_cell h.2.2.2.1 hb.out, keep_cell h.2.2.2.2 hb.out⟩
theorem f4_drew {W w1 : World} {p q r t : Addr} {a b c d : Value}
    (h : Below W.heap.size W w1 ∧ w1.cell? p = some a ∧ w1.cell? q = some b ∧ w1.cell? r = some c ∧ w1.cell? t = some d) :
    Below W.heap.size W w1.drew ∧ w1.drew.cell? p = some a ∧ w1.drew.cell? q = some b ∧ w1.drew.cell? r = some c ∧ w1.drew.cell? t = some d := f4_call h (Lib.hid (Below.refl _ _).drew)
theorem r6_set {W w1 : World} {p0 p1 p2 p3 p4 p5 : Addr} {a0 a1 a2 a3 a4 a5 : Value} {g : Nat} (h : Below W.heap.size W w1 ∧ w1.cell? p0 = some a0 ∧ w1.cell? p1 = some a1 ∧ w1.cell? p2 = some a2 ∧ w1.cell? p3 = some a3 ∧ w1.cell? p4 = some a4 ∧ w1.cell? p5 = some a5) (hg : W.heap.size ≤ g) (h0 : p0.block ≠ g) (h1 : p1.block ≠ g) (h2 : p2.block ≠ g) (h3 : p3.block ≠ g) (h4 : p4.block ≠ g) (h5 : p5.block ≠ g) (x y z : Value) :
    Below W.heap.size W (((w1.setCell ⟨g, 0, none⟩ x).setCell ⟨g, 1, none⟩ y).setCell ⟨g, 2, none⟩ z) ∧ (((w1.setCell ⟨g, 0, none⟩ x).setCell ⟨g, 1, none⟩ y).setCell ⟨g, 2, none⟩ z).cell? p0 = some a0 ∧ (((w1.setCell ⟨g, 0, none⟩ x).setCell ⟨g, 1, none⟩ y).setCell ⟨g, 2, none⟩ z).cell? p1 = some a1 ∧ (((w1.setCell ⟨g, 0, none⟩ x).setCell ⟨g, 1, none⟩ y).setCell ⟨g, 2, none⟩ z).cell? p2 = some a2 ∧ (((w1.setCell ⟨g, 0, none⟩ x).setCell ⟨g, 1, none⟩ y).setCell ⟨g, 2, none⟩ z).cell? p3 = some a3 ∧ (((w1.setCell ⟨g, 0, none⟩ x).setCell ⟨g, 1, none⟩ y).setCell ⟨g, 2, none⟩ z).cell? p4 = some a4 ∧ (((w1.setCell ⟨g, 0, none⟩ x).setCell ⟨g, 1, none⟩ y).setCell ⟨g, 2, none⟩ z).cell? p5 = some a5 := by
  have far : ∀ k : Addr, k.block ≠ g → (((w1.setCell ⟨g, 0, none⟩ x).setCell ⟨g, 1, none⟩ y).setCell ⟨g, 2, none⟩ z).cell? k = w1.cell? k := fun k hk => by
    rw [World.cell?_setCell_other _ _ _ _ (fun e => hk (by rw [← e])), World.cell?_setCell_other _ _ _ _ (fun e => hk (by rw [← e])), World.cell?_setCell_other _ _ _ _ (fun e => hk (by rw [← e]))]
  obtain ⟨hb, c0, c1, c2, c3, c4, c5⟩ := h
  exact ⟨((hb.setCell (p := ⟨g, 0, none⟩) hg _).setCell (p := ⟨g, 1, none⟩) hg _).setCell (p := ⟨g, 2, none⟩) hg _, by rw [far _ h0]; exact c0, by rw [far _ h1]; exact c1, by rw [far _ h2]; exact c2, by rw [far _ h3]; exact c3, by rw [far _ h4]; exact c4, by rw [far _ h5]; exact c5⟩
/-- An entry that the laws take. -/
def okE (w : World) (r0 : Int) (e : Int × Int × Value) : Prop := e.1 = r0 ∧ ∃ H, IvsAt w e.2.2 H ∧ GoodE e.2.1 H ∧ H.length ≤ 60
/-- An entry that the laws turn away. -/
def badE (w : World) (r0 : Int) (e : Int × Int × Value) : Prop := (∃ q n cap, e.2.2 = .slice q n cap ∧ 60 < n) ∨ ∃ H, H.length ≤ 60 ∧ All64 H ∧ IvsAt w e.2.2 H ∧ (okN e.2.1 H = false ∨ (okN e.2.1 H = true ∧ e.1 ≠ r0))
theorem okE.call {w w' : World} {r0 : Int} {e : Int × Int × Value} (h : okE w r0 e) (hb : Below w.heap.size w w') : okE w' r0 e := by
  obtain ⟨h0, H, h1, h2, h3⟩ := h
  exact ⟨h0, H, h1.call hb, h2, h3⟩
theorem badE.call {w w' : World} {r0 : Int} {e : Int × Int × Value} (h : badE w r0 e) (hb : Below w.heap.size w w') : badE w' r0 e := by
  rcases h with h | ⟨H, h1, h2, h3, h4⟩
  · exact .inl h
  · exact .inr ⟨H, h1, h2, h3.call hb, h4⟩
theorem ent_split {w : World} (r0 : Int) {e : Int × Int × Value} (hm : 0 ≤ e.2.1 ∧ e.2.1 ≤ 18446744073709551615) (h : (∃ q n cap, e.2.2 = .slice q n cap ∧ 60 < n) ∨ ∃ H, H.length ≤ 60 ∧ All64 H ∧ IvsAt w e.2.2 H) : okE w r0 e ∨ badE w r0 e := by
  rcases h with h | ⟨H, hl, h64, hi⟩
  · exact .inr (.inl h)
  · cases ho : okN e.2.1 H with
    | false => exact .inr (.inr ⟨H, hl, h64, hi, .inl ho⟩)
    | true =>
      by_cases hr : e.1 = r0
      · exact .inl ⟨hr, H, hi, (okN_iff h64 hm).1 ho, hl⟩
      · exact .inr (.inr ⟨H, hl, h64, hi, .inr ⟨ho, hr⟩⟩)
theorem six_new (wr : World) (x y z : Value) (t : TypeId) {p : Addr} {d : Value} (hp : wr.cell? p = some d) :
    Below wr.heap.size wr (wr.alloc (.cells #[x, y, z] t)) ∧ (wr.alloc (.cells #[x, y, z] t)).cell? ⟨wr.heap.size, 0, none⟩ = some x ∧ (wr.alloc (.cells #[x, y, z] t)).cell? ⟨wr.heap.size, 1, none⟩ = some y ∧ (wr.alloc (.cells #[x, y, z] t)).cell? ⟨wr.heap.size, 2, none⟩ = some z ∧ (wr.alloc (.cells #[x, y, z] t)).cell? p = some d :=
  ⟨below_new _ _, by simp, by simp, by simp, keep_cell hp (below_new _ _)⟩
set_option maxRecDepth 100000 in
set_option maxHeartbeats 4000000 in
theorem rightsE_upto (n bl cp : Nat) (es : Nat → Int × Int × Value) (w : World) (m : Nat) (hm : m ≤ n) (hn : n ≤ 100) (h : ∀ i, i < n → w.cell? ⟨bl, i * 3, none⟩ = some (.int .u64 (es i).1) ∧ w.cell? ⟨bl, i * 3 + 1, none⟩ = some (.int .u64 (es i).2.1) ∧ w.cell? ⟨bl, i * 3 + 2, none⟩ = some (es i).2.2)
    (hok : ∀ i, i < m → okE w (es 0).1 (es i)) (hbad : m < n → badE w (es 0).1 (es m)) :
    Calls Try.prog 8 #[.slice (some ⟨bl, 0, none⟩) n cp] w (IsEnd (decide (m = n)) w) := by
  have HC := Lib.hid h
  have HK := Lib.hid hok
  have HD := Lib.hid hbad
  have HR := Lib.hid refRightE_any
  clear h hok hbad
  go_enter Try.func8, Try.ntmps8
  go_wp2_with fail
  go_loopw [4, 7] (fun _ i wr => ∃ k : Nat, k ≤ m ∧ i = .int .i64 k ∧ Below w.heap.size w wr) (fun _ i _ => n - (intOf i).toNat)
  case atStart => exact ⟨0, Nat.zero_le _, rfl, Below.refl _ _⟩
  case round =>
    obtain ⟨k, hk, rfl, hb⟩ := hrel
    have HB := Lib.hid hb; clear hb
    by_cases hlt : k < n
    · obtain ⟨c0, c1, c2⟩ := HC.out k hlt
      obtain ⟨z0, _, _⟩ := HC.out 0 (by omega)
      rw [Nat.zero_mul] at z0
      replace c0 := keep_cell c0 HB.out
      replace c1 := keep_cell c1 HB.out
      replace c2 := keep_cell c2 HB.out
      replace z0 := keep_cell z0 HB.out
      have i1 : (0 : Int) ≤ (k : Int) := by omega
      have i2 : (k : Int) < (n : Int) := by omega
      have i0 : (0 : Int) < (n : Int) := by omega
      have i00 : 0 < n := by omega
      obtain ⟨r0, hr0⟩ : ∃ r0, (es 0).1 = r0 := ⟨_, rfl⟩
      have KE := fun hkm => HK.out k hkm
      have DE := fun hlt' => HD.out hlt'
      rw [hr0] at z0 KE DE
      by_cases hkm : k < m
      · obtain ⟨hre, H, hi, hg, hl⟩ := (KE hkm).call HB.out
        obtain ⟨⟨r, mx, s⟩, he⟩ : ∃ e, es k = e := ⟨_, rfl⟩
        rw [he] at hre hi hg c0 c1 c2
        dsimp only at hre hi hg c0 c1 c2
        subst hre
        obtain ⟨p, cap, rfl, _⟩ := hi.shape
        have i3 : decide ((60 : Int) < (H.length : Int)) = false := by simp; omega
        have KR := Lib.hid (fun W hW => okN_good hg ▸ HR.out r mx H (.slice p H.length cap) W (hi.call hW) hg.good.all)
        have HS0 := Lib.hid (six_new wr (.int .u64 r) (.int .u64 mx) (.slice p H.length cap) 26 z0)
        clear hi hg he KE DE
        go_wp2_with fail
        clear c0 c1 c2 z0
        refine wp_region_held_drew (S := (fun w' : World => Below wr.heap.size wr w' ∧ w'.cell? ⟨wr.heap.size, 0, none⟩ = some (.int .u64 r) ∧ w'.cell? ⟨wr.heap.size, 1, none⟩ = some (.int .u64 mx) ∧ w'.cell? ⟨wr.heap.size, 2, none⟩ = some (.slice p H.length cap) ∧ w'.cell? ⟨bl, 0, none⟩ = some (.int .u64 r))) (by kernel_rfl) (f4_drew HS0.out) (fun hHeld => ?_)
        refine rtake (i := 0) (v := ?_) { dst := some 11, op := Op.fieldAddr 26 (Operand.tmp 4) 2, type := 0, pos := _, after := #[], guard := none } rfl (by kernel_rfl) (by kernel_rfl) (by kernel_rfl) (fun _ _ _ h => h) (by rfl) hHeld ?_ ?_
        rotate_left
        · intro wS hSw; (try dsimp only at hSw); go_simp <;> with_reducible rfl
        try simp only [Act.put, List.setIfInBounds_toArray, List.set_cons_zero, List.set_cons_succ]
        refine rtake (i := 1) (v := ?_) { dst := some 12, op := Op.load 24 (Operand.tmp 11), type := 24, pos := _, after := #[{ on := 0, ground := Ground.data }], guard := none } rfl (by kernel_rfl) (by kernel_rfl) (by kernel_rfl) (fun _ _ _ h => h) (by rfl) hHeld ?_ ?_
        rotate_left
        · intro wS hSw; (try dsimp only at hSw); go_simp <;> with_reducible rfl
        try simp only [Act.put, List.setIfInBounds_toArray, List.set_cons_zero, List.set_cons_succ]
        refine rtake (i := 2) (v := ?_) { dst := some 13, op := Op.call { callee := Callee.builtin Builtin.len, args := #[Operand.tmp 12], argTypes := #[24] }, type := 3, pos := _, after := #[{ on := 1, ground := Ground.data }], guard := none } rfl (by kernel_rfl) (by kernel_rfl) (by kernel_rfl) (fun _ _ _ h => h) (by rfl) hHeld ?_ ?_
        rotate_left
        · intro wS hSw; (try dsimp only at hSw); go_simp <;> with_reducible rfl
        try simp only [Act.put, List.setIfInBounds_toArray, List.set_cons_zero, List.set_cons_succ]
        refine rtake (i := 3) (v := ?_) { dst := some 14, op := Op.binOp BinOp.gtr 3 (Operand.tmp 13) (Operand.const (Value.int IntKind.i64 60)) 3, type := 4, pos := _, after := #[{ on := 2, ground := Ground.data }], guard := none } rfl (by kernel_rfl) (by kernel_rfl) (by kernel_rfl) (fun _ _ _ h => h) (by rfl) hHeld ?_ ?_
        rotate_left
        · intro wS hSw; (try dsimp only at hSw); go_simp <;> with_reducible rfl
        try simp only [Act.put, List.setIfInBounds_toArray, List.set_cons_zero, List.set_cons_succ]
        refine rtake (i := 4) (v := ?_) { dst := some 15, op := Op.move (Operand.tmp 14), type := 4, pos := _, after := #[{ on := 3, ground := Ground.data }], guard := none } rfl (by kernel_rfl) (by kernel_rfl) (by kernel_rfl) (fun _ _ _ h => h) (by rfl) hHeld ?_ ?_
        rotate_left
        · intro wS hSw; (try dsimp only at hSw); go_simp <;> with_reducible rfl
        try simp only [Act.put, List.setIfInBounds_toArray, List.set_cons_zero, List.set_cons_succ]
        refine rtake (i := 5) (v := ?_) { dst := some 16, op := Op.load 26 (Operand.tmp 4), type := 26, pos := _, after := #[{ on := 4, ground := Ground.guard }], guard := some (4, false) } rfl (by kernel_rfl) (by kernel_rfl) (by kernel_rfl) (fun _ _ _ h => h) (by rfl) hHeld ?_ ?_
        rotate_left
        · intro wS hSw; (try dsimp only at hSw); go_simp <;> with_reducible rfl
        try simp only [Act.put, List.setIfInBounds_toArray, List.set_cons_zero, List.set_cons_succ]
        refine wpAnyH_ready (rs := [6]) (by kernel_rfl) (by simp) (AllReadyH.cons (o := { dst := some 17, op := Op.call { callee := Callee.value (Operand.func 24), args := #[Operand.tmp 16], argTypes := #[26] }, type := 4, pos := _, after := #[{ on := 5, ground := Ground.data }, { on := 4, ground := Ground.chain }, { on := 4, ground := Ground.guard }], guard := some (4, false) }) rfl (fun K hK => ?_) AllReadyH.nil)
        go_simp
        refine (KR.out _ hHeld.1).mono ?_
        rintro en wN ⟨rfl, hbN⟩
        have hbH := Lib.hid hbN; clear hbN
        go_wp2_with fail
        refine hK.out _ _ (f4_call hHeld hbH) (fun hNew => ?_)
        clear hK K hHeld hbH
        have hHeld := hNew; clear hNew
        try simp only [Act.put, List.setIfInBounds_toArray, List.set_cons_zero, List.set_cons_succ]
        refine rtake (i := 7) (v := ?_) { dst := some 18, op := Op.unOp UnOp.not 4 (Operand.tmp 17), type := 4, pos := _, after := #[{ on := 6, ground := Ground.data }, { on := 4, ground := Ground.guard }], guard := some (4, false) } rfl (by kernel_rfl) (by kernel_rfl) (by kernel_rfl) (fun _ _ _ h => h) (by rfl) hHeld ?_ ?_
        rotate_left
        · intro wS hSw; (try dsimp only at hSw); go_simp <;> with_reducible rfl
        try simp only [Act.put, List.setIfInBounds_toArray, List.set_cons_zero, List.set_cons_succ]
        refine rtake (i := 8) (v := ?_) { dst := some 19, op := Op.pick (Operand.tmp 15) (Operand.const (Value.bool true)) (Operand.tmp 18), type := 4, pos := _, after := #[{ on := 4, ground := Ground.data }, { on := 7, ground := Ground.data }], guard := none } rfl (by kernel_rfl) (by kernel_rfl) (by kernel_rfl) (fun _ _ _ h => h) (by rfl) hHeld ?_ ?_
        rotate_left
        · intro wS hSw; (try dsimp only at hSw); go_simp <;> with_reducible rfl
        try simp only [Act.put, List.setIfInBounds_toArray, List.set_cons_zero, List.set_cons_succ]
        refine rtake (i := 9) (v := ?_) { dst := some 20, op := Op.move (Operand.tmp 19), type := 4, pos := _, after := #[{ on := 8, ground := Ground.data }, { on := 6, ground := Ground.chain }], guard := none } rfl (by kernel_rfl) (by kernel_rfl) (by kernel_rfl) (fun _ _ _ h => h) (by rfl) hHeld ?_ ?_
        rotate_left
        · intro wS hSw; (try dsimp only at hSw); go_simp <;> with_reducible rfl
        try simp only [Act.put, List.setIfInBounds_toArray, List.set_cons_zero, List.set_cons_succ]
        refine rtake (i := 10) (v := ?_) { dst := some 21, op := Op.fieldAddr 26 (Operand.tmp 4) 0, type := 0, pos := _, after := #[{ on := 9, ground := Ground.guard }], guard := some (9, false) } rfl (by kernel_rfl) (by kernel_rfl) (by kernel_rfl) (fun _ _ _ h => h) (by rfl) hHeld ?_ ?_
        rotate_left
        · intro wS hSw; (try dsimp only at hSw); go_simp <;> with_reducible rfl
        try simp only [Act.put, List.setIfInBounds_toArray, List.set_cons_zero, List.set_cons_succ]
        refine rtake (i := 11) (v := ?_) { dst := some 22, op := Op.load 22 (Operand.tmp 21), type := 22, pos := _, after := #[{ on := 10, ground := Ground.data }, { on := 9, ground := Ground.guard }], guard := some (9, false) } rfl (by kernel_rfl) (by kernel_rfl) (by kernel_rfl) (fun _ _ _ h => h) (by rfl) hHeld ?_ ?_
        rotate_left
        · intro wS hSw; (try dsimp only at hSw); go_simp <;> with_reducible rfl
        try simp only [Act.put, List.setIfInBounds_toArray, List.set_cons_zero, List.set_cons_succ]
        refine rtake (i := 12) (v := ?_) { dst := some 23, op := Op.move (Operand.tmp 0), type := 43, pos := _, after := #[{ on := 9, ground := Ground.guard }], guard := some (9, false) } rfl (by kernel_rfl) (by kernel_rfl) (by kernel_rfl) (fun _ _ _ h => h) (by rfl) hHeld ?_ ?_
        rotate_left
        · intro wS hSw; (try dsimp only at hSw); go_simp <;> with_reducible rfl
        try simp only [Act.put, List.setIfInBounds_toArray, List.set_cons_zero, List.set_cons_succ]
        refine rtake (i := 13) (v := ?_) { dst := some 24, op := Op.indexAddr 43 (Operand.tmp 23) (Operand.const (Value.int IntKind.i64 0)), type := 0, pos := _, after := #[{ on := 12, ground := Ground.data }, { on := 9, ground := Ground.guard }], guard := some (9, false) } rfl (by kernel_rfl) (by kernel_rfl) (by kernel_rfl) (fun _ _ _ h => h) (by rfl) hHeld ?_ ?_
        rotate_left
        · intro wS hSw; (try dsimp only at hSw); go_simp <;> with_reducible rfl
        try simp only [Act.put, List.setIfInBounds_toArray, List.set_cons_zero, List.set_cons_succ]
        refine rtake (i := 14) (v := ?_) { dst := some 25, op := Op.fieldAddr 26 (Operand.tmp 24) 0, type := 0, pos := _, after := #[{ on := 13, ground := Ground.data }, { on := 9, ground := Ground.guard }], guard := some (9, false) } rfl (by kernel_rfl) (by kernel_rfl) (by kernel_rfl) (fun _ _ _ h => h) (by rfl) hHeld ?_ ?_
        rotate_left
        · intro wS hSw; (try dsimp only at hSw); go_simp <;> with_reducible rfl
        try simp only [Act.put, List.setIfInBounds_toArray, List.set_cons_zero, List.set_cons_succ]
        refine rtake (i := 15) (v := ?_) { dst := some 26, op := Op.load 22 (Operand.tmp 25), type := 22, pos := _, after := #[{ on := 14, ground := Ground.data }, { on := 9, ground := Ground.guard }], guard := some (9, false) } rfl (by kernel_rfl) (by kernel_rfl) (by kernel_rfl) (fun _ _ _ h => h) (by rfl) hHeld ?_ ?_
        rotate_left
        · intro wS hSw; (try dsimp only at hSw); go_simp <;> with_reducible rfl
        try simp only [Act.put, List.setIfInBounds_toArray, List.set_cons_zero, List.set_cons_succ]
        refine rtake (i := 16) (v := ?_) { dst := some 27, op := Op.binOp BinOp.neq 22 (Operand.tmp 22) (Operand.tmp 26) 22, type := 4, pos := _, after := #[{ on := 11, ground := Ground.data }, { on := 15, ground := Ground.data }, { on := 9, ground := Ground.guard }], guard := some (9, false) } rfl (by kernel_rfl) (by kernel_rfl) (by kernel_rfl) (fun _ _ _ h => h) (by rfl) hHeld ?_ ?_
        rotate_left
        · intro wS hSw; (try dsimp only at hSw); go_simp <;> with_reducible rfl
        try simp only [Act.put, List.setIfInBounds_toArray, List.set_cons_zero, List.set_cons_succ]
        refine rtake (i := 17) (v := ?_) { dst := some 28, op := Op.pick (Operand.tmp 20) (Operand.const (Value.bool true)) (Operand.tmp 27), type := 4, pos := _, after := #[{ on := 9, ground := Ground.data }, { on := 16, ground := Ground.data }], guard := none } rfl (by kernel_rfl) (by kernel_rfl) (by kernel_rfl) (fun _ _ _ h => h) (by rfl) hHeld ?_ ?_
        rotate_left
        · intro wS hSw; (try dsimp only at hSw); go_simp <;> with_reducible rfl
        try simp only [Act.put, List.setIfInBounds_toArray, List.set_cons_zero, List.set_cons_succ]
        refine wpAnyH_done (by kernel_rfl) ?_ _
        have HW := Lib.hid hHeld.1
        clear hHeld
        go_wp2_with fail
        go_roundw
        case rel => exact ⟨k + 1, by omega, by go_num, below_call HB.out HW.out⟩
        case measure => simp [intOf]; omega
      · obtain rfl : k = m := by omega
        have hd : decide (k = n) = false := by simp; omega
        rw [hd]
        rcases (DE hlt).call HB.out with ⟨p, n', cap, hs, hn'⟩ | ⟨H, hl, h64, hi, hv⟩
        · obtain ⟨⟨r, mx, s⟩, he⟩ : ∃ e, es k = e := ⟨_, rfl⟩
          rw [he] at hs c0 c1 c2
          dsimp only at hs c0 c1 c2
          subst hs
          have i3 : decide ((60 : Int) < (n' : Int)) = true := by simp; omega
          have HS0 := Lib.hid (six_new wr (.int .u64 r) (.int .u64 mx) (.slice p n' cap) 26 z0)
          clear he KE DE
          go_wp2_with fail
          clear c0 c1 c2 z0
          refine wp_region_held_drew (S := (fun w' : World => Below wr.heap.size wr w' ∧ w'.cell? ⟨wr.heap.size, 0, none⟩ = some (.int .u64 r) ∧ w'.cell? ⟨wr.heap.size, 1, none⟩ = some (.int .u64 mx) ∧ w'.cell? ⟨wr.heap.size, 2, none⟩ = some (.slice p n' cap) ∧ w'.cell? ⟨bl, 0, none⟩ = some (.int .u64 r0))) (by kernel_rfl) (f4_drew HS0.out) (fun hHeld => ?_)
          refine rtake (i := 0) (v := ?_) { dst := some 11, op := Op.fieldAddr 26 (Operand.tmp 4) 2, type := 0, pos := _, after := #[], guard := none } rfl (by kernel_rfl) (by kernel_rfl) (by kernel_rfl) (fun _ _ _ h => h) (by rfl) hHeld ?_ ?_
          rotate_left
          · intro wS hSw; (try dsimp only at hSw); go_simp <;> with_reducible rfl
          try simp only [Act.put, List.setIfInBounds_toArray, List.set_cons_zero, List.set_cons_succ]
          refine rtake (i := 1) (v := ?_) { dst := some 12, op := Op.load 24 (Operand.tmp 11), type := 24, pos := _, after := #[{ on := 0, ground := Ground.data }], guard := none } rfl (by kernel_rfl) (by kernel_rfl) (by kernel_rfl) (fun _ _ _ h => h) (by rfl) hHeld ?_ ?_
          rotate_left
          · intro wS hSw; (try dsimp only at hSw); go_simp <;> with_reducible rfl
          try simp only [Act.put, List.setIfInBounds_toArray, List.set_cons_zero, List.set_cons_succ]
          refine rtake (i := 2) (v := ?_) { dst := some 13, op := Op.call { callee := Callee.builtin Builtin.len, args := #[Operand.tmp 12], argTypes := #[24] }, type := 3, pos := _, after := #[{ on := 1, ground := Ground.data }], guard := none } rfl (by kernel_rfl) (by kernel_rfl) (by kernel_rfl) (fun _ _ _ h => h) (by rfl) hHeld ?_ ?_
          rotate_left
          · intro wS hSw; (try dsimp only at hSw); go_simp <;> with_reducible rfl
          try simp only [Act.put, List.setIfInBounds_toArray, List.set_cons_zero, List.set_cons_succ]
          refine rtake (i := 3) (v := ?_) { dst := some 14, op := Op.binOp BinOp.gtr 3 (Operand.tmp 13) (Operand.const (Value.int IntKind.i64 60)) 3, type := 4, pos := _, after := #[{ on := 2, ground := Ground.data }], guard := none } rfl (by kernel_rfl) (by kernel_rfl) (by kernel_rfl) (fun _ _ _ h => h) (by rfl) hHeld ?_ ?_
          rotate_left
          · intro wS hSw; (try dsimp only at hSw); go_simp <;> with_reducible rfl
          try simp only [Act.put, List.setIfInBounds_toArray, List.set_cons_zero, List.set_cons_succ]
          refine rtake (i := 4) (v := ?_) { dst := some 15, op := Op.move (Operand.tmp 14), type := 4, pos := _, after := #[{ on := 3, ground := Ground.data }], guard := none } rfl (by kernel_rfl) (by kernel_rfl) (by kernel_rfl) (fun _ _ _ h => h) (by rfl) hHeld ?_ ?_
          rotate_left
          · intro wS hSw; (try dsimp only at hSw); go_simp <;> with_reducible rfl
          try simp only [Act.put, List.setIfInBounds_toArray, List.set_cons_zero, List.set_cons_succ]
          refine rskip (i := 5) { dst := some 16, op := Op.load 26 (Operand.tmp 4), type := 26, pos := _, after := #[{ on := 4, ground := Ground.guard }], guard := some (4, false) } rfl (by kernel_rfl) (by kernel_rfl) (by kernel_rfl) (fun _ _ _ h => h) (by rfl) hHeld ?_
          try simp only [Act.put, List.setIfInBounds_toArray, List.set_cons_zero, List.set_cons_succ]
          refine rskip (i := 6) { dst := some 17, op := Op.call { callee := Callee.value (Operand.func 24), args := #[Operand.tmp 16], argTypes := #[26] }, type := 4, pos := _, after := #[{ on := 5, ground := Ground.data }, { on := 4, ground := Ground.chain }, { on := 4, ground := Ground.guard }], guard := some (4, false) } rfl (by kernel_rfl) (by kernel_rfl) (by kernel_rfl) (fun _ _ _ h => h) (by rfl) hHeld ?_
          try simp only [Act.put, List.setIfInBounds_toArray, List.set_cons_zero, List.set_cons_succ]
          refine rskip (i := 7) { dst := some 18, op := Op.unOp UnOp.not 4 (Operand.tmp 17), type := 4, pos := _, after := #[{ on := 6, ground := Ground.data }, { on := 4, ground := Ground.guard }], guard := some (4, false) } rfl (by kernel_rfl) (by kernel_rfl) (by kernel_rfl) (fun _ _ _ h => h) (by rfl) hHeld ?_
          try simp only [Act.put, List.setIfInBounds_toArray, List.set_cons_zero, List.set_cons_succ]
          refine rtake (i := 8) (v := ?_) { dst := some 19, op := Op.pick (Operand.tmp 15) (Operand.const (Value.bool true)) (Operand.tmp 18), type := 4, pos := _, after := #[{ on := 4, ground := Ground.data }, { on := 7, ground := Ground.data }], guard := none } rfl (by kernel_rfl) (by kernel_rfl) (by kernel_rfl) (fun _ _ _ h => h) (by rfl) hHeld ?_ ?_
          rotate_left
          · intro wS hSw; (try dsimp only at hSw); go_simp <;> with_reducible rfl
          try simp only [Act.put, List.setIfInBounds_toArray, List.set_cons_zero, List.set_cons_succ]
          refine rtake (i := 9) (v := ?_) { dst := some 20, op := Op.move (Operand.tmp 19), type := 4, pos := _, after := #[{ on := 8, ground := Ground.data }, { on := 6, ground := Ground.chain }], guard := none } rfl (by kernel_rfl) (by kernel_rfl) (by kernel_rfl) (fun _ _ _ h => h) (by rfl) hHeld ?_ ?_
          rotate_left
          · intro wS hSw; (try dsimp only at hSw); go_simp <;> with_reducible rfl
          try simp only [Act.put, List.setIfInBounds_toArray, List.set_cons_zero, List.set_cons_succ]
          refine rskip (i := 10) { dst := some 21, op := Op.fieldAddr 26 (Operand.tmp 4) 0, type := 0, pos := _, after := #[{ on := 9, ground := Ground.guard }], guard := some (9, false) } rfl (by kernel_rfl) (by kernel_rfl) (by kernel_rfl) (fun _ _ _ h => h) (by rfl) hHeld ?_
          try simp only [Act.put, List.setIfInBounds_toArray, List.set_cons_zero, List.set_cons_succ]
          refine rskip (i := 11) { dst := some 22, op := Op.load 22 (Operand.tmp 21), type := 22, pos := _, after := #[{ on := 10, ground := Ground.data }, { on := 9, ground := Ground.guard }], guard := some (9, false) } rfl (by kernel_rfl) (by kernel_rfl) (by kernel_rfl) (fun _ _ _ h => h) (by rfl) hHeld ?_
          try simp only [Act.put, List.setIfInBounds_toArray, List.set_cons_zero, List.set_cons_succ]
          refine rskip (i := 12) { dst := some 23, op := Op.move (Operand.tmp 0), type := 43, pos := _, after := #[{ on := 9, ground := Ground.guard }], guard := some (9, false) } rfl (by kernel_rfl) (by kernel_rfl) (by kernel_rfl) (fun _ _ _ h => h) (by rfl) hHeld ?_
          try simp only [Act.put, List.setIfInBounds_toArray, List.set_cons_zero, List.set_cons_succ]
          refine rskip (i := 13) { dst := some 24, op := Op.indexAddr 43 (Operand.tmp 23) (Operand.const (Value.int IntKind.i64 0)), type := 0, pos := _, after := #[{ on := 12, ground := Ground.data }, { on := 9, ground := Ground.guard }], guard := some (9, false) } rfl (by kernel_rfl) (by kernel_rfl) (by kernel_rfl) (fun _ _ _ h => h) (by rfl) hHeld ?_
          try simp only [Act.put, List.setIfInBounds_toArray, List.set_cons_zero, List.set_cons_succ]
          refine rskip (i := 14) { dst := some 25, op := Op.fieldAddr 26 (Operand.tmp 24) 0, type := 0, pos := _, after := #[{ on := 13, ground := Ground.data }, { on := 9, ground := Ground.guard }], guard := some (9, false) } rfl (by kernel_rfl) (by kernel_rfl) (by kernel_rfl) (fun _ _ _ h => h) (by rfl) hHeld ?_
          try simp only [Act.put, List.setIfInBounds_toArray, List.set_cons_zero, List.set_cons_succ]
          refine rskip (i := 15) { dst := some 26, op := Op.load 22 (Operand.tmp 25), type := 22, pos := _, after := #[{ on := 14, ground := Ground.data }, { on := 9, ground := Ground.guard }], guard := some (9, false) } rfl (by kernel_rfl) (by kernel_rfl) (by kernel_rfl) (fun _ _ _ h => h) (by rfl) hHeld ?_
          try simp only [Act.put, List.setIfInBounds_toArray, List.set_cons_zero, List.set_cons_succ]
          refine rskip (i := 16) { dst := some 27, op := Op.binOp BinOp.neq 22 (Operand.tmp 22) (Operand.tmp 26) 22, type := 4, pos := _, after := #[{ on := 11, ground := Ground.data }, { on := 15, ground := Ground.data }, { on := 9, ground := Ground.guard }], guard := some (9, false) } rfl (by kernel_rfl) (by kernel_rfl) (by kernel_rfl) (fun _ _ _ h => h) (by rfl) hHeld ?_
          try simp only [Act.put, List.setIfInBounds_toArray, List.set_cons_zero, List.set_cons_succ]
          refine rtake (i := 17) (v := ?_) { dst := some 28, op := Op.pick (Operand.tmp 20) (Operand.const (Value.bool true)) (Operand.tmp 27), type := 4, pos := _, after := #[{ on := 9, ground := Ground.data }, { on := 16, ground := Ground.data }], guard := none } rfl (by kernel_rfl) (by kernel_rfl) (by kernel_rfl) (fun _ _ _ h => h) (by rfl) hHeld ?_ ?_
          rotate_left
          · intro wS hSw; (try dsimp only at hSw); go_simp <;> with_reducible rfl
          try simp only [Act.put, List.setIfInBounds_toArray, List.set_cons_zero, List.set_cons_succ]
          refine wpAnyH_done (by kernel_rfl) ?_ _
          have HW := Lib.hid hHeld.1
          clear hHeld
          go_wp2_with fail
          go_ret
          exact ⟨rfl, below_call HB.out HW.out⟩
        · obtain ⟨⟨r, mx, s⟩, he⟩ : ∃ e, es k = e := ⟨_, rfl⟩
          rw [he] at hi hv c0 c1 c2
          dsimp only at hi hv c0 c1 c2
          obtain ⟨p, cap, rfl, _⟩ := hi.shape
          have i3 : decide ((60 : Int) < (H.length : Int)) = false := by simp; omega
          have HS0 := Lib.hid (six_new wr (.int .u64 r) (.int .u64 mx) (.slice p H.length cap) 26 z0)
          rcases hv with hv | ⟨hv, hne⟩
          · have KR := Lib.hid (fun W hW => hv ▸ HR.out r mx H (.slice p H.length cap) W (hi.call hW) h64)
            clear hi he KE DE h64 hv
            go_wp2_with fail
            clear c0 c1 c2 z0
            refine wp_region_held_drew (S := (fun w' : World => Below wr.heap.size wr w' ∧ w'.cell? ⟨wr.heap.size, 0, none⟩ = some (.int .u64 r) ∧ w'.cell? ⟨wr.heap.size, 1, none⟩ = some (.int .u64 mx) ∧ w'.cell? ⟨wr.heap.size, 2, none⟩ = some (.slice p H.length cap) ∧ w'.cell? ⟨bl, 0, none⟩ = some (.int .u64 r0))) (by kernel_rfl) (f4_drew HS0.out) (fun hHeld => ?_)
            refine rtake (i := 0) (v := ?_) { dst := some 11, op := Op.fieldAddr 26 (Operand.tmp 4) 2, type := 0, pos := _, after := #[], guard := none } rfl (by kernel_rfl) (by kernel_rfl) (by kernel_rfl) (fun _ _ _ h => h) (by rfl) hHeld ?_ ?_
            rotate_left
            · intro wS hSw; (try dsimp only at hSw); go_simp <;> with_reducible rfl
            try simp only [Act.put, List.setIfInBounds_toArray, List.set_cons_zero, List.set_cons_succ]
            refine rtake (i := 1) (v := ?_) { dst := some 12, op := Op.load 24 (Operand.tmp 11), type := 24, pos := _, after := #[{ on := 0, ground := Ground.data }], guard := none } rfl (by kernel_rfl) (by kernel_rfl) (by kernel_rfl) (fun _ _ _ h => h) (by rfl) hHeld ?_ ?_
            rotate_left
            · intro wS hSw; (try dsimp only at hSw); go_simp <;> with_reducible rfl
            try simp only [Act.put, List.setIfInBounds_toArray, List.set_cons_zero, List.set_cons_succ]
            refine rtake (i := 2) (v := ?_) { dst := some 13, op := Op.call { callee := Callee.builtin Builtin.len, args := #[Operand.tmp 12], argTypes := #[24] }, type := 3, pos := _, after := #[{ on := 1, ground := Ground.data }], guard := none } rfl (by kernel_rfl) (by kernel_rfl) (by kernel_rfl) (fun _ _ _ h => h) (by rfl) hHeld ?_ ?_
            rotate_left
            · intro wS hSw; (try dsimp only at hSw); go_simp <;> with_reducible rfl
            try simp only [Act.put, List.setIfInBounds_toArray, List.set_cons_zero, List.set_cons_succ]
            refine rtake (i := 3) (v := ?_) { dst := some 14, op := Op.binOp BinOp.gtr 3 (Operand.tmp 13) (Operand.const (Value.int IntKind.i64 60)) 3, type := 4, pos := _, after := #[{ on := 2, ground := Ground.data }], guard := none } rfl (by kernel_rfl) (by kernel_rfl) (by kernel_rfl) (fun _ _ _ h => h) (by rfl) hHeld ?_ ?_
            rotate_left
            · intro wS hSw; (try dsimp only at hSw); go_simp <;> with_reducible rfl
            try simp only [Act.put, List.setIfInBounds_toArray, List.set_cons_zero, List.set_cons_succ]
            refine rtake (i := 4) (v := ?_) { dst := some 15, op := Op.move (Operand.tmp 14), type := 4, pos := _, after := #[{ on := 3, ground := Ground.data }], guard := none } rfl (by kernel_rfl) (by kernel_rfl) (by kernel_rfl) (fun _ _ _ h => h) (by rfl) hHeld ?_ ?_
            rotate_left
            · intro wS hSw; (try dsimp only at hSw); go_simp <;> with_reducible rfl
            try simp only [Act.put, List.setIfInBounds_toArray, List.set_cons_zero, List.set_cons_succ]
            refine rtake (i := 5) (v := ?_) { dst := some 16, op := Op.load 26 (Operand.tmp 4), type := 26, pos := _, after := #[{ on := 4, ground := Ground.guard }], guard := some (4, false) } rfl (by kernel_rfl) (by kernel_rfl) (by kernel_rfl) (fun _ _ _ h => h) (by rfl) hHeld ?_ ?_
            rotate_left
            · intro wS hSw; (try dsimp only at hSw); go_simp <;> with_reducible rfl
            try simp only [Act.put, List.setIfInBounds_toArray, List.set_cons_zero, List.set_cons_succ]
            refine wpAnyH_ready (rs := [6]) (by kernel_rfl) (by simp) (AllReadyH.cons (o := { dst := some 17, op := Op.call { callee := Callee.value (Operand.func 24), args := #[Operand.tmp 16], argTypes := #[26] }, type := 4, pos := _, after := #[{ on := 5, ground := Ground.data }, { on := 4, ground := Ground.chain }, { on := 4, ground := Ground.guard }], guard := some (4, false) }) rfl (fun K hK => ?_) AllReadyH.nil)
            go_simp
            refine (KR.out _ hHeld.1).mono ?_
            rintro en wN ⟨rfl, hbN⟩
            have hbH := Lib.hid hbN; clear hbN
            go_wp2_with fail
            refine hK.out _ _ (f4_call hHeld hbH) (fun hNew => ?_)
            clear hK K hHeld hbH
            have hHeld := hNew; clear hNew
            try simp only [Act.put, List.setIfInBounds_toArray, List.set_cons_zero, List.set_cons_succ]
            refine rtake (i := 7) (v := ?_) { dst := some 18, op := Op.unOp UnOp.not 4 (Operand.tmp 17), type := 4, pos := _, after := #[{ on := 6, ground := Ground.data }, { on := 4, ground := Ground.guard }], guard := some (4, false) } rfl (by kernel_rfl) (by kernel_rfl) (by kernel_rfl) (fun _ _ _ h => h) (by rfl) hHeld ?_ ?_
            rotate_left
            · intro wS hSw; (try dsimp only at hSw); go_simp <;> with_reducible rfl
            try simp only [Act.put, List.setIfInBounds_toArray, List.set_cons_zero, List.set_cons_succ]
            refine rtake (i := 8) (v := ?_) { dst := some 19, op := Op.pick (Operand.tmp 15) (Operand.const (Value.bool true)) (Operand.tmp 18), type := 4, pos := _, after := #[{ on := 4, ground := Ground.data }, { on := 7, ground := Ground.data }], guard := none } rfl (by kernel_rfl) (by kernel_rfl) (by kernel_rfl) (fun _ _ _ h => h) (by rfl) hHeld ?_ ?_
            rotate_left
            · intro wS hSw; (try dsimp only at hSw); go_simp <;> with_reducible rfl
            try simp only [Act.put, List.setIfInBounds_toArray, List.set_cons_zero, List.set_cons_succ]
            refine rtake (i := 9) (v := ?_) { dst := some 20, op := Op.move (Operand.tmp 19), type := 4, pos := _, after := #[{ on := 8, ground := Ground.data }, { on := 6, ground := Ground.chain }], guard := none } rfl (by kernel_rfl) (by kernel_rfl) (by kernel_rfl) (fun _ _ _ h => h) (by rfl) hHeld ?_ ?_
            rotate_left
            · intro wS hSw; (try dsimp only at hSw); go_simp <;> with_reducible rfl
            try simp only [Act.put, List.setIfInBounds_toArray, List.set_cons_zero, List.set_cons_succ]
            refine rskip (i := 10) { dst := some 21, op := Op.fieldAddr 26 (Operand.tmp 4) 0, type := 0, pos := _, after := #[{ on := 9, ground := Ground.guard }], guard := some (9, false) } rfl (by kernel_rfl) (by kernel_rfl) (by kernel_rfl) (fun _ _ _ h => h) (by rfl) hHeld ?_
            try simp only [Act.put, List.setIfInBounds_toArray, List.set_cons_zero, List.set_cons_succ]
            refine rskip (i := 11) { dst := some 22, op := Op.load 22 (Operand.tmp 21), type := 22, pos := _, after := #[{ on := 10, ground := Ground.data }, { on := 9, ground := Ground.guard }], guard := some (9, false) } rfl (by kernel_rfl) (by kernel_rfl) (by kernel_rfl) (fun _ _ _ h => h) (by rfl) hHeld ?_
            try simp only [Act.put, List.setIfInBounds_toArray, List.set_cons_zero, List.set_cons_succ]
            refine rskip (i := 12) { dst := some 23, op := Op.move (Operand.tmp 0), type := 43, pos := _, after := #[{ on := 9, ground := Ground.guard }], guard := some (9, false) } rfl (by kernel_rfl) (by kernel_rfl) (by kernel_rfl) (fun _ _ _ h => h) (by rfl) hHeld ?_
            try simp only [Act.put, List.setIfInBounds_toArray, List.set_cons_zero, List.set_cons_succ]
            refine rskip (i := 13) { dst := some 24, op := Op.indexAddr 43 (Operand.tmp 23) (Operand.const (Value.int IntKind.i64 0)), type := 0, pos := _, after := #[{ on := 12, ground := Ground.data }, { on := 9, ground := Ground.guard }], guard := some (9, false) } rfl (by kernel_rfl) (by kernel_rfl) (by kernel_rfl) (fun _ _ _ h => h) (by rfl) hHeld ?_
            try simp only [Act.put, List.setIfInBounds_toArray, List.set_cons_zero, List.set_cons_succ]
            refine rskip (i := 14) { dst := some 25, op := Op.fieldAddr 26 (Operand.tmp 24) 0, type := 0, pos := _, after := #[{ on := 13, ground := Ground.data }, { on := 9, ground := Ground.guard }], guard := some (9, false) } rfl (by kernel_rfl) (by kernel_rfl) (by kernel_rfl) (fun _ _ _ h => h) (by rfl) hHeld ?_
            try simp only [Act.put, List.setIfInBounds_toArray, List.set_cons_zero, List.set_cons_succ]
            refine rskip (i := 15) { dst := some 26, op := Op.load 22 (Operand.tmp 25), type := 22, pos := _, after := #[{ on := 14, ground := Ground.data }, { on := 9, ground := Ground.guard }], guard := some (9, false) } rfl (by kernel_rfl) (by kernel_rfl) (by kernel_rfl) (fun _ _ _ h => h) (by rfl) hHeld ?_
            try simp only [Act.put, List.setIfInBounds_toArray, List.set_cons_zero, List.set_cons_succ]
            refine rskip (i := 16) { dst := some 27, op := Op.binOp BinOp.neq 22 (Operand.tmp 22) (Operand.tmp 26) 22, type := 4, pos := _, after := #[{ on := 11, ground := Ground.data }, { on := 15, ground := Ground.data }, { on := 9, ground := Ground.guard }], guard := some (9, false) } rfl (by kernel_rfl) (by kernel_rfl) (by kernel_rfl) (fun _ _ _ h => h) (by rfl) hHeld ?_
            try simp only [Act.put, List.setIfInBounds_toArray, List.set_cons_zero, List.set_cons_succ]
            refine rtake (i := 17) (v := ?_) { dst := some 28, op := Op.pick (Operand.tmp 20) (Operand.const (Value.bool true)) (Operand.tmp 27), type := 4, pos := _, after := #[{ on := 9, ground := Ground.data }, { on := 16, ground := Ground.data }], guard := none } rfl (by kernel_rfl) (by kernel_rfl) (by kernel_rfl) (fun _ _ _ h => h) (by rfl) hHeld ?_ ?_
            rotate_left
            · intro wS hSw; (try dsimp only at hSw); go_simp <;> with_reducible rfl
            try simp only [Act.put, List.setIfInBounds_toArray, List.set_cons_zero, List.set_cons_succ]
            refine wpAnyH_done (by kernel_rfl) ?_ _
            have HW := Lib.hid hHeld.1
            clear hHeld
            go_wp2_with fail
            go_ret
            exact ⟨rfl, below_call HB.out HW.out⟩
          · have KR := Lib.hid (fun W hW => hv ▸ HR.out r mx H (.slice p H.length cap) W (hi.call hW) h64)
            have i4 : (r != r0) = true := by simpa using hne
            clear hi he KE DE h64 hv hne
            go_wp2_with fail
            clear c0 c1 c2 z0
            refine wp_region_held_drew (S := (fun w' : World => Below wr.heap.size wr w' ∧ w'.cell? ⟨wr.heap.size, 0, none⟩ = some (.int .u64 r) ∧ w'.cell? ⟨wr.heap.size, 1, none⟩ = some (.int .u64 mx) ∧ w'.cell? ⟨wr.heap.size, 2, none⟩ = some (.slice p H.length cap) ∧ w'.cell? ⟨bl, 0, none⟩ = some (.int .u64 r0))) (by kernel_rfl) (f4_drew HS0.out) (fun hHeld => ?_)
            refine rtake (i := 0) (v := ?_) { dst := some 11, op := Op.fieldAddr 26 (Operand.tmp 4) 2, type := 0, pos := _, after := #[], guard := none } rfl (by kernel_rfl) (by kernel_rfl) (by kernel_rfl) (fun _ _ _ h => h) (by rfl) hHeld ?_ ?_
            rotate_left
            · intro wS hSw; (try dsimp only at hSw); go_simp <;> with_reducible rfl
            try simp only [Act.put, List.setIfInBounds_toArray, List.set_cons_zero, List.set_cons_succ]
            refine rtake (i := 1) (v := ?_) { dst := some 12, op := Op.load 24 (Operand.tmp 11), type := 24, pos := _, after := #[{ on := 0, ground := Ground.data }], guard := none } rfl (by kernel_rfl) (by kernel_rfl) (by kernel_rfl) (fun _ _ _ h => h) (by rfl) hHeld ?_ ?_
            rotate_left
            · intro wS hSw; (try dsimp only at hSw); go_simp <;> with_reducible rfl
            try simp only [Act.put, List.setIfInBounds_toArray, List.set_cons_zero, List.set_cons_succ]
            refine rtake (i := 2) (v := ?_) { dst := some 13, op := Op.call { callee := Callee.builtin Builtin.len, args := #[Operand.tmp 12], argTypes := #[24] }, type := 3, pos := _, after := #[{ on := 1, ground := Ground.data }], guard := none } rfl (by kernel_rfl) (by kernel_rfl) (by kernel_rfl) (fun _ _ _ h => h) (by rfl) hHeld ?_ ?_
            rotate_left
            · intro wS hSw; (try dsimp only at hSw); go_simp <;> with_reducible rfl
            try simp only [Act.put, List.setIfInBounds_toArray, List.set_cons_zero, List.set_cons_succ]
            refine rtake (i := 3) (v := ?_) { dst := some 14, op := Op.binOp BinOp.gtr 3 (Operand.tmp 13) (Operand.const (Value.int IntKind.i64 60)) 3, type := 4, pos := _, after := #[{ on := 2, ground := Ground.data }], guard := none } rfl (by kernel_rfl) (by kernel_rfl) (by kernel_rfl) (fun _ _ _ h => h) (by rfl) hHeld ?_ ?_
            rotate_left
            · intro wS hSw; (try dsimp only at hSw); go_simp <;> with_reducible rfl
            try simp only [Act.put, List.setIfInBounds_toArray, List.set_cons_zero, List.set_cons_succ]
            refine rtake (i := 4) (v := ?_) { dst := some 15, op := Op.move (Operand.tmp 14), type := 4, pos := _, after := #[{ on := 3, ground := Ground.data }], guard := none } rfl (by kernel_rfl) (by kernel_rfl) (by kernel_rfl) (fun _ _ _ h => h) (by rfl) hHeld ?_ ?_
            rotate_left
            · intro wS hSw; (try dsimp only at hSw); go_simp <;> with_reducible rfl
            try simp only [Act.put, List.setIfInBounds_toArray, List.set_cons_zero, List.set_cons_succ]
            refine rtake (i := 5) (v := ?_) { dst := some 16, op := Op.load 26 (Operand.tmp 4), type := 26, pos := _, after := #[{ on := 4, ground := Ground.guard }], guard := some (4, false) } rfl (by kernel_rfl) (by kernel_rfl) (by kernel_rfl) (fun _ _ _ h => h) (by rfl) hHeld ?_ ?_
            rotate_left
            · intro wS hSw; (try dsimp only at hSw); go_simp <;> with_reducible rfl
            try simp only [Act.put, List.setIfInBounds_toArray, List.set_cons_zero, List.set_cons_succ]
            refine wpAnyH_ready (rs := [6]) (by kernel_rfl) (by simp) (AllReadyH.cons (o := { dst := some 17, op := Op.call { callee := Callee.value (Operand.func 24), args := #[Operand.tmp 16], argTypes := #[26] }, type := 4, pos := _, after := #[{ on := 5, ground := Ground.data }, { on := 4, ground := Ground.chain }, { on := 4, ground := Ground.guard }], guard := some (4, false) }) rfl (fun K hK => ?_) AllReadyH.nil)
            go_simp
            refine (KR.out _ hHeld.1).mono ?_
            rintro en wN ⟨rfl, hbN⟩
            have hbH := Lib.hid hbN; clear hbN
            go_wp2_with fail
            refine hK.out _ _ (f4_call hHeld hbH) (fun hNew => ?_)
            clear hK K hHeld hbH
            have hHeld := hNew; clear hNew
            try simp only [Act.put, List.setIfInBounds_toArray, List.set_cons_zero, List.set_cons_succ]
            refine rtake (i := 7) (v := ?_) { dst := some 18, op := Op.unOp UnOp.not 4 (Operand.tmp 17), type := 4, pos := _, after := #[{ on := 6, ground := Ground.data }, { on := 4, ground := Ground.guard }], guard := some (4, false) } rfl (by kernel_rfl) (by kernel_rfl) (by kernel_rfl) (fun _ _ _ h => h) (by rfl) hHeld ?_ ?_
            rotate_left
            · intro wS hSw; (try dsimp only at hSw); go_simp <;> with_reducible rfl
            try simp only [Act.put, List.setIfInBounds_toArray, List.set_cons_zero, List.set_cons_succ]
            refine rtake (i := 8) (v := ?_) { dst := some 19, op := Op.pick (Operand.tmp 15) (Operand.const (Value.bool true)) (Operand.tmp 18), type := 4, pos := _, after := #[{ on := 4, ground := Ground.data }, { on := 7, ground := Ground.data }], guard := none } rfl (by kernel_rfl) (by kernel_rfl) (by kernel_rfl) (fun _ _ _ h => h) (by rfl) hHeld ?_ ?_
            rotate_left
            · intro wS hSw; (try dsimp only at hSw); go_simp <;> with_reducible rfl
            try simp only [Act.put, List.setIfInBounds_toArray, List.set_cons_zero, List.set_cons_succ]
            refine rtake (i := 9) (v := ?_) { dst := some 20, op := Op.move (Operand.tmp 19), type := 4, pos := _, after := #[{ on := 8, ground := Ground.data }, { on := 6, ground := Ground.chain }], guard := none } rfl (by kernel_rfl) (by kernel_rfl) (by kernel_rfl) (fun _ _ _ h => h) (by rfl) hHeld ?_ ?_
            rotate_left
            · intro wS hSw; (try dsimp only at hSw); go_simp <;> with_reducible rfl
            try simp only [Act.put, List.setIfInBounds_toArray, List.set_cons_zero, List.set_cons_succ]
            refine rtake (i := 10) (v := ?_) { dst := some 21, op := Op.fieldAddr 26 (Operand.tmp 4) 0, type := 0, pos := _, after := #[{ on := 9, ground := Ground.guard }], guard := some (9, false) } rfl (by kernel_rfl) (by kernel_rfl) (by kernel_rfl) (fun _ _ _ h => h) (by rfl) hHeld ?_ ?_
            rotate_left
            · intro wS hSw; (try dsimp only at hSw); go_simp <;> with_reducible rfl
            try simp only [Act.put, List.setIfInBounds_toArray, List.set_cons_zero, List.set_cons_succ]
            refine rtake (i := 11) (v := ?_) { dst := some 22, op := Op.load 22 (Operand.tmp 21), type := 22, pos := _, after := #[{ on := 10, ground := Ground.data }, { on := 9, ground := Ground.guard }], guard := some (9, false) } rfl (by kernel_rfl) (by kernel_rfl) (by kernel_rfl) (fun _ _ _ h => h) (by rfl) hHeld ?_ ?_
            rotate_left
            · intro wS hSw; (try dsimp only at hSw); go_simp <;> with_reducible rfl
            try simp only [Act.put, List.setIfInBounds_toArray, List.set_cons_zero, List.set_cons_succ]
            refine rtake (i := 12) (v := ?_) { dst := some 23, op := Op.move (Operand.tmp 0), type := 43, pos := _, after := #[{ on := 9, ground := Ground.guard }], guard := some (9, false) } rfl (by kernel_rfl) (by kernel_rfl) (by kernel_rfl) (fun _ _ _ h => h) (by rfl) hHeld ?_ ?_
            rotate_left
            · intro wS hSw; (try dsimp only at hSw); go_simp <;> with_reducible rfl
            try simp only [Act.put, List.setIfInBounds_toArray, List.set_cons_zero, List.set_cons_succ]
            refine rtake (i := 13) (v := ?_) { dst := some 24, op := Op.indexAddr 43 (Operand.tmp 23) (Operand.const (Value.int IntKind.i64 0)), type := 0, pos := _, after := #[{ on := 12, ground := Ground.data }, { on := 9, ground := Ground.guard }], guard := some (9, false) } rfl (by kernel_rfl) (by kernel_rfl) (by kernel_rfl) (fun _ _ _ h => h) (by rfl) hHeld ?_ ?_
            rotate_left
            · intro wS hSw; (try dsimp only at hSw); go_simp <;> with_reducible rfl
            try simp only [Act.put, List.setIfInBounds_toArray, List.set_cons_zero, List.set_cons_succ]
            refine rtake (i := 14) (v := ?_) { dst := some 25, op := Op.fieldAddr 26 (Operand.tmp 24) 0, type := 0, pos := _, after := #[{ on := 13, ground := Ground.data }, { on := 9, ground := Ground.guard }], guard := some (9, false) } rfl (by kernel_rfl) (by kernel_rfl) (by kernel_rfl) (fun _ _ _ h => h) (by rfl) hHeld ?_ ?_
            rotate_left
            · intro wS hSw; (try dsimp only at hSw); go_simp <;> with_reducible rfl
            try simp only [Act.put, List.setIfInBounds_toArray, List.set_cons_zero, List.set_cons_succ]
            refine rtake (i := 15) (v := ?_) { dst := some 26, op := Op.load 22 (Operand.tmp 25), type := 22, pos := _, after := #[{ on := 14, ground := Ground.data }, { on := 9, ground := Ground.guard }], guard := some (9, false) } rfl (by kernel_rfl) (by kernel_rfl) (by kernel_rfl) (fun _ _ _ h => h) (by rfl) hHeld ?_ ?_
            rotate_left
            · intro wS hSw; (try dsimp only at hSw); go_simp <;> with_reducible rfl
            try simp only [Act.put, List.setIfInBounds_toArray, List.set_cons_zero, List.set_cons_succ]
            refine rtake (i := 16) (v := ?_) { dst := some 27, op := Op.binOp BinOp.neq 22 (Operand.tmp 22) (Operand.tmp 26) 22, type := 4, pos := _, after := #[{ on := 11, ground := Ground.data }, { on := 15, ground := Ground.data }, { on := 9, ground := Ground.guard }], guard := some (9, false) } rfl (by kernel_rfl) (by kernel_rfl) (by kernel_rfl) (fun _ _ _ h => h) (by rfl) hHeld ?_ ?_
            rotate_left
            · intro wS hSw; (try dsimp only at hSw); go_simp <;> with_reducible rfl
            try simp only [Act.put, List.setIfInBounds_toArray, List.set_cons_zero, List.set_cons_succ]
            refine rtake (i := 17) (v := ?_) { dst := some 28, op := Op.pick (Operand.tmp 20) (Operand.const (Value.bool true)) (Operand.tmp 27), type := 4, pos := _, after := #[{ on := 9, ground := Ground.data }, { on := 16, ground := Ground.data }], guard := none } rfl (by kernel_rfl) (by kernel_rfl) (by kernel_rfl) (fun _ _ _ h => h) (by rfl) hHeld ?_ ?_
            rotate_left
            · intro wS hSw; (try dsimp only at hSw); go_simp <;> with_reducible rfl
            try simp only [Act.put, List.setIfInBounds_toArray, List.set_cons_zero, List.set_cons_succ]
            refine wpAnyH_done (by kernel_rfl) ?_ _
            have HW := Lib.hid hHeld.1
            clear hHeld
            go_wp2_with fail
            go_ret
            exact ⟨rfl, below_call HB.out HW.out⟩
    · obtain rfl : k = n := by omega
      obtain rfl : k = m := by omega
      rw [decide_eq_true rfl]
      go_wp2_with fail
      go_ret
      exact ⟨rfl, HB.out⟩
set_option maxRecDepth 100000 in
set_option maxHeartbeats 4000000 in
theorem refDo8_any (o : Int) (f : List Iv → List Iv → List Iv) (hdo : ∀ (a b : List Iv) (s t : Value) (w : World), OpAt w s a → OpAt w t b → Calls Try.prog 27 #[s, t, .int .i64 o] w (IsOwnR (f a b) w))
    (hf : ∀ A B, GoodL A → GoodL B → GoodL (f A B) ∧ (f A B).length ≤ A.length + B.length)
    (ra rb ma mb : Int) (A B : List Iv) (sa sb : Value) (w : World) (ha : EntAt w sa ma A) (hb : EntAt w sb mb B) :
    Calls Try.prog 13 #[.agg #[.int .u64 ra, .int .u64 ma, sa], .agg #[.int .u64 rb, .int .u64 mb, sb], .int .i64 o] w (IsOf ra (f (knownL ma A) (knownL mb B)) w) := by
  obtain ⟨p, cap, rfl, _⟩ := ha.any.at'.shape
  obtain ⟨p', cap', rfl, _⟩ := hb.any.at'.shape
  obtain ⟨wA, hwA⟩ : ∃ wA, w.alloc (.cells #[.int .u64 ra, .int .u64 ma, .slice p A.length cap] 26) = wA := ⟨_, rfl⟩
  have hbA : Below w.heap.size w wA := hwA ▸ below_new w _
  have eA : E3 wA w.heap.size ra ma (.slice p A.length cap) := hwA ▸ E3.new w ra ma (.slice p A.length cap) 26 _ rfl
  obtain ⟨w1, hw1⟩ : ∃ w1, wA.alloc (.cells #[.int .u64 rb, .int .u64 mb, .slice p' B.length cap'] 26) = w1 := ⟨_, rfl⟩
  have hb1' : Below wA.heap.size wA w1 := hw1 ▸ below_new wA _
  have eB : E3 w1 wA.heap.size rb mb (.slice p' B.length cap') := hw1 ▸ E3.new wA rb mb (.slice p' B.length cap') 26 _ rfl
  have hnA : w.heap.size < wA.heap.size := World.block_lt_of_cell? wA _ eA.1
  have hnB : wA.heap.size < w1.heap.size := World.block_lt_of_cell? w1 _ eB.1
  obtain ⟨w2, hw2⟩ : ∃ w2, w1.alloc (.cells #[.int .u64 0, .int .u64 0, .slice none 0 0] 26) = w2 := ⟨_, rfl⟩
  have hB2 : Below w1.heap.size w1 w2 := hw2 ▸ below_new w1 _
  have t0 : w2.cell? ⟨w1.heap.size, 0, none⟩ = some (.int .u64 0) := by rw [← hw2]; simp
  have t1 : w2.cell? ⟨w1.heap.size, 1, none⟩ = some (.int .u64 0) := by rw [← hw2]; simp
  have t2 : w2.cell? ⟨w1.heap.size, 2, none⟩ = some (.slice none 0 0) := by rw [← hw2]; simp
  have u0 : w2.frozen? ⟨w1.heap.size, 0, none⟩ = false := by rw [← hw2]; simp
  have u1 : w2.frozen? ⟨w1.heap.size, 1, none⟩ = false := by rw [← hw2]; simp
  have u2 : w2.frozen? ⟨w1.heap.size, 2, none⟩ = false := by rw [← hw2]; simp
  have HLT : Hid (w1.heap.size < w2.heap.size) := Lib.hid (World.block_lt_of_cell? w2 _ t0)
  have hbW := below_call (below_call hbA hb1') hB2
  have eA2 := (eA.call hb1').call hB2
  have eB2 := eB.call hB2
  have HS0 := Lib.hid (r6_drew ⟨hB2, eA2.1, eA2.2.1, eA2.2.2, eB2.1, eB2.2.1, eB2.2.2⟩)
  have HOA := Lib.hid (ha.op.call hbW)
  have HOB := Lib.hid (hb.op.call hbW)
  have KA := Lib.hid (fun W h => refKnown_any ra ma A (.slice p A.length cap) W h ha.good)
  have KB := Lib.hid (fun W h => refKnown_any rb mb B (.slice p' B.length cap') W h hb.good)
  have KD := Lib.hid hdo
  have KO := Lib.hid refOf_any
  have hga := known_good ha.good
  have hgb := known_good hb.good
  have hla := known_count ha.good
  have hlb := known_count hb.good
  have hfa := ha.any.len
  have hfb := hb.any.len
  have hff := hf _ _ hga hgb
  have HGA := Lib.hid (And.intro hga (show (knownL ma A).length ≤ 5001 by omega))
  have HGB := Lib.hid (And.intro hgb (show (knownL mb B).length ≤ 5001 by omega))
  have HGF := Lib.hid (And.intro hff.1 (show (f (knownL ma A) (knownL mb B)).length ≤ 10002 by omega))
  have HW1 := Lib.hid (below_call hbA hb1')
  have HNA : Hid (w.heap.size ≠ w1.heap.size) := Lib.hid (by omega)
  have HNB : Hid (wA.heap.size ≠ w1.heap.size) := Lib.hid (by omega)
  clear hdo hf ha hb hga hgb hla hlb hfa hfb hff hbA hb1' eA eB eA2 eB2 hnA hnB hB2 hbW
  go_enter Try.func13, Try.ntmps13
  go_wp2_with fail
  clear hwA hw1 hw2
  generalize knownL ma A = KKA at *
  generalize knownL mb B = KKB at *
  go_region_held3 (fun w' => Below w1.heap.size w1 w' ∧ w'.cell? ⟨w.heap.size, 0, none⟩ = some (.int .u64 ra) ∧ w'.cell? ⟨w.heap.size, 1, none⟩ = some (.int .u64 ma) ∧ w'.cell? ⟨w.heap.size, 2, none⟩ = some (.slice p A.length cap) ∧ w'.cell? ⟨wA.heap.size, 0, none⟩ = some (.int .u64 rb) ∧ w'.cell? ⟨wA.heap.size, 1, none⟩ = some (.int .u64 mb) ∧ w'.cell? ⟨wA.heap.size, 2, none⟩ = some (.slice p' B.length cap'))
    (first
      | exact r6_call (by assumption) (by assumption)
      | exact HS0.out
      | exact r6_set (by assumption) (Nat.le_refl _) HNA.out HNA.out HNA.out HNB.out HNB.out HNB.out _ _ _
      | assumption)
    (first
      | (go_at_call 28; (with_reducible change Calls _ _ #[.agg #[.int .u64 ra, .int .u64 ma, .slice p A.length cap]] _ _); refine (KA.out _ (HOA.out.call (Below.refl _ _).drew)).mono ?_; rintro en w3 ⟨v1, rfl, hv1, h'⟩; have hh : Below w2.heap.size w2 w3 := (Below.refl _ _).drew.trans h'; replace t0 := keep_cell t0 hh; replace t1 := keep_cell t1 hh; replace t2 := keep_cell t2 hh; replace u0 := keep_free u0 HLT.out hh; replace u1 := keep_free u1 HLT.out hh; replace u2 := keep_free u2 HLT.out hh; replace HLT := Lib.hid (Nat.lt_of_lt_of_le HLT.out (hh).size); replace HOB := Lib.hid (HOB.out.call hh);  have HV1 := Lib.hid hv1; clear hv1 hh; have h' := Lib.hid h')
      | (go_at_call 28; (with_reducible change Calls _ _ #[.agg #[.int .u64 rb, .int .u64 mb, .slice p' B.length cap']] _ _); refine (KB.out _ HOB.out).mono ?_; rintro en w4 ⟨v2, rfl, hv2, h'⟩; replace t0 := keep_cell t0 h'; replace t1 := keep_cell t1 h'; replace t2 := keep_cell t2 h'; replace u0 := keep_free u0 HLT.out h'; replace u1 := keep_free u1 HLT.out h'; replace u2 := keep_free u2 HLT.out h'; replace HLT := Lib.hid (Nat.lt_of_lt_of_le HLT.out (h').size); replace HV1 := Lib.hid (HV1.out.below h');  have HV2 := Lib.hid hv2; clear hv2; have h' := Lib.hid h')
      | (go_at_call 27; refine (KD.out KKA KKB _ _ _ ⟨HV1.out.ivs (by have := HGA.out.2; omega), HGA.out.1, by have := HGA.out.2; omega⟩ ⟨HV2.out.ivs (by have := HGB.out.2; omega), HGB.out.1, by have := HGB.out.2; omega⟩).mono ?_; rintro en w5 ⟨v3, rfl, hv3, h'⟩; replace t0 := keep_cell t0 h'; replace t1 := keep_cell t1 h'; replace t2 := keep_cell t2 h'; replace u0 := keep_free u0 HLT.out h'; replace u1 := keep_free u1 HLT.out h'; replace u2 := keep_free u2 HLT.out h'; replace HLT := Lib.hid (Nat.lt_of_lt_of_le HLT.out (h').size);  have HV3 := Lib.hid hv3; clear hv3; have h' := Lib.hid h')
      | (go_at_call 26; refine (KO.out ra (f KKA KKB) _ _ ⟨HV3.out.ivs (by have := HGF.out.2; omega), HGF.out.1, by have := HGF.out.2; omega⟩).mono ?_; rintro en w6 ⟨vo, rfl, hvo, hso, h'⟩; replace t0 := keep_cell t0 h'; replace t1 := keep_cell t1 h'; replace t2 := keep_cell t2 h'; replace u0 := keep_free u0 HLT.out h'; replace u1 := keep_free u1 HLT.out h'; replace u2 := keep_free u2 HLT.out h'; have HLQ := HLT; replace HLT := Lib.hid (Nat.lt_of_lt_of_le HLT.out (h').size);  obtain ⟨po, co, rfl, _⟩ := hvo.shape; have HVO := Lib.hid (And.intro hvo hso); clear hvo hso; have h' := Lib.hid h'; have hSw := r6_call (by assumption) h'))
  have HSW := Lib.hid (below_call HW1.out hSw.1)
  clear hSw
  go_wp2_with fail
  generalize f KKA KKB = KF at *
  have hs3 := three_stored t0 t1 t2 (.int .u64 (repE ra KF)) (.int .u64 (topL KF)) (.slice po (holesL KF).length co)
  refine bodyPost_ret (v := .tuple #[.agg #[.int .u64 (repE ra KF), .int .u64 (topL KF), .slice po (holesL KF).length co], .bool (someE KF)]) (by simp [results, Try.results13, go_sem, hs3.1, hs3.2.1, hs3.2.2]) rfl ?_
  have hv := soft_set (o := 2) (soft_set (o := 1) (soft_set (o := 0) HVO.out HLQ.out (.int .u64 (repE ra KF))) HLQ.out (.int .u64 (topL KF))) HLQ.out (.slice po (holesL KF).length co)
  exact ⟨_, rfl, hv.1, hv.2.base (Nat.le_trans HW1.out.size (Nat.le_of_lt HLQ.out)), ((HSW.out.setCell (p := ⟨w1.heap.size, 0, none⟩) HW1.out.size _).setCell (p := ⟨w1.heap.size, 1, none⟩) HW1.out.size _).setCell (p := ⟨w1.heap.size, 2, none⟩) HW1.out.size _⟩
end Go.Proofs.Ytnlbohaealkelaa
