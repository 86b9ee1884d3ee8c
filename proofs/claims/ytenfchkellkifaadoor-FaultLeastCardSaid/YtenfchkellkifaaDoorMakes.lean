/- FaultMakes returns true for all codes and offsets and changes no memory that was there. Condition: the variable errors.errorType holds the type error. -/
import Derived.Test.YtenfchkellkifaaDoorAlive
namespace Go.Proofs.YtenfchkellkifaaDoor
open Go.RowKit Go.Extern.Stop Go.Stop Go.Extern

theorem ta_fault (x y : Int) (w : World) : (Instr.typeAssert (.iface 28 (.agg #[.int .i64 x, .int .i64 y])) 23 28 true).run Tryd.prog w = .ok (.tuple #[.agg #[.int .i64 x, .int .i64 y], .bool true]) w := by kernel_rfl

set_option maxRecDepth 100000 in
set_option maxHeartbeats 1000000 in
theorem makes_any (c a : Int) (w : World) (hg : ErrT w) : Calls Tryd.prog 3 #[.int .i64 c, .int .i64 a] w (IsEnd true w) := by
  by_cases h0 : c = 0
  · subst h0
    have K0 := Lib.hid (new_nil a w)
    have K1 := Lib.hid (alive_any w hg)
    have Hg := Lib.hid hg; clear hg
    go_enter Tryd.func3, Tryd.ntmps3
    go_wp2_with fail
    refine K0.out.mono ?_
    rintro e w' ⟨rfl, rfl⟩
    go_wp2_with fail
    refine K1.out.mono ?_
    rintro e w1 ⟨rfl, h1⟩
    have H1 := Lib.hid h1; clear h1
    go_wp2_with fail
    go_ret
    exact ⟨rfl, H1.out⟩
  · have hc : (c == 0) = false := by simpa using h0
    have hB : Below w.heap.size w (w.alloc (.cells #[.int .i64 c, .int .i64 a] 28)) := (Below.refl _ _).alloc (Nat.le_refl _) _
    have K0 := Lib.hid (new_ok c a w hc)
    have K1 := Lib.hid (alive_any (w.alloc (.cells #[.int .i64 c, .int .i64 a] 28)) (hg.here hB))
    have K2 := Lib.hid (fun (wx : World) => Is_any c (some (c, some a)) ⟨#[]⟩ [] (baseV c (some a)) wx rfl)
    have K3 := Lib.hid (fun wx hx => Code_any (some (some (c, some a))) ⟨#[]⟩ [] (baseV c (some a)) wx (hg.here (keep_below hB (Nat.le_refl _) hx)) rfl)
    have K4 := Lib.hid (fun wx hx => At_any (some (some (c, some a))) ⟨#[]⟩ [] (baseV c (some a)) wx (hg.here (keep_below hB (Nat.le_refl _) hx)) rfl)
    unfold baseV at K2 K3 K4
    have HB := Lib.hid hB; clear hB
    have Hg := Lib.hid hg; clear hg
    have H0 := Lib.hid h0; clear h0
    have ta := ta_fault
    go_enter Tryd.func3, Tryd.ntmps3
    go_wp2_with fail
    refine K0.out.mono ?_
    rintro e w' ⟨rfl, rfl⟩
    unfold baseV
    go_wp2_with fail
    refine K1.out.mono ?_
    rintro e w1 ⟨rfl, h1⟩
    have c0 : w1.cell? ⟨w.heap.size, 0, none⟩ = some (.int .i64 c) := keep_cell (by simp) h1
    have c1 : w1.cell? ⟨w.heap.size, 1, none⟩ = some (.int .i64 a) := keep_cell (by simp) h1
    have H1 := Lib.hid h1; clear h1
    go_wp2_with fail
    refine (K2.out w1).mono ?_
    rintro e w2 ⟨rfl, h2⟩
    have H2 := Lib.hid (keep_below H1.out (Nat.le_refl _) h2); clear h2
    have e1 : codeIs c (some (c, some a)) = true := by simp [codeIs]
    rw [e1]
    clear e1
    go_wp2_with fail
    refine (K3.out w2 H2.out).mono ?_
    rintro e w3 ⟨rfl, h3⟩
    have H3 := Lib.hid (keep_below H2.out (Nat.le_refl _) h3); clear h3
    unfold codeOf
    go_wp2_with fail
    refine (K4.out w3 H3.out).mono ?_
    rintro e w4 ⟨rfl, h4⟩
    have H4 := Lib.hid (keep_below H3.out (Nat.le_refl _) h4); clear h4
    have e1 : (atOf (some (some (c, some a)))).getD (-1) = a := rfl
    rw [e1]
    clear e1
    go_wp2_with fail
    go_ret
    exact ⟨rfl, keep_below HB.out (Nat.le_refl _) H4.out⟩
end Go.Proofs.YtenfchkellkifaaDoor
