/- The example of the chapter holds: alive returns true. Condition: the variable errors.errorType holds the type error. -/
import Derived.Test.YtenfchkellkifaaDoorSays
namespace Go.Proofs.YtenfchkellkifaaDoor
open Go.RowKit Go.Extern.Stop Go.Stop Go.Extern

theorem alive_text : ((⟨#[102, 114, 97, 109, 101]⟩ : ByteArray) ++ ⟨#[58, 32]⟩) ++ errT 14 = ⟨#[102, 114, 97, 109, 101, 58, 32, 101, 114, 114, 111, 114, 32, 49, 52]⟩ := by decide

set_option maxRecDepth 100000 in
set_option maxHeartbeats 1000000 in
theorem alive_any (w : World) (hg : ErrT w) : Calls Tryd.prog 10 #[] w (IsEnd true w) := by
  have hB : Below w.heap.size w (w.alloc (.cells #[.string ⟨#[102, 114, 97, 109, 101]⟩, .iface 28 (.agg #[.int .i64 14, .int .i64 7])] 68)) := (Below.refl _ _).alloc (Nat.le_refl _) _
  have hE : ErrV (w.heap.size + 1) (w.alloc (.cells #[.string ⟨#[102, 114, 97, 109, 101]⟩, .iface 28 (.agg #[.int .i64 14, .int .i64 7])] 68)) (some (14, some 7)) ⟨#[]⟩ [⟨#[102, 114, 97, 109, 101]⟩] (.iface 66 (.pointer (some ⟨w.heap.size, 0, none⟩))) :=
    ⟨w.heap.size, .iface 28 (.agg #[.int .i64 14, .int .i64 7]), rfl, by omega, by simp, by simp, rfl⟩
  have hE' : ErrN (w.alloc (.cells #[.string ⟨#[102, 114, 97, 109, 101]⟩, .iface 28 (.agg #[.int .i64 14, .int .i64 7])] 68)) (some (some (14, some 7))) ⟨#[]⟩ [⟨#[102, 114, 97, 109, 101]⟩] (.iface 66 (.pointer (some ⟨w.heap.size, 0, none⟩))) := by
    have e : (w.alloc (.cells #[.string ⟨#[102, 114, 97, 109, 101]⟩, .iface 28 (.agg #[.int .i64 14, .int .i64 7])] 68)).heap.size = w.heap.size + 1 := by simp
    unfold ErrN
    rw [e]; exact hE
  have K1 := Lib.hid (new_ok 14 7 w (by decide))
  have K2 := Lib.hid (wrap_some ⟨#[102, 114, 97, 109, 101]⟩ 28 (.agg #[.int .i64 14, .int .i64 7]) w)
  have k3 := named_text w.heap.size ⟨#[102, 114, 97, 109, 101]⟩ (.iface 28 (.agg #[.int .i64 14, .int .i64 7])) (errT 14) (w.alloc (.cells #[.string ⟨#[102, 114, 97, 109, 101]⟩, .iface 28 (.agg #[.int .i64 14, .int .i64 7])] 68)) (by simp) (by simp)
    ⟨_, _, _, _, rfl, fun n w => er_fault n _ w, fun w => enter_fault _ w, fun wx _ => fault_text 14 7 wx (by decide)⟩ (by decide) (by decide)
  rw [alive_text] at k3
  have K3 := Lib.hid k3; clear k3
  have K4 := Lib.hid (fun wx hx => Code_any (some (some (14, some 7))) ⟨#[]⟩ [⟨#[102, 114, 97, 109, 101]⟩] (.iface 66 (.pointer (some ⟨w.heap.size, 0, none⟩))) wx (hg.here (keep_below hB (Nat.le_refl _) hx)) (hE'.below hx))
  have K5 := Lib.hid (fun wx hx => At_any (some (some (14, some 7))) ⟨#[]⟩ [⟨#[102, 114, 97, 109, 101]⟩] (.iface 66 (.pointer (some ⟨w.heap.size, 0, none⟩))) wx (hg.here (keep_below hB (Nat.le_refl _) hx)) (hE'.below hx))
  have K6 := Lib.hid (fun wx (hx : Below w.heap.size w wx) => Code_any none ⟨#[]⟩ [] .nilIface wx (hg.here hx) rfl)
  have K7 := Lib.hid (fun wx (hx : Below w.heap.size w wx) => At_any none ⟨#[]⟩ [] .nilIface wx (hg.here hx) rfl)
  have HB := Lib.hid hB; clear hB
  clear hE hE'
  have Hg := Lib.hid hg; clear hg
  have m1 := er_named
  go_enter Tryd.func10, Tryd.ntmps10
  go_wp2_with fail
  refine K1.out.mono ?_
  rintro e w' ⟨rfl, rfl⟩
  unfold baseV
  go_wp2_with fail
  refine K2.out.mono ?_
  rintro e w' ⟨rfl, rfl⟩
  go_wp2_with fail
  refine K3.out.mono ?_
  rintro e w3 ⟨rfl, h3⟩
  have H3 := Lib.hid h3; clear h3
  go_wp2_with fail
  refine (K4.out _ H3.out).mono ?_
  rintro e w4 ⟨rfl, h4⟩
  have H4 := Lib.hid (keep_below H3.out (Nat.le_refl _) h4); clear h4
  unfold codeOf
  go_wp2_with fail
  refine (K5.out _ H4.out).mono ?_
  rintro e w5 ⟨rfl, h5⟩
  have H5 := Lib.hid (keep_below HB.out (Nat.le_refl _) (keep_below H4.out (Nat.le_refl _) h5)); clear h5
  unfold atOf
  go_wp2_with fail
  refine (K6.out _ H5.out).mono ?_
  rintro e w6 ⟨rfl, h6⟩
  have H6 := Lib.hid (keep_below H5.out (Nat.le_refl _) h6); clear h6
  unfold codeOf
  go_wp2_with fail
  refine (K7.out _ H6.out).mono ?_
  rintro e w7 ⟨rfl, h7⟩
  have H7 := Lib.hid (keep_below H6.out (Nat.le_refl _) h7); clear h7
  unfold atOf
  go_wp2_with fail
  go_ret
  exact ⟨rfl, H7.out⟩
end Go.Proofs.YtenfchkellkifaaDoor
