/- The deferred function literals that recover, in a call that returns; holds and Has. No conditions. -/
import Derived.Test.YtenfchkellkifaaDoorHolds
namespace Go.Proofs.YtenfchkellkifaaDoor
open Go.RowKit Go.Extern.Stop Go.Stop Go.Extern

theorem idle_holds (w : World) :
    CallsD Tryd.prog 39 #[] .returning w fun e u' w' => e = .returned (.tuple #[]) ∧ u' = .returning ∧ w' = w := by
  refine callsD_of_wpS Tryd.func39 rfl fun c₀ cs hu => ?_
  apply wpS_region
  cases c₀
  simp_all [wpOpsS, go_sem, recoverD, Tryd.ntmps39, bodyPostS, results, Tryd.results39]
theorem idle_code (w : World) :
    CallsD Tryd.prog 37 #[] .returning w fun e u' w' => e = .returned (.tuple #[]) ∧ u' = .returning ∧ w' = w := by
  refine callsD_of_wpS Tryd.func37 rfl fun c₀ cs hu => ?_
  apply wpS_region
  cases c₀
  simp_all [wpOpsS, go_sem, recoverD, Tryd.ntmps37, bodyPostS, results, Tryd.results37]
theorem idle_fault (w : World) :
    CallsD Tryd.prog 38 #[] .returning w fun e u' w' => e = .returned (.tuple #[]) ∧ u' = .returning ∧ w' = w := by
  refine callsD_of_wpS Tryd.func38 rfl fun c₀ cs hu => ?_
  apply wpS_region
  cases c₀
  simp_all [wpOpsS, go_sem, recoverD, Tryd.ntmps38, bodyPostS, results, Tryd.results38]

set_option maxRecDepth 100000 in
theorem holds_any (c : Int) (b : Option (Int × Option Int)) (s : ByteArray) (ns : List ByteArray) (v : Value) (w : World) (h : ErrV w.heap.size w b s ns v) :
    Calls Tryd.prog 31 #[v, .int .i64 c] w (IsEnd (codeIs c b) w) := by
  have H := Lib.hid h; clear h
  go_enter_defers Tryd.func31, Tryd.ntmps31
  go_wp2_with fail
  refine (Is_any c b s ns _ _ H.out).mono ?_
  rintro e w' ⟨rfl, hb⟩
  go_wp2_with fail
  refine leaves_cons (f := 39) (args := #[]) (by simp) (by simp [go_sem]) ?_
  refine (idle_holds _).mono ?_
  rintro e u' w'' ⟨rfl, rfl, rfl⟩
  exact ⟨_, results_tmp rfl _ _ _, rfl, hb⟩

set_option maxRecDepth 100000 in
theorem holds_nil (c : Int) (w : World) :
    Calls Tryd.prog 31 #[.nilIface, .int .i64 c] w (IsEnd false w) := by
  go_enter_defers Tryd.func31, Tryd.ntmps31
  go_wp2_with fail
  refine (is_nil c _).mono ?_
  rintro e w' ⟨rfl, hb⟩
  go_wp2_with fail
  refine leaves_cons (f := 39) (args := #[]) (by simp) (by simp [go_sem]) ?_
  refine (idle_holds _).mono ?_
  rintro e u' w'' ⟨rfl, rfl, rfl⟩
  exact ⟨_, results_tmp rfl _ _ _, rfl, hb⟩
end Go.Proofs.YtenfchkellkifaaDoor
