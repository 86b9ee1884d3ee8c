/- The texts of errors in memory, by the method Error. Conditions: at most 30 names of at most 100 bytes; the code is an int. -/
import Derived.Test.YtenfchkellkifaaDoorText
namespace Go.Proofs.YtenfchkellkifaaDoor
open Go.RowKit Go.Extern.Stop Go.Stop Go.Extern

/-- The text of an error. -/
def textOf (b : Option (Int × Option Int)) (s : ByteArray) : List ByteArray → ByteArray
  | [] => match b with
    | some (c, _) => errT c
    | none => s
  | n :: ns => (n ++ ⟨#[58, 32]⟩) ++ textOf b s ns

def CodeOk (b : Option (Int × Option Int)) : Prop := ∀ c o, b = some (c, o) → c ≤ 9223372036854775807

theorem textOf_size (b : Option (Int × Option Int)) (s : ByteArray) (hs : s.size ≤ 100) (hb : CodeOk b) : ∀ (ns : List ByteArray), (∀ n ∈ ns, n.size ≤ 100) → (textOf b s ns).size ≤ 100 + 102 * ns.length := by
  intro ns
  induction ns with
  | nil =>
    intro _
    rcases b with _ | ⟨c, o⟩
    · simpa [textOf] using hs
    · have := errT_size c (hb c o rfl)
      simp only [textOf, List.length_nil]; omega
  | cons n ns ih =>
    intro h
    have h1 := ih (fun m hm => h m (List.mem_cons_of_mem _ hm))
    have h2 := h n (List.mem_cons_self ..)
    have h3 : (⟨#[58, 32]⟩ : ByteArray).size = 2 := by decide
    simp only [textOf, ByteArray.size_append, List.length_cons]
    omega

def TextB (t : ByteArray) (w : World) (e : Ending) (w' : World) : Prop := e = .returned (.string t) ∧ Below w.heap.size w w'

/-- The method Error of a value returns T, in every world that has grown out of W. -/
def Says (W : World) (v : Value) (T : ByteArray) : Prop :=
  ∃ t x F y, v = .iface t x ∧ (∀ n w, (Go.method (n + 1) t x "Error").run Tryd.prog w = .ok (F, y) w) ∧ (∀ w, (callFunc F #[y]).run Tryd.prog w = .ok (.enter F #[y]) w) ∧
    ∀ wx, Below W.heap.size W wx → Calls Tryd.prog F #[y] wx (TextB T wx)

theorem enter_code (c : Int) (w : World) : (callFunc 32 #[.int .i64 c]).run Tryd.prog w = .ok (.enter 32 #[.int .i64 c]) w := by kernel_rfl
theorem enter_fault (x : Value) (w : World) : (callFunc 59 #[x]).run Tryd.prog w = .ok (.enter 59 #[x]) w := by kernel_rfl
theorem enter_named (x : Value) (w : World) : (callFunc 61 #[x]).run Tryd.prog w = .ok (.enter 61 #[x]) w := by kernel_rfl
theorem enter_other (x : Value) (w : World) : (callFunc 66 #[x]).run Tryd.prog w = .ok (.enter 66 #[x]) w := by kernel_rfl

theorem fault_text (c a : Int) (w : World) (hc : c ≤ 9223372036854775807) :
    Calls Tryd.prog 59 #[.agg #[.int .i64 c, .int .i64 a]] w (TextB (errT c) w) := by
  have HK := Lib.hid (fun wx => errno_any c wx hc)
  clear hc
  go_enter Tryd.func59, Tryd.ntmps59
  go_wp2_with fail
  refine (HK.out _).mono ?_
  rintro e w' ⟨rfl, rfl⟩
  go_wp2_with fail
  go_ret
  exact ⟨rfl, (Below.refl _ _).alloc (Nat.le_refl _) _⟩

theorem other_text (k : Nat) (s : ByteArray) (w : World) (hc : w.cell? ⟨k, 0, none⟩ = some (.string s)) :
    Calls Tryd.prog 66 #[.pointer (some ⟨k, 0, none⟩)] w (TextB s w) := by
  go_enter Tryd.func66, Tryd.ntmps66
  go_wp2_with fail
  go_ret
  exact ⟨rfl, Below.refl _ _⟩

theorem named_text (k : Nat) (n : ByteArray) (u : Value) (T : ByteArray) (w : World) (h0 : w.cell? ⟨k, 0, none⟩ = some (.string n)) (h1 : w.cell? ⟨k, 1, none⟩ = some u)
    (hu : Says w u T) (hn : n.size ≤ 100) (hT : T.size ≤ 10000) :
    Calls Tryd.prog 61 #[.pointer (some ⟨k, 0, none⟩)] w (TextB ((n ++ ⟨#[58, 32]⟩) ++ T) w) := by
  obtain ⟨t, x, F, y, rfl, hm, he, hk⟩ := hu
  have Hk := Lib.hid hk; clear hk
  have hc1 : ¬ 9223372036854775807 < n.size + 2 := by omega
  have hc2 : ¬ 9223372036854775807 < n.size + 2 + T.size := by omega
  go_enter Tryd.func61, Tryd.ntmps61
  go_wp2_with fail
  go_region_held3 (fun w' => w'.cell? ⟨k, 0, none⟩ = some (.string n) ∧ w'.cell? ⟨k, 1, none⟩ = some (.iface t x) ∧ Below w.heap.size w w')
    (first
      | exact ⟨by simpa using h0, by simpa using h1, (Below.refl _ _).drew⟩
      | exact ⟨keep_cell hS.1 hb3.out, keep_cell hS.2.1 hb3.out, keep_below hS.2.2 (Nat.le_refl _) hb3.out⟩)
    ((rename_i hS _ _; refine (Hk.out _ hS.2.2).mono ?_; rintro en w' ⟨rfl, hb3'⟩; have hb3 := Lib.hid hb3'; clear hb3'))
  rename_i hE
  go_wp2_with fail
  go_ret
  exact ⟨rfl, hE.2.2⟩

theorem says_err (b : Option (Int × Option Int)) (s : ByteArray) (W : World) (hs : s.size ≤ 100) (hb : CodeOk b) : ∀ (ns : List ByteArray) (v : Value), (∀ n ∈ ns, n.size ≤ 100) → ns.length ≤ 30 →
    ErrV W.heap.size W b s ns v → Says W v (textOf b s ns) := by
  intro ns
  induction ns with
  | nil =>
    intro v _ _ h
    rcases b with _ | ⟨c, _ | o⟩
    · obtain ⟨k, rfl, hk, hc⟩ := h
      exact ⟨_, _, _, _, rfl, fun n w => er_other n _ w, fun w => enter_other _ w, fun wx hx => other_text k s wx (keep_cell hc hx)⟩
    · obtain rfl : v = _ := h
      exact ⟨_, _, _, _, rfl, fun n w => er_code n _ w, fun w => enter_code _ w, fun wx _ => (errno_any c wx (hb c _ rfl)).mono fun e w' he => ⟨he.1, he.2 ▸ Below.refl _ _⟩⟩
    · obtain rfl : v = _ := h
      exact ⟨_, _, _, _, rfl, fun n w => er_fault n _ w, fun w => enter_fault _ w, fun wx _ => fault_text c o wx (hb c _ rfl)⟩
  | cons n ns ih =>
    intro v hn hl h
    obtain ⟨k, u, rfl, hk, h0, h1, hu⟩ := h
    have hsz := textOf_size b s hs hb ns (fun m hm => hn m (List.mem_cons_of_mem _ hm))
    have hl' : ns.length ≤ 30 := by simp at hl; omega
    obtain ⟨t, x, F, y, rfl, hm, he, hf⟩ := ih u (fun m hm => hn m (List.mem_cons_of_mem _ hm)) hl' hu
    refine ⟨_, _, _, _, rfl, fun n w => er_named n _ w, fun w => enter_named _ w, fun wx hx => ?_⟩
    exact named_text k n _ _ wx (keep_cell h0 hx) (keep_cell h1 hx) ⟨t, x, F, y, rfl, hm, he, fun wy hy => hf wy (keep_below hx (Nat.le_refl _) hy)⟩ (hn n (List.mem_cons_self ..)) (by omega)
end Go.Proofs.YtenfchkellkifaaDoor
