/- Described errors in memory: few, build and the reference's Code and At. Conditions: the description's numbers are ints. -/
import Derived.Test.YtenfchkellkifaaDoorAlive
namespace Go.Proofs.YtenfchkellkifaaDoor
open Go.RowKit Go.Extern.Stop Go.Stop Go.Extern

/-- A described error: whether it is nil, its code, whether it has an offset, the offset, its names, the last one last. -/
structure EData where
  isNil : Bool
  code : Int
  has : Bool
  off : Int
  names : List ByteArray

def NamesAt (W : World) (v : Value) (ns : List ByteArray) : Prop :=
  ∃ p cap, v = .slice p ns.length cap ∧ ns.length ≤ 9223372036854775807 ∧
    (ns ≠ [] → ∃ b o, p = some ⟨b, o, none⟩ ∧ b < W.heap.size ∧ ∀ i, i < ns.length → W.cell? ⟨b, o + i, none⟩ = some (.string (ns.getD i default)))

theorem NamesAt.below {W W' : World} {v : Value} {ns : List ByteArray} (h : NamesAt W v ns) (hb : Below W.heap.size W W') : NamesAt W' v ns := by
  obtain ⟨p, cap, h1, h2, h3⟩ := h
  refine ⟨p, cap, h1, h2, fun hn => ?_⟩
  obtain ⟨b, o, e1, e2, e3⟩ := h3 hn
  exact ⟨b, o, e1, Nat.lt_of_lt_of_le e2 hb.size, fun i hi => by rw [hb.cell (p := ⟨b, o + i, none⟩) e2]; exact e3 i hi⟩

/-- The value of a described error. -/
def errV (E : EData) (s : Value) : Value := .agg #[.bool E.isNil, .int .i64 E.code, .bool E.has, .int .i64 E.off, s]

/-- The error that a description stands for. -/
def baseOf (E : EData) : Option (Int × Option Int) := some (E.code, if E.has then some E.off else none)
def eOf (E : EData) : Option (Option (Int × Option Int)) := if E.isNil then none else some (baseOf E)

def fewB (ns : List ByteArray) : Bool := ns.all (fun n => decide (n.size ≤ 100)) && decide (ns.length ≤ 20)

theorem all_take (f : ByteArray → Bool) (ns : List ByteArray) (i : Nat) (hi : i < ns.length) (hf : f (ns.getD i default) = false) : ns.all f = false := by
  rw [List.all_eq_false]
  have e : ns.getD i default = ns[i] := by simp [hi]
  exact ⟨ns[i], List.getElem_mem hi, by rw [← e, hf]; simp⟩

theorem all_of_index (f : ByteArray → Bool) (ns : List ByteArray) (h : ∀ m, m < ns.length → f (ns.getD m default) = true) : ns.all f = true := by
  rw [List.all_eq_true]
  intro x hx
  obtain ⟨i, hi, rfl⟩ := List.getElem_of_mem hx
  have := h i hi
  simpa [hi] using this

/-- After i rounds of few's loop. -/
def FewRel (ns : List ByteArray) (i : Nat) : Prop := ∀ m, m < i → (ns.getD m default).size ≤ 100

set_option maxRecDepth 100000 in
set_option maxHeartbeats 1000000 in
theorem few_any (E : EData) (s : Value) (w : World) (h : NamesAt w s E.names) :
    Calls Tryd.prog 14 #[errV E s] w (IsEnd (fewB E.names) w) := by
  obtain ⟨nil, code, has, off, ns⟩ := E
  obtain ⟨p, cap, rfl, hl, hn⟩ := h
  simp only at hl hn
  have HL := Lib.hid hl; clear hl
  have HN := Lib.hid hn; clear hn
  have hB : Below w.heap.size w (w.alloc (.cells #[.bool nil, .int .i64 code, .bool has, .int .i64 off, .slice p ns.length cap] 36)) := (Below.refl _ _).alloc (Nat.le_refl _) _
  have HB := Lib.hid hB; clear hB
  unfold errV
  go_enter Tryd.func14, Tryd.ntmps14
  go_wp2_with fail
  go_loopg [8] (ns.length + 1) (fun g j wr => ∃ i : Nat, j = .int .i64 i ∧ i ≤ ns.length ∧ ns.length + 1 - i ≤ g ∧ FewRel ns i ∧ wr = w.alloc (.cells #[.bool nil, .int .i64 code, .bool has, .int .i64 off, .slice p ns.length cap] 36))
  case atStart => exact ⟨0, rfl, Nat.zero_le _, by omega, fun m hm => absurd hm (Nat.not_lt_zero _), rfl⟩
  case round =>
    obtain ⟨i, rfl, hi, hg, hr, rfl⟩ := hrel
    have HR := Lib.hid hr; clear hr
    by_cases hlt : i < ns.length
    · have hi63 : (i : Int) + 1 ≤ 9223372036854775807 := by have := HL.out; omega
      obtain ⟨b, o, rfl, hb, hc⟩ := HN.out (fun e => by rw [e] at hlt; exact absurd hlt (Nat.not_lt_zero _))
      have hcell : (w.alloc (.cells #[.bool nil, .int .i64 code, .bool has, .int .i64 off, .slice (some ⟨b, o, none⟩) ns.length cap] 36)).cell? ⟨b, o + i, none⟩ = some (.string (ns.getD i default)) := by
        rw [World.cell?_alloc_lt _ _ ⟨b, o + i, none⟩ hb]; exact hc i hlt
      clear hc hb
      generalize hx : ns.getD i default = x at hcell
      have HX := Lib.hid hx; clear hx
      by_cases hs : x.size ≤ 100
      · have hd : decide ((100 : Int) < (x.size : Int)) = false := by simp; omega
        go_wp2_with fail
        go_roundg (gk - 1)
        case measure => omega
        case rel =>
          refine ⟨i + 1, by go_num, by omega, by omega, fun m hm => ?_, rfl⟩
          rcases Nat.lt_or_ge m i with h | h
          · exact HR.out m h
          · obtain rfl : m = i := by omega
            rw [HX.out]; exact hs
      · have hd : decide ((100 : Int) < (x.size : Int)) = true := by simp; omega
        have hf : fewB ns = false := by
          unfold fewB
          rw [all_take _ ns i hlt (by rw [HX.out]; simpa using hs)]; rfl
        have HF := Lib.hid hf; clear hf
        have HS := Lib.hid hs; clear hs
        go_wp2_with fail
        go_ret
        exact ⟨by simp only [HF.out]; rfl, HB.out⟩
    · obtain rfl : i = ns.length := by omega
      have hf : fewB ns = decide (ns.length ≤ 20) := by
        unfold fewB
        rw [all_of_index _ ns (fun m hm => by simpa using HR.out m hm)]; simp
      have HF := Lib.hid hf; clear hf
      have HLt := Lib.hid hlt; clear hlt
      have hd0 : decide ((ns.length : Int) < (ns.length : Int)) = false := by simp
      by_cases h20 : ns.length ≤ 20
      · have hd : decide ((ns.length : Int) ≤ 20) = true := by simp; omega
        go_wp2_with fail
        go_ret
        exact ⟨by simp only [HF.out]; simp [h20], HB.out⟩
      · have hd : decide ((ns.length : Int) ≤ 20) = false := by simp; omega
        have H20 := Lib.hid h20; clear h20
        go_wp2_with fail
        go_ret
        exact ⟨by simp only [HF.out]; simp [H20.out], HB.out⟩
end Go.Proofs.YtenfchkellkifaaDoor
