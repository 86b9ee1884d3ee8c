/- The reference's text of a described error. Conditions: at most 20 names of at most 100 bytes; the code is an int. -/
import Derived.Test.YtenfchkellkifaaDoorBuild
namespace Go.Proofs.YtenfchkellkifaaDoor
open Go.RowKit Go.Extern.Stop Go.Stop Go.Extern

def TextRel (E : EData) (i : Nat) (s : Value) : Prop := s = .string (textOf (baseOf E) ⟨#[]⟩ (E.names.take i).reverse)

theorem few_spec {ns : List ByteArray} (h : fewB ns = true) : (∀ n ∈ ns, n.size ≤ 100) ∧ ns.length ≤ 20 := by
  unfold fewB at h
  rw [Bool.and_eq_true] at h
  exact ⟨fun n hn => by simpa using List.all_eq_true.1 h.1 n hn, by simpa using h.2⟩

theorem codeOk_base (E : EData) (hc : E.code ≤ 9223372036854775807) : CodeOk (baseOf E) := by
  intro c o h
  simp [baseOf] at h
  omega

theorem text_bound (E : EData) (hc : E.code ≤ 9223372036854775807) (hf : fewB E.names = true) (i : Nat) : (textOf (baseOf E) ⟨#[]⟩ (E.names.take i).reverse).size ≤ 10000 := by
  obtain ⟨h1, h2⟩ := few_spec hf
  have := textOf_size (baseOf E) ⟨#[]⟩ (by decide) (codeOk_base E hc) (E.names.take i).reverse (fun n hn => h1 n (List.mem_of_mem_take (List.mem_reverse.1 hn)))
  have hl : (E.names.take i).reverse.length ≤ 20 := by simp; omega
  omega

set_option maxRecDepth 100000 in
set_option maxHeartbeats 1000000 in
theorem refText_any (E : EData) (s : Value) (w : World) (h : NamesAt w s E.names) (hc : E.code ≤ 9223372036854775807) (hf : fewB E.names = true) :
    Calls Tryd.prog 20 #[errV E s] w (TextB (textOf (baseOf E) ⟨#[]⟩ E.names.reverse) w) := by
  obtain ⟨p, cap, rfl, hl, hn⟩ := h
  have h20 := (few_spec hf).2
  have hs100 : ∀ i, i < E.names.length → (E.names.getD i default).size ≤ 100 := fun i hi => by
    have e : E.names.getD i default = E.names[i] := by simp [hi]
    rw [e]; exact (few_spec hf).1 _ (List.getElem_mem hi)
  have HS := Lib.hid hs100; clear hs100
  have HT := Lib.hid (text_bound E hc hf)
  have HC := Lib.hid hc; clear hc
  have HF := Lib.hid hf; clear hf
  have HL := Lib.hid hl; clear hl
  have HN := Lib.hid hn; clear hn
  have hB : Below w.heap.size w (w.alloc (.cells #[.bool E.isNil, .int .i64 E.code, .bool E.has, .int .i64 E.off, .slice p E.names.length cap] 36)) := (Below.refl _ _).alloc (Nat.le_refl _) _
  have HB := Lib.hid hB; clear hB
  have K := Lib.hid (fun wx => errno_any E.code wx HC.out)
  unfold errV
  go_enter Tryd.func20, Tryd.ntmps20
  go_wp2_with fail
  refine (K.out _).mono ?_
  rintro e w' ⟨rfl, rfl⟩
  go_wp2_with fail
  go_loopg [3, 4] (E.names.length + 1) (fun g s j wr => ∃ i : Nat, j = .int .i64 i ∧ i ≤ E.names.length ∧ E.names.length + 1 - i ≤ g ∧ TextRel E i s ∧ wr = w.alloc (.cells #[.bool E.isNil, .int .i64 E.code, .bool E.has, .int .i64 E.off, .slice p E.names.length cap] 36))
  case atStart => exact ⟨0, rfl, Nat.zero_le _, by omega, rfl, rfl⟩
  case round =>
    obtain ⟨i, rfl, hi, hg, hr, rfl⟩ := hrel
    obtain rfl : _ = Value.string (textOf (baseOf E) ⟨#[]⟩ (E.names.take i).reverse) := hr
    have ht := HT.out i
    generalize htx : textOf (baseOf E) ⟨#[]⟩ (E.names.take i).reverse = T at ht
    have HTX := Lib.hid htx; clear htx
    by_cases hlt : i < E.names.length
    · have hi63 : (i : Int) + 1 ≤ 9223372036854775807 := by omega
      obtain ⟨b, o, rfl, hb, hc⟩ := HN.out (fun e => by rw [e] at hlt; exact absurd hlt (Nat.not_lt_zero _))
      have hcell : (w.alloc (.cells #[.bool E.isNil, .int .i64 E.code, .bool E.has, .int .i64 E.off, .slice (some ⟨b, o, none⟩) E.names.length cap] 36)).cell? ⟨b, o + i, none⟩ = some (.string (E.names.getD i default)) := by
        rw [World.cell?_alloc_lt _ _ ⟨b, o + i, none⟩ hb]; exact hc i hlt
      clear hc hb
      have hsx := HS.out i hlt
      generalize hx : E.names.getD i default = x at hcell hsx
      have HX := Lib.hid hx; clear hx
      have hc1 : ¬ 9223372036854775807 < x.size + 2 := by omega
      have hc2 : ¬ 9223372036854775807 < x.size + 2 + T.size := by omega
      go_wp2_with fail
      go_roundg (gk - 1)
      case measure => omega
      case rel =>
        refine ⟨i + 1, by go_num, by omega, by omega, ?_, rfl⟩
        unfold TextRel
        rw [rev_take _ i hlt, HX.out]
        show _ = Value.string ((x ++ ⟨#[58, 32]⟩) ++ textOf (baseOf E) ⟨#[]⟩ (E.names.take i).reverse)
        rw [HTX.out]
    · obtain rfl : i = E.names.length := by omega
      have HLt := Lib.hid hlt; clear hlt
      have hd0 : decide ((E.names.length : Int) < (E.names.length : Int)) = false := by simp
      go_wp2_with fail
      go_ret
      have e := HTX.out
      rw [List.take_of_length_le (Nat.le_refl _)] at e
      exact ⟨by rw [e]; rfl, HB.out⟩
end Go.Proofs.YtenfchkellkifaaDoor
