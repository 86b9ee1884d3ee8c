/- Put of the reference: an interval behind all others is added, and joined to the last one if they touch. Conditions: the ends are numbers of 64 bits. -/
import Derived.Test.YtgeggdaokjimjaaDoorRFind
import Derived.Test.YtgeggdaokjimjaaDoorRIv
import Derived.Deep.RegionLaw
import Derived.Deep.RegionHeld3
namespace Go.Proofs.YtgeggdaokjimjaaDoor
open Go.RowKit
attribute [local go_sem ↓] Go.wp_at_zero Go.wp_at_succ
/-- An append to a slice of the call's own, at a step of a region that draws its order. -/
theorem step_own {P : Program} {ops : Array Oper} {o : Oper} {a : Act} {w : World} {K : Act → World → Prop} {Q : Exit → Act → World → Prop} {E : Prop} (hgd : o.guard = none) (s x : Operand) (t : TypeId)
    (ho : o.op = .call { callee := .builtin .append, args := #[s, x], argTypes := #[t, t] })
    (base : Nat) (e : TypeId) (i : TypeInfo) (z : Value) (size bytes : Nat) (ht : P.underlying t = some (.slice e)) (hi : P.info? e = some i) (hz : i.zero = some z)
    (hsize : i.size = size) (hby : i.bytes = bytes) (hzs : z.cells.size = size) (hsz : 0 < size)
    (v : Value) (n : Nat) (xs : List Value) (hs : a.eval s = v) (hown : w.ownsRow base e size v n xs)
    (ad : Addr) (m c : Nat) (news : List Value) (hx : a.eval x = .slice (some ad) m c) (hl : news.length = m * size) (hnews : ∀ j u, news[j]? = some u → w.cell? (ad.add j) = some u) (h1 : ∀ u ∈ news, u.oneCell' = true)
    (h63 : n + m ≤ maxLen) (hbytes : (n + m) * bytes ≤ 140737488355328) (hbase : base ≤ w.heap.size)
    (h : ∀ v' w', w'.ownsRow base e size v' (n + m) (xs ++ news) → w.grownBy w' v.ownBlock → K (a.put o.dst v') w') :
    if Region.wanted o (yielded ops a.tmps) = true then Oper.wp P o a w K Q else E := by
  rw [if_pos (by simp [Region.wanted, hgd])]
  exact wp_append_own w s x t ho base e i z size bytes ht hi hz hsize hby hzs hsz v n xs hs hown ad m c news hx hl hnews h1 h63 hbytes hbase fun v' w' h2 h3 _ => h v' w' h2 h3
end Go.Proofs.YtgeggdaokjimjaaDoor

/- Slices of numbers that a call has made itself. No conditions. -/
namespace Go.Proofs.YtgeggdaokjimjaaDoor
open Go.RowKit
def nmC (l : List Int) : List Value := l.map (Value.int .u64)
theorem infoU : (Tryd.prog.info? 34).map (fun i => (i.zero, i.size, i.bytes)) = some (some (.int .u64 0), 1, 8) := by kernel_rfl
def OwnN (W : World) (B : Nat) (v : Value) (L : List Int) : Prop := W.ownsRow B 34 1 v L.length (nmC L)
theorem OwnN.below {W W' : World} {B : Nat} {v : Value} {L : List Int} (h : OwnN W B v L) (hb : Below W.heap.size W W') : OwnN W' B v L := own_below h hb
theorem OwnN.nil (W : World) (B : Nat) : OwnN W B (.slice none 0 0) [] := World.ownsRow_nil _ _ _ _
theorem OwnN.nums {w : World} {B : Nat} {v : Value} {l : List Int} (h : OwnN w B v l) (hl : l.length ≤ 4194304) : NumsAt w v l := by
  obtain ⟨h1, h2⟩ := h
  rcases h2 with ⟨rfl, hn⟩ | ⟨g, cap, cur, rfl, hg, hh, hnc, _, hcs, ht⟩
  · obtain rfl : l = [] := List.length_eq_zero_iff.1 hn
    exact ⟨none, 0, rfl, by simp, fun h => absurd rfl h⟩
  · refine ⟨_, cap, rfl, hl, fun _ => ⟨g, 0, rfl, fun i x hi => ?_⟩⟩
    have hlt : i < l.length := (List.getElem?_eq_some_iff.1 hi).1
    have e1 : w.cell? ⟨g, 0 + i, none⟩ = cur[i]? := by simp [World.cell?, hh]
    rw [e1, ← Array.getElem?_toList]
    have hx : (nmC l)[i]? = some (.int .u64 x) := by simp [nmC, hi]
    rw [← ht, List.getElem?_take] at hx
    rw [if_pos (by omega)] at hx
    exact hx
end Go.Proofs.YtgeggdaokjimjaaDoor
