/- Put of the reference: an interval behind all others is added, and joined to the last one if they touch. Conditions: the ends are numbers of 64 bits. -/
import Derived.Test.YtefiobfljhmkkaaGreatDoorROwn
import Derived.Test.YtefiobfljhmkkaaGreatDoorRIv
import Derived.Deep.DrawnRows
import Derived.StillTailTactics
import Derived.RegionTactic
import Derived.Deep.RegionWith
import Derived.Deep.RegionLaw
import Derived.Deep.RegionHeld3
namespace Go.Proofs.YtefiobfljhmkkaaGreatDoor
open Go.RowKit
attribute [local go_sem ↓] Go.wp_at_zero Go.wp_at_succ
/-- An append to a slice of the call's own, at a step of a region that draws its order. -/
theorem step_own {P : Program} {ops : Array Oper} {o : Oper} {a : Act} {w : World} {K : Act → World → Prop} {Q : Exit → Act → World → Prop} {E : Prop} (hgd : o.guard = none) (s x : Operand) (t : TypeId)
    (ho : o.op = .call { callee := .builtin .append, args := #[s, x], argTypes := #[t, t] })
    (base : Nat) (e : TypeId) (i : TypeInfo) (z : Value) (size bytes : Nat) (ht : P.underlying t = some (.slice e)) (hi : P.info? e = some i) (hz : i.zero = some z)
    (hsize : i.size = size) (hby : i.bytes = bytes) (hzs : z.cells.size = size) (hsz : 0 < size)
    (v : Value) (n : Nat) (xs : List Value) (hs : a.eval s = v) (hown : w.ownsRow base e size v n xs)
    (ad : Addr) (m c : Nat) (news : List Value) (hx : a.eval x = .slice (some ad) m c) (hl : news.length = m * size) (hnews : ∀ j u, news[j]? = some u → w.cell? (ad.add j) = some u) (h1 : ∀ u ∈ news, u.oneCell' = true)
    (h63 : n + m ≤ maxLen) (hbytes : (n + m) * bytes ≤ 140737488355328) (hbase : base ≤ w.heap.size)
    (h : ∀ v' w', w'.ownsRow base e size v' (n + m) (xs ++ news) → w.grownBy w' v.ownBlock → K (a.put o.dst v') w') :
    if Region.wanted o (yielded ops a.tmps) = true then Oper.wp P o a w K Q else E := by
  rw [if_pos (by simp [Region.wanted, hgd])]
  exact wp_append_own w s x t ho base e i z size bytes ht hi hz hsize hby hzs hsz v n xs hs hown ad m c news hx hl hnews h1 h63 hbytes hbase fun v' w' h2 h3 _ => h v' w' h2 h3
end Go.Proofs.YtefiobfljhmkkaaGreatDoor

/- Slices of numbers that a call has made itself. No conditions. -/
namespace Go.Proofs.YtefiobfljhmkkaaGreatDoor
open Go.RowKit
def nmC (l : List Int) : List Value := l.map (Value.int .u64)
theorem infoU : (Tryz.prog.info? 24).map (fun i => (i.zero, i.size, i.bytes)) = some (some (.int .u64 0), 1, 8) := by kernel_rfl
def OwnN (W : World) (B : Nat) (v : Value) (L : List Int) : Prop := W.ownsRow B 24 1 v L.length (nmC L)
theorem OwnN.below {W W' : World} {B : Nat} {v : Value} {L : List Int} (h : OwnN W B v L) (hb : Below W.heap.size W W') : OwnN W' B v L := own_below h hb
theorem OwnN.nil (W : World) (B : Nat) : OwnN W B (.slice none 0 0) [] := World.ownsRow_nil _ _ _ _
theorem raw_len (U : Int) (l : List Iv) : (rawS U l).length ≤ 1 + 2 * l.length := by
  unfold rawS
  rw [List.length_cons]
  have : (l.flatMap fun y => if y.2 < U then [y.1, y.2 + 1] else [y.1]).length ≤ 2 * l.length := by
    induction l with
    | nil => simp
    | cons y l ih =>
      rw [List.flatMap_cons, List.length_append, List.length_cons]
      have h2 : (if y.2 < U then [y.1, y.2 + 1] else [y.1]).length ≤ 2 := by split <;> simp
      omega
  omega
theorem ins_len (S : List Int) (x : Int) : (insI S x).length ≤ S.length + 1 := by
  unfold insI
  simp only
  split
  · simp
  · split
    · omega
    · rw [List.length_append, List.length_cons, List.length_take, List.length_drop]; omega
theorem fold_len : ∀ (R S : List Int), (R.foldl insI S).length ≤ S.length + R.length
  | [], S => by simp
  | x :: R, S => by have := fold_len R (insI S x); have := ins_len S x; rw [List.foldl_cons, List.length_cons]; omega
theorem starts_len (U : Int) (l : List Iv) : (startsL U l).length ≤ 1 + 2 * l.length := by
  have := fold_len (rawS U l) []; have := raw_len U l; unfold startsL; simp at *; omega
end Go.Proofs.YtefiobfljhmkkaaGreatDoor
