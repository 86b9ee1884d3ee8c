/- Starts of the reference, of one list: the numbers at which something may change, rising, each once. Conditions: the ends are numbers of 64 bits, at most 1048576 intervals. -/
import Derived.Test.YtgcakgegboicjaaGreatDoorKRSearch
import Derived.Test.YtgcakgegboicjaaGreatDoorKOAlg
namespace Go.Proofs.YtgcakgegboicjaaGreatDoor
section
open Go.RowKit
attribute [local go_sem ↓] Go.wp_at_zero Go.wp_at_succ
def IsNums (L:List Int) (w:World) (e:Ending) (w':World):Prop:=∃ v,e = .returned v∧OwnN w' w.heap.size v L∧Below w.heap.size w w'
end
section
open Go.RowKit
def IsOwnR (L:List Iv) (w:World) (e:Ending) (w':World):Prop:=∃ v,e = .returned v∧OwnL w' w.heap.size v L∧Below w.heap.size w w'
end
section
open Go.RowKit
structure OpAt (w:World) (s:Value) (l:List Iv):Prop where
 at':IvsAt w s l
 good:GoodL l
 len:l.length≤20000
theorem OpAt.call {w w':World} {s:Value} {l:List Iv} (h:OpAt w s l) (hb:Below w.heap.size w w'):OpAt w' s l:=⟨h.at'.call hb,h.good,h.len⟩
end
section
open Go.RowKit
theorem orL_len (a b:List Iv):(orL a b).length≤1+2*(a.length+b.length):=by
 have h1:=op_len fOr a b
 have h2:=starts_len UM (a++b)
 rw [List.length_append] at h2
 unfold orL
 omega
theorem subL_len (a b:List Iv):(subL a b).length≤1+2*(a.length+b.length):=by
 have h1:=op_len fSub a b
 have h2:=starts_len UM (a++b)
 rw [List.length_append] at h2
 unfold subL
 omega
end
section
open Go.RowKit
def saneV (v:Value):Prop:=∀ n c,v = .slice none n c→n=0∧c=0
end
end Go.Proofs.YtgcakgegboicjaaGreatDoor
