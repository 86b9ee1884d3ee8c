/- The library's sort by a comparison at this seat. No conditions. Made by tools/gen_rpdq.py. -/
import Derived.Shelf.SlGeneric
import Derived.Shelf.SlSortCmp.WholeK
import Derived.Ground.SlsfProg
import Derived.Shelf.LaysM
import Derived.Shelf.Small.Bits
import Derived.Test.YtcajknjhkabhjaaGreatDoorKROwn
import Derived.Laws.CopyRow
namespace Go.Proofs
open Go.Shelf
def Tryz.lays125_ren : Go.Shelf.Ren := ⟨fun | 125 => 123 | 128 => 177 | 129 => 178 | n => n, fun | 46 => 151 | 3 => 3 | 51 => 194 | 53 => 28 | 4 => 4 | 5 => 5 | 9 => 9 | n => n, fun | n => n⟩
theorem Tryz.lays125 : Go.Proofs.Lays.n125 Tryz.prog Tryz.lays125_ren := {
 mixed := by kernel_rfl
 f125 := Tryz.func123.trans (congrArg some (by kernel_rfl))
 f128 := Tryz.func177.trans (congrArg some (by kernel_rfl))
 f129 := Tryz.func178.trans (congrArg some (by kernel_rfl))
 t3 := Tryz.underlying3
 a3 := Tryz.isAgg3
 z3 := Tryz.sizeOf3
 v3 := Tryz.zeroValue3
 t4 := Tryz.underlying4
 a4 := Tryz.isAgg4
 z4 := Tryz.sizeOf4
 v4 := Tryz.zeroValue4
 t5 := Tryz.underlying5
 a5 := Tryz.isAgg5
 z5 := Tryz.sizeOf5
 v5 := Tryz.zeroValue5
 t9 := Tryz.underlying9
 a9 := Tryz.isAgg9
 z9 := Tryz.sizeOf9
 v9 := Tryz.zeroValue9
 t46 := Tryz.underlying151
 a46 := Tryz.isAgg151
 z46 := Tryz.sizeOf151
 v46 := Tryz.zeroValue151
 t51 := Tryz.underlying194
 a51 := Tryz.isAgg194
 z51 := Tryz.sizeOf194
 v51 := Tryz.zeroValue194
 t53 := Tryz.underlying28
 a53 := Tryz.isAgg28
 z53 := Tryz.sizeOf28
 v53 := Tryz.zeroValue28 }
theorem Tryz.bits_Len (x : Int) (w : World) (h0 : 0 ≤ x) (h1 : x ≤ 18446744073709551615) :
 Calls Tryz.prog 123 #[.int .u64 x] w fun e w' => e = .returned (.int .i64 (Lib.bitLen x.toNat)) ∧ w' = w := Any.bits_Len Tryz.lays125 x w h0 h1
def Tryz.pdqIv_ren : Go.Shelf.Ren := ⟨fun | 14 => 222 | 20 => 260 | 21 => 261 | 22 => 262 | 23 => 263 | 24 => 264 | 25 => 265 | 26 => 266 | 27 => 267 | 46 => 283 | 47 => 256 | 48 => 257 | 49 => 284 | 50 => 285 | 15 => 123 | 57 => 293 | 28 => 177 | 29 => 178 | n => n, fun | 24 => 35 | 22 => 31 | 3 => 3 | 25 => 166 | 4 => 4 | 0 => 0 | 46 => 228 | 45 => 227 | 50 => 202 | 66 => 268 | 39 => 151 | 55 => 28 | 70 => 242 | 76 => 298 | 77 => 55 | 53 => 194 | 5 => 5 | 9 => 9 | n => n, fun | n => n⟩
theorem Tryz.pdqIv : Go.Proofs.SlLaysF0.n14 Tryz.prog Tryz.pdqIv_ren := {
 mixed := by kernel_rfl
 f14 := ⟨Tryz.f222.name, by decide, Tryz.func222.trans (congrArg some (by kernel_rfl))⟩
 f15 := Tryz.func123.trans (congrArg some (by kernel_rfl))
 f20 := ⟨Tryz.f260.name, by decide, Tryz.func260.trans (congrArg some (by kernel_rfl))⟩
 f21 := ⟨Tryz.f261.name, by decide, Tryz.func261.trans (congrArg some (by kernel_rfl))⟩
 f22 := ⟨Tryz.f262.name, by decide, Tryz.func262.trans (congrArg some (by kernel_rfl))⟩
 f23 := ⟨Tryz.f263.name, by decide, Tryz.func263.trans (congrArg some (by kernel_rfl))⟩
 f24 := ⟨Tryz.f264.name, by decide, Tryz.func264.trans (congrArg some (by kernel_rfl))⟩
 f25 := ⟨Tryz.f265.name, by decide, Tryz.func265.trans (congrArg some (by kernel_rfl))⟩
 f26 := ⟨Tryz.f266.name, by decide, Tryz.func266.trans (congrArg some (by kernel_rfl))⟩
 f27 := ⟨Tryz.f267.name, by decide, Tryz.func267.trans (congrArg some (by kernel_rfl))⟩
 f28 := Tryz.func177.trans (congrArg some (by kernel_rfl))
 f29 := Tryz.func178.trans (congrArg some (by kernel_rfl))
 f46 := ⟨Tryz.f283.name, by decide, Tryz.func283.trans (congrArg some (by kernel_rfl))⟩
 f47 := Tryz.func256.trans (congrArg some (by kernel_rfl))
 f48 := Tryz.func257.trans (congrArg some (by kernel_rfl))
 f49 := ⟨Tryz.f284.name, by decide, Tryz.func284.trans (congrArg some (by kernel_rfl))⟩
 f50 := ⟨Tryz.f285.name, by decide, Tryz.func285.trans (congrArg some (by kernel_rfl))⟩
 f57 := ⟨Tryz.f293.name, by decide, Tryz.func293.trans (congrArg some (by kernel_rfl))⟩
 t0 := Tryz.underlying0
 a0 := Tryz.isAgg0
 z0 := Tryz.sizeOf0
 v0 := Tryz.zeroValue0
 t3 := Tryz.underlying3
 a3 := Tryz.isAgg3
 z3 := Tryz.sizeOf3
 v3 := Tryz.zeroValue3
 t4 := Tryz.underlying4
 a4 := Tryz.isAgg4
 z4 := Tryz.sizeOf4
 v4 := Tryz.zeroValue4
 t5 := Tryz.underlying5
 a5 := Tryz.isAgg5
 z5 := Tryz.sizeOf5
 v5 := Tryz.zeroValue5
 t9 := Tryz.underlying9
 a9 := Tryz.isAgg9
 z9 := Tryz.sizeOf9
 v9 := Tryz.zeroValue9
 t22 := Tryz.underlying31
 a22 := Tryz.isAgg31
 z22 := Tryz.sizeOf31
 v22 := Tryz.zeroValue31
 t25 := Tryz.underlying166
 a25 := Tryz.isAgg166
 z25 := Tryz.sizeOf166
 v25 := Tryz.zeroValue166
 t39 := Tryz.underlying151
 a39 := Tryz.isAgg151
 z39 := Tryz.sizeOf151
 v39 := Tryz.zeroValue151
 t45 := Tryz.underlying227
 a45 := Tryz.isAgg227
 z45 := Tryz.sizeOf227
 v45 := Tryz.zeroValue227
 t46 := Tryz.underlying228
 a46 := Tryz.isAgg228
 z46 := Tryz.sizeOf228
 v46 := Tryz.zeroValue228
 t50 := Tryz.underlying202
 a50 := Tryz.isAgg202
 z50 := Tryz.sizeOf202
 v50 := Tryz.zeroValue202
 t53 := Tryz.underlying194
 a53 := Tryz.isAgg194
 z53 := Tryz.sizeOf194
 v53 := Tryz.zeroValue194
 t55 := Tryz.underlying28
 a55 := Tryz.isAgg28
 z55 := Tryz.sizeOf28
 v55 := Tryz.zeroValue28
 t66 := Tryz.underlying268
 a66 := Tryz.isAgg268
 z66 := Tryz.sizeOf268
 v66 := Tryz.zeroValue268
 t70 := Tryz.underlying242
 a70 := Tryz.isAgg242
 z70 := Tryz.sizeOf242
 v70 := Tryz.zeroValue242
 t76 := Tryz.underlying298
 a76 := Tryz.isAgg298
 z76 := Tryz.sizeOf298
 v76 := Tryz.zeroValue298
 t77 := Tryz.underlying55
 a77 := Tryz.isAgg55
 z77 := Tryz.sizeOf55
 v77 := Tryz.zeroValue55 }
end Go.Proofs
namespace Go.Proofs.YtcajknjhkabhjaaGreatDoor
open Go.RowKit Go.Shelf Go.Lib
open Go.Sort hiding Below
def cmpI (a b : Int) : Int := if a < b then -1 else if b < a then 1 else 0
theorem nan_any (x : Int) (w : World) : Calls Tryz.prog 207 #[.int .u64 x] w fun e w' => e = .returned (.bool false) ∧ w' = w := by
 go_enter Tryz.func207, Tryz.ntmps207
 go_wp2_with fail
 go_ret
 exact ⟨by simp, rfl⟩
theorem cmp_any (a b : Int) (w : World) : Calls Tryz.prog 143 #[.int .u64 a, .int .u64 b] w fun e w' => e = .returned (.int .i64 (cmpI a b)) ∧ w' = w := by
 have K := Lib.hid nan_any
 have hlt : a < b ∨ ¬ a < b := Decidable.em _
 rcases hlt with h | h
 ·have HC := Lib.hid (show cmpI a b = -1 by unfold cmpI; rw [if_pos h])
  go_enter Tryz.func143, Tryz.ntmps143
  go_wp2_with fail
  refine (K.out a w).mono ?_
  rintro e w' ⟨rfl, rfl⟩
  go_wp2_with fail
  refine (K.out b w').mono ?_
  rintro e w' ⟨rfl, rfl⟩
  go_wp2_with fail
  go_ret
  exact ⟨by rw [HC.out]; rfl, rfl⟩
 ·by_cases h2 : b < a
  ·have HC := Lib.hid (show cmpI a b = 1 by unfold cmpI; rw [if_neg h, if_pos h2])
   go_enter Tryz.func143, Tryz.ntmps143
   go_wp2_with fail
   refine (K.out a w).mono ?_
   rintro e w' ⟨rfl, rfl⟩
   go_wp2_with fail
   refine (K.out b w').mono ?_
   rintro e w' ⟨rfl, rfl⟩
   go_wp2_with fail
   go_ret
   exact ⟨by rw [HC.out]; rfl, rfl⟩
  ·have HC := Lib.hid (show cmpI a b = 0 by unfold cmpI; rw [if_neg h, if_neg h2])
   go_enter Tryz.func143, Tryz.ntmps143
   go_wp2_with fail
   refine (K.out a w).mono ?_
   rintro e w' ⟨rfl, rfl⟩
   go_wp2_with fail
   refine (K.out b w').mono ?_
   rintro e w' ⟨rfl, rfl⟩
   go_wp2_with fail
   go_ret
   exact ⟨by rw [HC.out]; rfl, rfl⟩
def encI (x : Iv) : List Value := [.int .u64 x.1, .int .u64 x.2]
def cmpIv (x y : Iv) : Int := cmpI x.1 y.1
theorem closure_any (x y : Iv) (W : World) : Calls Tryz.prog 155 #[.agg (encI x).toArray, .agg (encI y).toArray] W fun e w' => e = .returned (.int .i64 (cmpIv x y)) ∧ ∃ q os', w' = grow (W.drewN q) os' := by
 have hcon := Lib.hid (fun W' => cmp_any x.1 y.1 W')
 unfold cmpIv
 unfold encI
 generalize cmpI x.1 y.1 = r at hcon ⊢
 obtain ⟨x1, x2⟩ := x
 obtain ⟨y1, y2⟩ := y
 dsimp only at hcon ⊢
 go_enter Tryz.func155, Tryz.ntmps155
 go_wp2_with fail
 refine (hcon.out _).mono ?_
 rintro e w' ⟨rfl, rfl⟩
 go_wp2_with fail
 go_ret
 exact ⟨rfl, 0, _, by rw [alloc_eq_grow, alloc_eq_grow, grow_grow]; rfl⟩
theorem lt_iv (x y : Iv) : ltOf cmpIv x y = decide (x.1 < y.1) := by
 unfold ltOf cmpIv cmpI
 by_cases h1 : x.1 < y.1
 ·simp [h1]
 ·by_cases h2 : y.1 < x.1 <;> simp [h1, h2]
theorem swo_iv : Sort.SWO (ltOf cmpIv) where
 irrefl x := by rw [lt_iv]; simp
 trans x y z h1 h2 := by rw [lt_iv] at *; simp at *; omega
 ntrans x y z h1 h2 := by rw [lt_iv] at *; simp at *; omega
theorem below_sorted (B : Nat) (w : World) (blk m : Nat) (dk : Array Iv) (os : Array Obj) (hB : B ≤ blk) (hblk : blk < w.heap.size) : Below B w (sortWorldK encI 2 w blk 0 m dk os) := by
 have h1 : Below B w (Sort.putRow id (Sort.ahead w m) blk 0 (flatK encI 2 dk)) :=
  ⟨rfl, rfl, rfl, by simp [Sort.putRow, Sort.mapBlock, Sort.ahead], fun k hk => by
   simp [Sort.putRow, Sort.mapBlock, Sort.ahead, Array.getElem?_modify, show blk ≠ k by omega]⟩
 refine ⟨rfl, rfl, rfl, Nat.le_trans h1.size ?_, fun k hk => ?_⟩
 ·show _ ≤ ((Sort.putRow id (Sort.ahead w m) blk 0 (flatK encI 2 dk)).heap ++ os).size
  rw [Array.size_append]; omega
 ·show ((Sort.putRow id (Sort.ahead w m) blk 0 (flatK encI 2 dk)).heap ++ os)[k]? = _
  rw [Array.getElem?_append_left (by have := h1.size; omega)]
  exact h1.block k hk
theorem flat_at (d : Array Iv) (i : Nat) (hi : i < d.size) : (flatK encI 2 d)[i * 2]! = .int .u64 (d[i]!).1 ∧ (flatK encI 2 d)[i * 2 + 1]! = .int .u64 (d[i]!).2 := by
 rw [get_flatK _ _ _ _ (by omega), get_flatK _ _ _ _ (by omega), show i * 2 / 2 = i by omega, show i * 2 % 2 = 0 by omega, show (i * 2 + 1) / 2 = i by omega, show (i * 2 + 1) % 2 = 1 by omega]
 exact ⟨rfl, rfl⟩
theorem holds_of_own {w : World} {B g n cap : Nat} {L : List Iv} (h : OwnL w B (.slice (some ⟨g, 0, none⟩) n cap) L) (hn : n = L.length) : HoldsK encI 2 w g 0 L.toArray := by
 subst hn
 intro j hj
 rw [size_flatK] at hj
 have hj2 : j < L.length * 2 := by simpa using hj
 rw [Nat.zero_add]
 unfold OwnL at h
 refine ⟨?_, h.frozenAt j⟩
 rw [h.cellAt j hj2]
 have hx : j / 2 < L.length := by omega
 have hf := flat_two L (j / 2) L[j / 2] (by simp [hx])
 have hg := flat_at L.toArray (j / 2) (by simpa using hx)
 have e : L.toArray[j / 2]! = L[j / 2] := by simp [hx]
 rw [e] at hg
 rcases Nat.mod_two_eq_zero_or_one j with h0 | h0
 ·have ej : j / 2 * 2 = j := by omega
  rw [ej] at hf hg
  rw [hg.1]; exact hf.1
 ·have ej : j / 2 * 2 + 1 = j := by omega
  rw [ej] at hf hg
  rw [hg.2]; exact hf.2
theorem ivs_of_holds {w : World} {blk cap n : Nat} {d : Array Iv} (h : HoldsK encI 2 w blk 0 d) (hn : n = d.size) (hl : d.size ≤ 1048576) : IvsAt w (.slice (some ⟨blk, 0, none⟩) n cap) d.toList := by
 subst hn
 refine ⟨_, cap, by simp, by simpa using hl, fun _ => ⟨blk, 0, rfl, fun i x hi => ?_⟩⟩
 have hlt : i < d.size := by simpa using (List.getElem?_eq_some_iff.1 hi).1
 have ex : d[i]! = x := by
  have := (List.getElem?_eq_some_iff.1 hi).2
  rw [getElem!_pos d i hlt]; simpa using this
 have hf := flat_at d i hlt
 rw [ex] at hf
 have h0 := (h (i * 2) (by rw [size_flatK]; omega)).1
 have h1 := (h (i * 2 + 1) (by rw [size_flatK]; omega)).1
 rw [hf.1] at h0
 rw [hf.2] at h1
 exact ⟨by simpa using h0, by simpa [Nat.add_assoc] using h1⟩
def IsSorted (L : List Iv) (g cap : Nat) (w : World) (e : Ending) (w' : World) : Prop :=
 e = .returned (.tuple #[]) ∧ ∃ d : List Iv, d.Perm L ∧ sortedL d ∧ IvsAt w' (.slice (some ⟨g, 0, none⟩) L.length cap) d ∧ Below g w w'
set_option maxRecDepth 100000 in
set_option maxHeartbeats 2000000 in
theorem sort_any (L : List Iv) (B g cap : Nat) (w : World) (hown : OwnL w B (.slice (some ⟨g, 0, none⟩) L.length cap) L) (hlen : L.length ≤ 1048576) :
 Calls Tryz.prog 154 #[.slice (some ⟨g, 0, none⟩) L.length cap, .func (.func 155) #[] #[]] w (IsSorted L g cap w) := by
 have hblk : g < w.heap.size := (hown.lt g rfl).2
 have hH := holds_of_own hown rfl
 have eg : ∀ args w, (callFunc 155 args).run Tryz.prog w = .ok (.enter 155 args) w := enters_of Tryz.func155 (by kernel_rfl) rfl
 have hsz : L.toArray.size = L.length := by simp
 have hlim : Lib.bitLen L.length < 4611686018427387904 := Nat.lt_of_le_of_lt (Lib.bitLen_le L.length 62 (by omega) (by omega)) (by omega)
 have hp := AnyQ.pdqsortCmpFunc_all Tryz.pdqIv 2 Tryz.isAgg35 Tryz.sizeOf35 encI cmpIv 155 #[] swo_iv g 0 cap L.toArray w eg
  (fun m os dk _ x y => closure_any x y _) ⟨fun _ => rfl, fun x v hv => by simp [encI] at hv; rcases hv with rfl | rfl <;> rfl, hH, hblk⟩ (L.length + 1) 0 L.length (Lib.bitLen L.length) L.toArray w (by omega) rfl (SWK.start hH) (Nat.zero_le _) (by rw [hsz]; exact Nat.le_refl _) (by rw [hsz]; omega) hlim (Or.inl rfl)
 change Calls Tryz.prog 222 _ _ _ at hp
 rw [hsz] at hp
 have hsorts := Sort.pdq_sorts (ltOf cmpIv) swo_iv L.toArray 0 L.length (Lib.bitLen L.length) true true (Nat.zero_le _) (by rw [hsz]; exact Nat.le_refl _) (Or.inl rfl)
 have hl : Calls Tryz.prog 123 #[.int .u64 (L.length : Int)] w fun e w' => e = .returned (.int .i64 (Lib.bitLen L.length : Nat)) ∧ w' = w := by
  have h := Tryz.bits_Len (L.length : Int) w (by omega) (by omega)
  rwa [Int.toNat_natCast] at h
 have HS := Lib.hid hsorts; clear hsorts
 generalize Sort.pdq (ltOf cmpIv) L.toArray 0 L.length (Lib.bitLen L.length) true true = d' at *
 generalize Lib.bitLen L.length = bl at *
 have HP := Lib.hid hp; clear hp
 have HL := Lib.hid hl; clear hl
 have wr : IntKind.u64.wrap (L.length : Int) = L.length := by simp [IntKind.wrap, IntKind.bits, IntKind.signed]; omega
 have HH := Lib.hid hH; clear hH
 clear hown eg
 go_enter Tryz.func154, Tryz.ntmps154
 go_wp2_with fail
 refine HL.out.mono ?_
 rintro e w' ⟨rfl, rfl⟩
 go_wp2_with fail
 refine HP.out.mono ?_
 rintro e w2 ⟨rfl, n, os, rfl⟩
 go_wp2_with fail
 go_end0
 obtain ⟨⟨p1, p2, p3⟩, s1⟩ := HS.out
 refine ⟨rfl, d'.toList, ?_, ?_, ?_, below_sorted g w' g n d' os (Nat.le_refl _) hblk⟩
 ·have e1 : d'.extract 0 L.length = d' := by rw [show L.length = d'.size by rw [p1, hsz]]; simp
  have e2 : L.toArray.extract 0 L.length = L.toArray := by rw [show L.length = L.toArray.size by rw [hsz]]; simp
  rw [e1, e2] at p3
  simpa using p3
 ·refine List.pairwise_iff_getElem.2 fun i j hi hj hij => ?_
  have hj' : j < d'.size := by simpa using hj
  have := s1 i j (Nat.zero_le _) hij (by rw [p1, hsz] at hj'; exact hj')
  rw [lt_iv, getElem!_pos d' i (by omega), getElem!_pos d' j hj'] at this
  simp only [Array.getElem_toList]
  simp at this
  omega
 ·exact ivs_of_holds (holdsK_sortWorldK_c encI 2 w' g 0 L.toArray d' n os HH.out hblk p1) (by rw [p1, hsz]) (by rw [p1, hsz]; exact hlen)
end Go.Proofs.YtcajknjhkabhjaaGreatDoor
namespace Go.Proofs.YtcajknjhkabhjaaGreatDoor
open Go.RowKit
theorem run_copy2 {P : Program} (w : World) (dT sT ty elem : TypeId) (g dLen dCap : Nat) (a : Addr) (sLen sCap : Nat) (cur : Array Value) (t : TypeId) (cs : List Value)
 (hu : P.underlying dT = some (.slice elem)) (hs : (P.info? elem).map (·.size) = some 2)
 (hg : w.heap[g]? = some (.cells cur t (0, 0))) (hn : cs.length = Nat.min sLen dLen * 2)
 (hsrc : ∀ j v, cs[j]? = some v → w.cell? (a.add j) = some v) (hfit : cs.length ≤ cur.size) (h1 : ∀ v ∈ cs, v.oneCell' = true) :
 (Builtin.copy_ #[dT, sT] ty #[.slice (some ⟨g, 0, none⟩) dLen dCap, .slice (some a) sLen sCap]).run P w =
   .ok (goInt (Nat.min sLen dLen)) (w.setRow g (cs ++ cur.toList.drop cs.length).toArray) := by
 have hl := run_loadCells_list (P := P) w a cs hsrc
 have hst := run_storeCells_at P g 0 t cs 0 cur w hg (by simpa using hfit) h1
 simp only [Nat.add_zero, Nat.zero_add, List.take_zero, List.nil_append] at hst
 cases hq : P.info? elem with
 | none => simp [hq] at hs
 | some i =>
   have hi : i.size = 2 := by simpa [hq] using hs
   simp [Builtin.copy_, run_underlying hu, Builtin.lenOf, Builtin.firstCells, sizeOf, typeInfo, hq, hi, ← hn, hl, hst]
theorem run_copy2_none {P : Program} (w : World) (dT sT ty elem : TypeId) (d : Option Addr) (p : Option Addr) (dCap sCap : Nat) (hu : P.underlying dT = some (.slice elem)) (hs : (P.info? elem).map (·.size) = some 2) :
 (Builtin.copy_ #[dT, sT] ty #[.slice d 0 dCap, .slice p 0 sCap]).run P w = .ok (goInt 0) w := by
 cases hq : P.info? elem with
 | none => simp [hq] at hs
 | some i => cases p <;> cases d <;> simp [Builtin.copy_, run_underlying hu, Builtin.lenOf, Builtin.firstCells, sizeOf, typeInfo, hq, storeCells, loadCells, loadCellsFrom]
theorem info2 : (Tryz.prog.info? 35).map (·.size) = some 2 := by kernel_rfl
theorem copy_run (l : List Iv) (xs : List Value) (p : Option Addr) (cap : Nat) (B g : Nat) (w : World) (hl : IvsAt w (.slice p l.length cap) l) (hown : w.ownsRow B 35 2 (.slice (some ⟨g, 0, none⟩) l.length l.length) l.length xs) :
 ∃ w2, (Builtin.copy_ #[32, 32] 3 #[.slice (some ⟨g, 0, none⟩) l.length l.length, .slice p l.length cap]).run Tryz.prog w = .ok (.int .i64 l.length) w2 ∧
  OwnL w2 B (.slice (some ⟨g, 0, none⟩) l.length l.length) l ∧ w.grownBy w2 (some g) := by
 by_cases h0 : l = []
 ·subst h0
  obtain rfl : xs = [] := List.eq_nil_of_length_eq_zero hown.1
  exact ⟨w, run_copy2_none w _ _ _ _ _ _ _ _ Tryz.underlying32 info2, hown, grown_of_below (Below.refl _ _) _⟩
 ·obtain ⟨x, hx⟩ : ∃ x, l[0]? = some x := by
   cases l with
   | nil => exact absurd rfl h0
   | cons a r => exact ⟨a, rfl⟩
  obtain ⟨b, o, cap', e, _⟩ := hl.elem hx
  cases e
  rcases hown.2 with ⟨h, _⟩ | ⟨g', cap', cur, h, hb, hg, hnc, hcm, hcs, htake⟩
  ·cases h
  ·cases h
   have hlen := ivC_len l
   have hmm : Nat.min l.length l.length = l.length := Nat.min_self _
   have hr := run_copy2 (P := Tryz.prog) w 32 32 3 35 g l.length l.length ⟨b, o, none⟩ l.length cap cur 35 (ivC l) Tryz.underlying32 info2 hg (by rw [hlen, hmm]) (ivs_cells hl) (by omega) (ivC_one l)
   have hdrop : cur.toList.drop (ivC l).length = [] := List.drop_of_length_le (by rw [Array.length_toList]; omega)
   rw [hdrop, List.append_nil, hmm] at hr
   refine ⟨_, hr, ⟨hlen, .inr ⟨g, l.length, (ivC l).toArray, rfl, hb, setRow_heap w g cur _ _ _ hg, Nat.le_refl _, hcm, by simpa using hlen, by simp [← hlen]⟩⟩, ⟨rfl, rfl, rfl, by simp, fun k _ hk => setRow_other w g k _ (fun e => hk (by simp [e]))⟩⟩
def IsList (L : List Iv) (w : World) (e : Ending) (w' : World) : Prop := ∃ v, e = .returned (.tuple #[v, .nilIface]) ∧ OwnL w' w.heap.size v L ∧ Below w.heap.size w w'
theorem below_grown_new {W W1 : World} {B g : Nat} {w : World} (hB : Below B w W) (hs : B ≤ W.heap.size) (hg : W.grownBy W1 (some g)) (hBg : B ≤ g) : Below B w W1 :=
 hB.grown hg hs (fun k e => by cases e; exact hBg)
theorem nil_grown {W W1 : World} (hg : W.grownBy W1 none) : Below W.heap.size W W1 := (Below.refl _ _).grown hg (Nat.le_refl _) (fun k e => by cases e)
set_option maxRecDepth 100000 in
set_option maxHeartbeats 4000000 in
theorem normal_ok (l : List Iv) (s : Value) (w : World) (hl : IvsAt w s l) (h64 : All64 l) (ho : ∀ y ∈ l, y.1 ≤ y.2) :
 Calls Tryz.prog 105 #[s] w (IsList (normL l) w) := by
 obtain ⟨i0, hi', hz0, hz1, hz2⟩ := info_parts infoIv
 obtain ⟨p, cap, rfl, hlen⟩ := hl.shape
 have I := Lib.hid hl; clear hl
 have K1 := Lib.hid one_ok
 have KS := Lib.hid sort_any
 have KM := Lib.hid merge_any
 have HO := Lib.hid ho; clear ho
 have H64 := Lib.hid h64; clear h64
 go_enter Tryz.func105, Tryz.ntmps105
 go_wp2_with fail
 go_loopw [9] (fun i wr => ∃ k : Nat, k ≤ l.length ∧ i = .int .i64 k ∧ Below w.heap.size w wr) (fun i _ => l.length - (intOf i).toNat)
 case atStart => exact ⟨0, Nat.zero_le _, rfl, Below.refl _ _⟩
 case round =>
  obtain ⟨k, hk, rfl, hb⟩ := hrel
  have HB := Lib.hid hb; clear hb
  by_cases hlt : k < l.length
  ·obtain ⟨x, hx⟩ : ∃ x, l[k]? = some x := ⟨l[k], by simp [hlt]⟩
   have KX := Lib.hid (K1.out l _ k x wr (I.out.call HB.out) hx (HO.out x (List.mem_of_getElem? hx)))
   clear hx
   go_wp2_with fail
   refine KX.out.mono ?_
   rintro e w1 ⟨rfl, h1⟩
   have H1 := Lib.hid (below_call HB.out h1); clear h1
   go_wp2_with fail
   go_roundw
   case rel => exact ⟨k + 1, by omega, by go_num, H1.out⟩
   case measure => simp [intOf]; omega
  ·obtain rfl : k = l.length := by omega
   obtain ⟨w2, hmk, hown2, hg2⟩ := run_make_full (P := Tryz.prog) wr w.heap.size 32 35 i0 (.agg #[.int .u64 0, .int .u64 0]) 2 Tryz.underlying32 hi' hz0 hz1 .i64 .i64 l.length (by rw [hz2]; omega) (by unfold maxLen; omega) HB.out.size
   have hb2 := nil_grown hg2
   have hBB := below_call HB.out hb2
   obtain ⟨w3, hcp, hown3, hg3⟩ := copy_run l _ p cap w.heap.size wr.heap.size w2 (I.out.call hBB) hown2
   have H3 := Lib.hid (below_grown_new hBB hBB.size hg3 HB.out.size)
   have HO3 := Lib.hid hown3
   have HSZ := Lib.hid HB.out.size
   have KX := Lib.hid (KS.out l w.heap.size wr.heap.size l.length w3 hown3 hlen)
   clear hown2 hg2 hb2 hBB hown3 hg3
   go_wp2_with fail
   refine KX.out.mono ?_
   rintro e w4 ⟨rfl, d, hperm, hsort, hiv, hb4⟩
   have H4 := Lib.hid (H3.out.trans (hb4.mono HSZ.out)); clear hb4
   have KY := Lib.hid (KM.out d _ w4 hiv (fun x hx => H64.out x (hperm.mem_iff.1 hx)) hsort (fun x hx => HO.out x (hperm.mem_iff.1 hx)))
   have HN := Lib.hid (merge_norm hperm hsort HO.out)
   clear hperm hsort hiv
   go_wp2_with fail
   refine KY.out.mono ?_
   rintro e w5 ⟨v, rfl, hv, hb5⟩
   have H5 := Lib.hid (below_call H4.out hb5); clear hb5
   have HV := Lib.hid hv
   obtain ⟨pv, cv, rfl, _⟩ := own_shape hv
   clear hv
   go_wp2_with fail
   go_ret2
   exact ⟨_, rfl, by rw [← HN.out]; exact own_base HV.out H4.out.size, H5.out⟩
end Go.Proofs.YtcajknjhkabhjaaGreatDoor
