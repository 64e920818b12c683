/-
  How two literals are compared.
  Functions of the library stand in this program as the shelf of contracts knows them: SortFunc, Compact, IndexFunc, Delete. No conditions.
  Clone, and what sorting leaves.
  Sort.
  Sort, walked.
-/
import Derived.Test.YtahedhpffjgimaaDoorProg
import Derived.WalkKit
import Derived.WalkSpells
import Derived.WalkLawsBesides
import Derived.Lib.Hide
import Derived.BigQuiet
import Derived.Deep.QuietTactic
import Derived.Deep.RegionWith
import Derived.Deep.RegionHeld3
import Derived.Test.YtahedhpffjgimaaDoorQ10
import Derived.Ground.Names2Prog
import Derived.Shelf.Slices.CompactI
import Derived.Ground.SlgnProg
import Derived.Shelf.SlicesE.Delete
import Derived.Ground.SlgfProg
import Derived.Shelf.SlicesE.IndexFunc
import Derived.Ground.SlsfProg
import Derived.Shelf.SlSortCmp.NoneTotal
import Derived.Lib.OwnBridge
import Derived.Sort.OwnSortedInts
import Derived.Lib.SliceRun
import Derived.Lib.RowBridge
set_option linter.unusedVariables false
/- How two literals are compared. -/
namespace Go.Proofs.YtahedhpffjgimaaDoor
open Go.RowKit
/-- A literal's variable, of any number. -/
def varF (x : Int) : Int := if x < 0 then IntKind.u64.wrap (-IntKind.u64.wrap x) else IntKind.u64.wrap x
set_option maxHeartbeats 400000 in
theorem variable_all (x : Int) (w : World) : Calls Tryd.prog 76 #[.int .i64 x] w (RetS w (.int .u64 (varF x))) := by
  by_cases h : x < 0
  · have d : decide (x < 0) = true := decide_eq_true h
    rw [show varF x = IntKind.u64.wrap (-IntKind.u64.wrap x) from if_pos h]
    go_enter Tryd.func76, Tryd.ntmps76
    go_wp2
    go_ret
    exact ⟨rfl, rfl⟩
  · have d : decide (x < 0) = false := decide_eq_false h
    rw [show varF x = IntKind.u64.wrap x from if_neg h]
    go_enter Tryd.func76, Tryd.ntmps76
    go_wp2
    go_ret
    exact ⟨rfl, rfl⟩
def cmpI (x y : Int) : Int := if x < y then -1 else if y < x then 1 else 0
set_option maxHeartbeats 400000 in
theorem cmpU_any (x y : Int) (w : World) : Calls Tryd.prog 75 #[.int .u64 x, .int .u64 y] w (RetS w (.int .i64 (cmpI x y))) := by
  have d0 : (x != x) = false := by simp
  have d0' : (y != y) = false := by simp
  by_cases h : x < y
  · have d : decide (x < y) = true := decide_eq_true h
    rw [show cmpI x y = -1 from if_pos h]
    go_enter Tryd.func75, Tryd.ntmps75
    go_wp2
    go_ret
    exact ⟨rfl, rfl⟩
  · have d : decide (x < y) = false := decide_eq_false h
    by_cases h2 : y < x
    · have d2 : decide (y < x) = true := decide_eq_true h2
      have d3 : decide (x > y) = true := decide_eq_true h2
      rw [show cmpI x y = 1 by unfold cmpI; rw [if_neg h, if_pos h2]]
      go_enter Tryd.func75, Tryd.ntmps75
      go_wp2
      go_ret
      exact ⟨rfl, rfl⟩
    · have d2 : decide (y < x) = false := decide_eq_false h2
      have d3 : decide (x > y) = false := decide_eq_false h2
      rw [show cmpI x y = 0 by unfold cmpI; rw [if_neg h, if_neg h2]]
      go_enter Tryd.func75, Tryd.ntmps75
      go_wp2
      go_ret
      exact ⟨rfl, rfl⟩
set_option maxHeartbeats 400000 in
theorem cmpI_any (x y : Int) (w : World) : Calls Tryd.prog 77 #[.int .i64 x, .int .i64 y] w (RetS w (.int .i64 (cmpI x y))) := by
  have d0 : (x != x) = false := by simp
  have d0' : (y != y) = false := by simp
  by_cases h : x < y
  · have d : decide (x < y) = true := decide_eq_true h
    rw [show cmpI x y = -1 from if_pos h]
    go_enter Tryd.func77, Tryd.ntmps77
    go_wp2
    go_ret
    exact ⟨rfl, rfl⟩
  · have d : decide (x < y) = false := decide_eq_false h
    by_cases h2 : y < x
    · have d2 : decide (y < x) = true := decide_eq_true h2
      have d3 : decide (x > y) = true := decide_eq_true h2
      rw [show cmpI x y = 1 by unfold cmpI; rw [if_neg h, if_pos h2]]
      go_enter Tryd.func77, Tryd.ntmps77
      go_wp2
      go_ret
      exact ⟨rfl, rfl⟩
    · have d2 : decide (y < x) = false := decide_eq_false h2
      have d3 : decide (x > y) = false := decide_eq_false h2
      rw [show cmpI x y = 0 by unfold cmpI; rw [if_neg h, if_neg h2]]
      go_enter Tryd.func77, Tryd.ntmps77
      go_wp2
      go_ret
      exact ⟨rfl, rfl⟩
def orI (a b : Int) : Int := if a = 0 then b else a
set_option maxHeartbeats 1000000 in
theorem or_any (g : Nat) (a b : Int) (w : World) (h0 : w.cell? ⟨g, 0, none⟩ = some (.int .i64 a)) (h1 : w.cell? ⟨g, 1, none⟩ = some (.int .i64 b)) : Calls Tryd.prog 74 #[.slice (some ⟨g, 0, none⟩) 2 2] w (RetS w (.int .i64 (orI a b))) := by
  unfold orI
  by_cases ha : a = 0
  · subst ha
    rw [if_pos rfl]
    by_cases hb : b = 0
    · subst hb
      go_enter Tryd.func74, Tryd.ntmps74
      go_wp2
      refine wp_loop_rounds 4 ?_
      rw [rounds_succ]; go_wp2
      rw [rounds_succ]; go_wp2
      rw [rounds_succ]; go_wp2
      go_ret
      exact ⟨rfl, rfl⟩
    · have d2 : (b != 0) = true := by simp [hb]
      go_enter Tryd.func74, Tryd.ntmps74
      go_wp2
      refine wp_loop_rounds 4 ?_
      rw [rounds_succ]; go_wp2
      rw [rounds_succ]; go_wp2
      go_ret
      exact ⟨rfl, rfl⟩
  · rw [if_neg ha]
    have d2 : (a != 0) = true := by simp [ha]
    go_enter Tryd.func74, Tryd.ntmps74
    go_wp2
    refine wp_loop_rounds 4 ?_
    rw [rounds_succ]; go_wp2
    go_ret
    exact ⟨rfl, rfl⟩
/-- How two literals are compared. -/
def cfL (x y : Int) : Int := orI (cmpI (varF x) (varF y)) (cmpI x y)
set_option maxHeartbeats 1000000 in
theorem closure_any (x y : Int) (w : World) : Calls Tryd.prog 73 #[.int .i64 x, .int .i64 y] w (fun e w' => e = .returned (.int .i64 (cfL x y)) ∧ w' = w.alloc (.cells #[.int .i64 (cmpI (varF x) (varF y)), .int .i64 (cmpI x y)] 3)) := by
  unfold cfL
  have C1 := variable_all x w
  have C2 := variable_all y w
  have C3 := cmpU_any (varF x) (varF y) w
  have C4 := cmpI_any x y w
  obtain ⟨q0, q1⟩ := box_cells w (.int .i64 (cmpI (varF x) (varF y))) (.int .i64 (cmpI x y)) 3
  have C5 := or_any w.heap.size _ _ _ q0 q1
  clear q0 q1
  generalize varF x = vx at *
  generalize varF y = vy at *
  generalize cmpI vx vy = a at *
  generalize cmpI x y = b at *
  generalize orI a b = r at *
  go_enter Tryd.func73, Tryd.ntmps73
  go_wp2_with fail
  refine C1.mono ?_; rintro e w1 ⟨rfl, rfl⟩
  go_wp2_with fail
  refine C2.mono ?_; rintro e w1 ⟨rfl, rfl⟩
  go_wp2_with fail
  refine C3.mono ?_; rintro e w1 ⟨rfl, rfl⟩
  go_wp2_with fail
  refine C4.mono ?_; rintro e w1 ⟨rfl, rfl⟩
  go_wp2_with fail
  refine C5.mono ?_; rintro e w1 ⟨rfl, rfl⟩
  go_wp2
  go_ret
  exact ⟨rfl, rfl⟩
end Go.Proofs.YtahedhpffjgimaaDoor
/- Functions of the library stand in this program as the shelf of contracts knows them: SortFunc, Compact, IndexFunc, Delete. No conditions. -/
namespace Go.Proofs
open Go.Shelf
def Tryd.laysNm220_ren : Go.Shelf.Ren := ⟨fun | 20 => 78 | n => n, fun | 22 => 26 | 3 => 3 | 4 => 4 | 0 => 0 | n => n, fun | n => n⟩
theorem Tryd.laysNm220 : Go.Proofs.Lays2.n20 Tryd.prog Tryd.laysNm220_ren := {
  mixed := by kernel_rfl
  f20 := Tryd.func78.trans (congrArg some (by kernel_rfl))
  t0 := Tryd.underlying0
  a0 := Tryd.isAgg0
  z0 := Tryd.sizeOf0
  v0 := Tryd.zeroValue0
  t3 := Tryd.underlying3
  a3 := Tryd.isAgg3
  z3 := Tryd.sizeOf3
  v3 := Tryd.zeroValue3
  t4 := Tryd.underlying4
  a4 := Tryd.isAgg4
  z4 := Tryd.sizeOf4
  v4 := Tryd.zeroValue4
  t22 := Tryd.underlying26
  a22 := Tryd.isAgg26
  z22 := Tryd.sizeOf26
  v22 := Tryd.zeroValue26
  i3 := by kernel_rfl }
open Go.RowKit Go.Lib Go.Sort in
theorem Tryd.slices_Compact_int (blk off cap : Nat) (zs : List Int) (w : World) (hH : Holds (Value.int .i64) w blk off zs.toArray) (hsz : zs.length ≤ 9223372036854775807) (hcap : zs.length ≤ cap) :
    Calls Tryd.prog 78 #[.slice (some ⟨blk, off, none⟩) zs.length cap] w fun e w' => e = .returned (.slice (some ⟨blk, off, none⟩) (Lib.compact zs).length cap) ∧ ∃ q, w' = putRow (Value.int .i64) (Sort.ahead w q) blk off (Lib.compact zs ++ List.replicate (zs.length - (Lib.compact zs).length) 0).toArray := Any.slices_Compact_int Tryd.laysNm220 blk off cap zs w hH hsz hcap
open Go.RowKit Go.Lib Go.Sort in
theorem Tryd.slices_Compact_int_empty (a : Option Addr) (cap : Nat) (w : World) :
    Calls Tryd.prog 78 #[.slice a 0 cap] w fun e w' => e = .returned (.slice a 0 cap) ∧ w' = w := Any.slices_Compact_int_empty Tryd.laysNm220 a cap w
def Tryd.laysSlE45_f148_ren : Go.Shelf.Ren := ⟨fun | 45 => 148 | n => n, fun | 22 => 22 | 23 => 26 | 3 => 3 | 4 => 4 | 0 => 0 | n => n, fun | n => n⟩
theorem Tryd.laysSlE45_f148 : Go.Proofs.SlLaysE.n45 Tryd.prog Tryd.laysSlE45_f148_ren := {
  mixed := by kernel_rfl
  f45 := ⟨Tryd.f148.name, by decide, Tryd.func148.trans (congrArg some (by kernel_rfl))⟩
  t0 := Tryd.underlying0
  a0 := Tryd.isAgg0
  z0 := Tryd.sizeOf0
  v0 := Tryd.zeroValue0
  t3 := Tryd.underlying3
  a3 := Tryd.isAgg3
  z3 := Tryd.sizeOf3
  v3 := Tryd.zeroValue3
  t4 := Tryd.underlying4
  a4 := Tryd.isAgg4
  z4 := Tryd.sizeOf4
  v4 := Tryd.zeroValue4
  t22 := Tryd.underlying22
  a22 := Tryd.isAgg22
  z22 := Tryd.sizeOf22
  v22 := Tryd.zeroValue22
  a23 := Tryd.isAgg26
  z23 := Tryd.sizeOf26 }
open Go.RowKit Go.Lib Go.Sort in
theorem Tryd.slices_Delete {α : Type} [Inhabited α] (enc : α → Value) (h1 : OneCell enc) (zr : α) (v23 : ∀ w, (zeroValue 26).run Tryd.prog w = .ok (enc zr) w) (i0 : TypeInfo) (hi0 : Tryd.prog.info? 26 = some i0) (hz1 : i0.size = 1) (blk off cap i j : Nat) (d : Array α) (w : World) (hH : Holds enc w blk off d) (hcap : d.size ≤ cap) (hm : cap ≤ 9223372036854775807) (hij : i ≤ j) (hj : j ≤ d.size) :
    Calls Tryd.prog 148 #[.slice (some ⟨blk, off, none⟩) d.size cap, .int .i64 i, .int .i64 j] w fun e w' => e = .returned (.slice (some ⟨blk, off, none⟩) (d.size - (j - i)) cap) ∧ ∃ q, w' = putRow enc (Sort.ahead w q) blk off (d.toList.take i ++ d.toList.drop j ++ List.replicate (j - i) zr).toArray := AnyE.slices_Delete Tryd.laysSlE45_f148 enc h1 zr v23 i0 hi0 hz1 blk off cap i j d w hH hcap hm hij hj
def Tryd.laysSlH6_f147_ren : Go.Shelf.Ren := ⟨fun | 6 => 147 | n => n, fun | 22 => 22 | 23 => 26 | 25 => 198 | 3 => 3 | 0 => 0 | 4 => 4 | n => n, fun | n => n⟩
theorem Tryd.laysSlH6_f147 : Go.Proofs.SlLaysH.n6 Tryd.prog Tryd.laysSlH6_f147_ren := {
  mixed := by kernel_rfl
  f6 := ⟨Tryd.f147.name, by decide, Tryd.func147.trans (congrArg some (by kernel_rfl))⟩
  t0 := Tryd.underlying0
  a0 := Tryd.isAgg0
  z0 := Tryd.sizeOf0
  v0 := Tryd.zeroValue0
  t3 := Tryd.underlying3
  a3 := Tryd.isAgg3
  z3 := Tryd.sizeOf3
  v3 := Tryd.zeroValue3
  t4 := Tryd.underlying4
  a4 := Tryd.isAgg4
  z4 := Tryd.sizeOf4
  v4 := Tryd.zeroValue4
  t22 := Tryd.underlying22
  a22 := Tryd.isAgg22
  z22 := Tryd.sizeOf22
  v22 := Tryd.zeroValue22
  a23 := Tryd.isAgg26
  z23 := Tryd.sizeOf26
  t25 := Tryd.underlying198
  a25 := Tryd.isAgg198
  z25 := Tryd.sizeOf198
  v25 := Tryd.zeroValue198 }
open Go.RowKit Go.Lib in
theorem Tryd.slices_IndexFunc_f147 {α : Type} [Inhabited α] (enc : α → Value) (p : α → Bool) (g : Nat) (lb : Array Value) (eg : ∀ args w, (callFunc g args).run Tryd.prog w = .ok (.enter g args) w) (b off n c : Nat) (zs : List α) (w : World) (hp : PredAt Tryd.prog g lb enc p w) (hz : n ≤ zs.length) (hbig : n ≤ 9223372036854775807) (hc : ∀ j, j < zs.length → w.cell? ⟨b, off + j, none⟩ = some (enc zs[j]!)) :
    Calls Tryd.prog 147 #[.slice (some ⟨b, off, none⟩) n c, .func (.func g) #[] lb] w fun e w' => e = .returned (.int .i64 (Lib.idxBy (fun _ y => p y) (zs.take n) default)) ∧ ∃ q, w' = w.drewN q := AnyE.slices_IndexFunc Tryd.laysSlH6_f147 enc p g lb eg b off n c zs w hp hz hbig hc
open Go.RowKit Go.Lib in
theorem Tryd.slices_IndexFunc_empty_f147 {α : Type} [Inhabited α] (a : Option Addr) (c : Nat) (fv : Value) (w : World) :
    Calls Tryd.prog 147 #[.slice a 0 c, fv] w fun e w' => e = .returned (.int .i64 (-1)) ∧ w' = w := AnyE.slices_IndexFunc_empty Tryd.laysSlH6_f147 a c fv w
def Tryd.laysSlF6_f72_ren : Go.Shelf.Ren := ⟨fun | 6 => 72 | 15 => 86 | 14 => 85 | 28 => 103 | 29 => 104 | 20 => 95 | 21 => 96 | 22 => 97 | 23 => 98 | 24 => 99 | 25 => 100 | 26 => 101 | 27 => 102 | 46 => 110 | 47 => 111 | 48 => 112 | 49 => 113 | 50 => 114 | 57 => 119 | n => n, fun | 22 => 26 | 24 => 3 | 25 => 128 | 3 => 3 | 39 => 126 | 0 => 0 | 53 => 152 | 55 => 154 | 4 => 4 | 46 => 146 | 45 => 145 | 50 => 76 | 5 => 5 | 9 => 9 | 66 => 160 | 70 => 163 | 76 => 169 | 77 => 51 | n => n, fun | n => n⟩
theorem Tryd.laysSlF6_f72 : Go.Proofs.SlLaysF.n6 Tryd.prog Tryd.laysSlF6_f72_ren := {
  mixed := by kernel_rfl
  f6 := ⟨Tryd.f72.name, by decide, Tryd.func72.trans (congrArg some (by kernel_rfl))⟩
  f14 := ⟨Tryd.f85.name, by decide, Tryd.func85.trans (congrArg some (by kernel_rfl))⟩
  f15 := Tryd.func86.trans (congrArg some (by kernel_rfl))
  f20 := ⟨Tryd.f95.name, by decide, Tryd.func95.trans (congrArg some (by kernel_rfl))⟩
  f21 := ⟨Tryd.f96.name, by decide, Tryd.func96.trans (congrArg some (by kernel_rfl))⟩
  f22 := ⟨Tryd.f97.name, by decide, Tryd.func97.trans (congrArg some (by kernel_rfl))⟩
  f23 := ⟨Tryd.f98.name, by decide, Tryd.func98.trans (congrArg some (by kernel_rfl))⟩
  f24 := ⟨Tryd.f99.name, by decide, Tryd.func99.trans (congrArg some (by kernel_rfl))⟩
  f25 := ⟨Tryd.f100.name, by decide, Tryd.func100.trans (congrArg some (by kernel_rfl))⟩
  f26 := ⟨Tryd.f101.name, by decide, Tryd.func101.trans (congrArg some (by kernel_rfl))⟩
  f27 := ⟨Tryd.f102.name, by decide, Tryd.func102.trans (congrArg some (by kernel_rfl))⟩
  f28 := Tryd.func103.trans (congrArg some (by kernel_rfl))
  f29 := Tryd.func104.trans (congrArg some (by kernel_rfl))
  f46 := ⟨Tryd.f110.name, by decide, Tryd.func110.trans (congrArg some (by kernel_rfl))⟩
  f47 := Tryd.func111.trans (congrArg some (by kernel_rfl))
  f48 := Tryd.func112.trans (congrArg some (by kernel_rfl))
  f49 := ⟨Tryd.f113.name, by decide, Tryd.func113.trans (congrArg some (by kernel_rfl))⟩
  f50 := ⟨Tryd.f114.name, by decide, Tryd.func114.trans (congrArg some (by kernel_rfl))⟩
  f57 := ⟨Tryd.f119.name, by decide, Tryd.func119.trans (congrArg some (by kernel_rfl))⟩
  t0 := Tryd.underlying0
  a0 := Tryd.isAgg0
  z0 := Tryd.sizeOf0
  v0 := Tryd.zeroValue0
  t3 := Tryd.underlying3
  a3 := Tryd.isAgg3
  z3 := Tryd.sizeOf3
  v3 := Tryd.zeroValue3
  t4 := Tryd.underlying4
  a4 := Tryd.isAgg4
  z4 := Tryd.sizeOf4
  v4 := Tryd.zeroValue4
  t5 := Tryd.underlying5
  a5 := Tryd.isAgg5
  z5 := Tryd.sizeOf5
  v5 := Tryd.zeroValue5
  t9 := Tryd.underlying9
  a9 := Tryd.isAgg9
  z9 := Tryd.sizeOf9
  v9 := Tryd.zeroValue9
  t22 := Tryd.underlying26
  a22 := Tryd.isAgg26
  z22 := Tryd.sizeOf26
  v22 := Tryd.zeroValue26
  a24 := Tryd.isAgg3
  z24 := Tryd.sizeOf3
  t25 := Tryd.underlying128
  a25 := Tryd.isAgg128
  z25 := Tryd.sizeOf128
  v25 := Tryd.zeroValue128
  t39 := Tryd.underlying126
  a39 := Tryd.isAgg126
  z39 := Tryd.sizeOf126
  v39 := Tryd.zeroValue126
  t45 := Tryd.underlying145
  a45 := Tryd.isAgg145
  z45 := Tryd.sizeOf145
  v45 := Tryd.zeroValue145
  t46 := Tryd.underlying146
  a46 := Tryd.isAgg146
  z46 := Tryd.sizeOf146
  v46 := Tryd.zeroValue146
  t50 := Tryd.underlying76
  a50 := Tryd.isAgg76
  z50 := Tryd.sizeOf76
  v50 := Tryd.zeroValue76
  t53 := Tryd.underlying152
  a53 := Tryd.isAgg152
  z53 := Tryd.sizeOf152
  v53 := Tryd.zeroValue152
  t55 := Tryd.underlying154
  a55 := Tryd.isAgg154
  z55 := Tryd.sizeOf154
  v55 := Tryd.zeroValue154
  t66 := Tryd.underlying160
  a66 := Tryd.isAgg160
  z66 := Tryd.sizeOf160
  v66 := Tryd.zeroValue160
  t70 := Tryd.underlying163
  a70 := Tryd.isAgg163
  z70 := Tryd.sizeOf163
  v70 := Tryd.zeroValue163
  t76 := Tryd.underlying169
  a76 := Tryd.isAgg169
  z76 := Tryd.sizeOf169
  v76 := Tryd.zeroValue169
  t77 := Tryd.underlying51
  a77 := Tryd.isAgg51
  z77 := Tryd.sizeOf51
  v77 := Tryd.zeroValue51 }
def Tryd.laysSlF06_f72_ren : Go.Shelf.Ren := ⟨fun | 6 => 72 | 15 => 86 | 14 => 85 | 28 => 103 | 29 => 104 | 20 => 95 | 21 => 96 | 22 => 97 | 23 => 98 | 24 => 99 | 25 => 100 | 26 => 101 | 27 => 102 | 46 => 110 | 47 => 111 | 48 => 112 | 49 => 113 | 50 => 114 | 57 => 119 | n => n, fun | 22 => 26 | 24 => 3 | 25 => 128 | 3 => 3 | 39 => 126 | 0 => 0 | 53 => 152 | 55 => 154 | 4 => 4 | 46 => 146 | 45 => 145 | 50 => 76 | 5 => 5 | 9 => 9 | 66 => 160 | 70 => 163 | 76 => 169 | 77 => 51 | n => n, fun | n => n⟩
theorem Tryd.laysSlF06_f72 : Go.Proofs.SlLaysF0.n6 Tryd.prog Tryd.laysSlF06_f72_ren := {
  mixed := by kernel_rfl
  f6 := ⟨Tryd.f72.name, by decide, Tryd.func72.trans (congrArg some (by kernel_rfl))⟩
  f14 := ⟨Tryd.f85.name, by decide, Tryd.func85.trans (congrArg some (by kernel_rfl))⟩
  f15 := Tryd.func86.trans (congrArg some (by kernel_rfl))
  f20 := ⟨Tryd.f95.name, by decide, Tryd.func95.trans (congrArg some (by kernel_rfl))⟩
  f21 := ⟨Tryd.f96.name, by decide, Tryd.func96.trans (congrArg some (by kernel_rfl))⟩
  f22 := ⟨Tryd.f97.name, by decide, Tryd.func97.trans (congrArg some (by kernel_rfl))⟩
  f23 := ⟨Tryd.f98.name, by decide, Tryd.func98.trans (congrArg some (by kernel_rfl))⟩
  f24 := ⟨Tryd.f99.name, by decide, Tryd.func99.trans (congrArg some (by kernel_rfl))⟩
  f25 := ⟨Tryd.f100.name, by decide, Tryd.func100.trans (congrArg some (by kernel_rfl))⟩
  f26 := ⟨Tryd.f101.name, by decide, Tryd.func101.trans (congrArg some (by kernel_rfl))⟩
  f27 := ⟨Tryd.f102.name, by decide, Tryd.func102.trans (congrArg some (by kernel_rfl))⟩
  f28 := Tryd.func103.trans (congrArg some (by kernel_rfl))
  f29 := Tryd.func104.trans (congrArg some (by kernel_rfl))
  f46 := ⟨Tryd.f110.name, by decide, Tryd.func110.trans (congrArg some (by kernel_rfl))⟩
  f47 := Tryd.func111.trans (congrArg some (by kernel_rfl))
  f48 := Tryd.func112.trans (congrArg some (by kernel_rfl))
  f49 := ⟨Tryd.f113.name, by decide, Tryd.func113.trans (congrArg some (by kernel_rfl))⟩
  f50 := ⟨Tryd.f114.name, by decide, Tryd.func114.trans (congrArg some (by kernel_rfl))⟩
  f57 := ⟨Tryd.f119.name, by decide, Tryd.func119.trans (congrArg some (by kernel_rfl))⟩
  t0 := Tryd.underlying0
  a0 := Tryd.isAgg0
  z0 := Tryd.sizeOf0
  v0 := Tryd.zeroValue0
  t3 := Tryd.underlying3
  a3 := Tryd.isAgg3
  z3 := Tryd.sizeOf3
  v3 := Tryd.zeroValue3
  t4 := Tryd.underlying4
  a4 := Tryd.isAgg4
  z4 := Tryd.sizeOf4
  v4 := Tryd.zeroValue4
  t5 := Tryd.underlying5
  a5 := Tryd.isAgg5
  z5 := Tryd.sizeOf5
  v5 := Tryd.zeroValue5
  t9 := Tryd.underlying9
  a9 := Tryd.isAgg9
  z9 := Tryd.sizeOf9
  v9 := Tryd.zeroValue9
  t22 := Tryd.underlying26
  a22 := Tryd.isAgg26
  z22 := Tryd.sizeOf26
  v22 := Tryd.zeroValue26
  t25 := Tryd.underlying128
  a25 := Tryd.isAgg128
  z25 := Tryd.sizeOf128
  v25 := Tryd.zeroValue128
  t39 := Tryd.underlying126
  a39 := Tryd.isAgg126
  z39 := Tryd.sizeOf126
  v39 := Tryd.zeroValue126
  t45 := Tryd.underlying145
  a45 := Tryd.isAgg145
  z45 := Tryd.sizeOf145
  v45 := Tryd.zeroValue145
  t46 := Tryd.underlying146
  a46 := Tryd.isAgg146
  z46 := Tryd.sizeOf146
  v46 := Tryd.zeroValue146
  t50 := Tryd.underlying76
  a50 := Tryd.isAgg76
  z50 := Tryd.sizeOf76
  v50 := Tryd.zeroValue76
  t53 := Tryd.underlying152
  a53 := Tryd.isAgg152
  z53 := Tryd.sizeOf152
  v53 := Tryd.zeroValue152
  t55 := Tryd.underlying154
  a55 := Tryd.isAgg154
  z55 := Tryd.sizeOf154
  v55 := Tryd.zeroValue154
  t66 := Tryd.underlying160
  a66 := Tryd.isAgg160
  z66 := Tryd.sizeOf160
  v66 := Tryd.zeroValue160
  t70 := Tryd.underlying163
  a70 := Tryd.isAgg163
  z70 := Tryd.sizeOf163
  v70 := Tryd.zeroValue163
  t76 := Tryd.underlying169
  a76 := Tryd.isAgg169
  z76 := Tryd.sizeOf169
  v76 := Tryd.zeroValue169
  t77 := Tryd.underlying51
  a77 := Tryd.isAgg51
  z77 := Tryd.sizeOf51
  v77 := Tryd.zeroValue51 }
open Go.RowKit Go.Lib Go.Sort in
theorem Tryd.slices_SortFunc_none {α : Type} [Inhabited α] (p : Option Addr) (cap : Nat) (fv : Value) (w : World) :
    Calls Tryd.prog 72 #[.slice p 0 cap, fv] w fun e w' => e = .returned (.tuple #[]) ∧ w' = w := AnyF.slices_SortFunc_none Tryd.laysSlF06_f72 p cap fv w
open Go.RowKit Go.Lib Go.Sort in
theorem Tryd.slices_SortFunc_total {α : Type} [Inhabited α] (enc : α → Value) (h1 : OneCell enc) (cf : α → α → Int) (hO : SWO (ltOf cf)) (g : Nat) (cb : Array Value) (blk off cap : Nat) (d : Array α) (w : World) (eg : ∀ args w, (callFunc g args).run Tryd.prog w = .ok (.enter g args) w) (hcmp : CmpLays1 Tryd.prog g cb enc cf blk off d.size w) (hH : Holds enc w blk off d) (hblk : blk < w.heap.size) (hsz : d.size < 4611686018427387904) (hT : ∀ x y, (ltOf cf) x y = false → (ltOf cf) y x = false → x = y) :
    Calls Tryd.prog 72 #[.slice (some ⟨blk, off, none⟩) d.size cap, .func (.func g) #[] cb] w fun e w' =>
      e = .returned (.tuple #[]) ∧ ∃ n os, w' = sortWorld enc w blk off n (d.toList.mergeSort fun x y => !(ltOf cf) y x).toArray os := Any.slices_SortFunc_total Tryd.laysSlF6_f72 enc h1 cf hO g cb blk off cap d w eg hcmp hH hblk hsz hT
end Go.Proofs
/- Clone, and what sorting leaves. -/
namespace Go.Proofs.YtahedhpffjgimaaDoor
open Go.RowKit
/-- A call that tells a row of numbers of its own. -/
def RetI (w0 : World) (l : List Int) (e : Ending) (w' : World) : Prop := ∃ v, e = .returned v ∧ OwnI w' w0.heap.size v l ∧ Below w0.heap.size w0 w'
set_option maxHeartbeats 1000000 in
theorem clone_any (A : Option Addr) (c : Nat) (l : List Int) (w : World) (h : RI w w.heap.size A l) (hl : l.length ≤ 1000000) : Calls Tryd.prog 71 #[.slice A l.length c] w (RetI w l) := by
  have q23 : ∀ (w : World) (a : Option Addr) (n c n' c' : Nat), (binOp .eql 26 (.slice a n c) (.slice none n' c')).run Tryd.prog w = .ok (.bool a.isNone) w := fun w a n c n' c' => Lib.run_eql_slice_nil w _ _ a n c n' c' Tryd.underlying26
  cases A with
  | none =>
    have h0 : l = [] := by
      cases l with
      | nil => rfl
      | cons x l => obtain ⟨ad, e, _⟩ := h 0 (by simp); cases e
    subst h0
    clear h
    go_enter Tryd.func71, Tryd.ntmps71
    go_wp2
    go_ret
    exact ⟨_, rfl, OwnI.nil _ _, Below.refl _ _⟩
  | some ad =>
    obtain ⟨i0, hi0, hz0, hz1, hz2⟩ := info_parts int_info
    have HH := Lib.hid h
    clear h
    go_enter Tryd.func71, Tryd.ntmps71
    go_wp2_with (at_builtin; refine wpList_append_own _ rfl _ _ 26 rfl w.heap.size 3 i0 (.int .i64 0) 1 8 Tryd.underlying26 hi0 hz0 hz1 hz2 rfl (by decide) _ _ _ rfl (World.ownsRow_made w #[] 0 (Nat.le_refl _) (Nat.zero_le _) rfl) ad l.length c (l.map (Value.int .i64)) rfl ?qc1 ?qc2 ?qc3 ?qc4 ?qc5 ?qc6 ?_)
    case qc1 => simp
    case qc2 =>
      intro j u hj
      have hjl : j < l.length := by
        have := (List.getElem?_eq_some_iff.1 hj).1
        simpa using this
      obtain ⟨ad', e, _, hc⟩ := HH.out j hjl
      cases e
      refine Lib.cell?_alloc_some _ ?_
      rw [hc]
      simp [hjl] at hj
      rw [← hj]
      simp [List.getD_eq_getElem?_getD, hjl]
    case qc3 => intro u hu; obtain ⟨x, _, rfl⟩ := List.mem_map.1 hu; rfl
    case qc4 => unfold maxLen; omega
    case qc5 => omega
    case qc6 => simp
    intro v' w1 hown hgrow hnil
    go_wp2
    go_ret
    refine ⟨v', rfl, ?_, ?_⟩
    · unfold OwnI; simpa using hown
    · exact ((Below.refl _ w).alloc (Nat.le_refl _) _).grown hgrow (by simp) (by intro k hk; simp [Value.ownBlock] at hk; omega)
end Go.Proofs.YtahedhpffjgimaaDoor
/- Sort. -/
namespace Go.Proofs.YtahedhpffjgimaaDoor
open Go.RowKit
open Go.Sort Go.Lib Go.Shelf
/-- A literal stands ahead of another one. -/
def ltP (x y : Int) : Prop := varF x < varF y ∨ (varF x = varF y ∧ x < y)
theorem ltL (x y : Int) : ltOf cfL x y = true ↔ ltP x y := by
  unfold ltOf cfL orI cmpI ltP
  simp only [decide_eq_true_eq]
  by_cases h1 : varF x < varF y
  · simp [h1]
  · by_cases h2 : varF y < varF x
    · simp [h1, h2]; omega
    · have e : varF x = varF y := by omega
      simp [e]
      by_cases h3 : x < y
      · simp [h3]
      · by_cases h4 : y < x <;> simp [h3, h4]
theorem ltL' (x y : Int) : ltOf cfL x y = false ↔ ¬ ltP x y := by rw [← ltL]; simp
theorem swoL : SWO (ltOf cfL) where
  irrefl x := by rw [ltL']; unfold ltP; omega
  trans x y z h1 h2 := by rw [ltL] at *; unfold ltP at *; omega
  ntrans x y z h1 h2 := by rw [ltL'] at *; unfold ltP at *; omega
theorem totL (x y : Int) (h1 : ltOf cfL x y = false) (h2 : ltOf cfL y x = false) : x = y := by rw [ltL'] at *; unfold ltP at *; omega
/-- The literals sorted, none twice. -/
def leB (x y : Int) : Bool := !ltOf cfL y x
theorem leB_iff (x y : Int) : leB x y = true ↔ ¬ ltP y x := by unfold leB; rw [← ltL']; simp
def sortF (l : List Int) : List Int := Lib.compact (l.mergeSort leB)
theorem keeps_zero (d : Array Int) : keeps d 0 = true := by simp [keeps]
theorem compact_inv (zs : List Int) (hs : zs.Pairwise (fun x y => leB x y = true)) (m : Nat) (hm : m ≤ zs.length) :
    (∀ x, x ∈ compactUpTo zs.toArray m ↔ x ∈ zs.take m) ∧ (compactUpTo zs.toArray m).Pairwise ltP ∧ (0 < m → (∀ x ∈ compactUpTo zs.toArray m, x = zs.getD (m - 1) 0 ∨ ltP x (zs.getD (m - 1) 0))) := by
  induction m with
  | zero => simp [compactUpTo]
  | succ m ih =>
    obtain ⟨h1, h2, h3⟩ := ih (by omega)
    have hg : zs.toArray[m]! = zs.getD m 0 := by simp [List.getD_eq_getElem?_getD, show m < zs.length by omega]
    have htk := take_snocI zs m (by omega)
    rw [compactUpTo_succ, htk, hg]
    have hk : 0 < m → (keeps zs.toArray m = true ↔ zs.getD m 0 ≠ zs.getD (m - 1) 0) := by
      intro h0
      have hg2 : zs.toArray[m - 1]! = zs.getD (m - 1) 0 := by simp [List.getD_eq_getElem?_getD, show m - 1 < zs.length by omega]
      unfold keeps
      rw [hg, hg2]
      simp; omega
    have hle : 0 < m → ¬ ltP (zs.getD m 0) (zs.getD (m - 1) 0) := by
      intro h0
      have := List.pairwise_iff_getElem.1 hs (m - 1) m (by omega) (by omega) (by omega)
      rw [leB_iff] at this
      simpa [List.getD_eq_getElem?_getD, show m < zs.length by omega, show m - 1 < zs.length by omega] using this
    by_cases h0 : m = 0
    · subst h0
      rw [keeps_zero]
      have e0 : compactUpTo zs.toArray 0 = [] := by simp [compactUpTo]
      rw [e0]
      refine ⟨by simp, by simp, fun _ x hx => ?_⟩
      simp at hx
      left; simpa using hx
    · have hp : 0 < m := by omega
      by_cases hkm : keeps zs.toArray m = true
      · have hne := (hk hp).1 hkm
        rw [if_pos hkm]
        have hlt : ltP (zs.getD (m - 1) 0) (zs.getD m 0) := by
          have := hle hp
          unfold ltP at *; omega
        have hall : ∀ x ∈ compactUpTo zs.toArray m, ltP x (zs.getD m 0) := by
          intro x hx
          rcases h3 hp x hx with e | e
          · rw [e]; exact hlt
          · unfold ltP at *; omega
        refine ⟨fun x => by simp only [List.mem_append, h1 x], ?_, fun _ x hx => ?_⟩
        · rw [List.pairwise_append]
          exact ⟨h2, by simp, fun a ha b hb => by rw [List.mem_singleton.1 hb]; exact hall a ha⟩
        · simp only [Nat.add_sub_cancel]
          rcases List.mem_append.1 hx with h' | h'
          · exact .inr (hall x h')
          · exact .inl (List.mem_singleton.1 h')
      · have he : zs.getD m 0 = zs.getD (m - 1) 0 := by
          apply Classical.byContradiction; intro hc; exact hkm ((hk hp).2 hc)
        rw [if_neg hkm, List.append_nil]
        refine ⟨fun x => ?_, h2, fun _ x hx => ?_⟩
        · rw [h1 x]
          have hm1 : zs.getD (m - 1) 0 ∈ zs.take m := by
            rw [show m = (m - 1) + 1 by omega, take_snocI zs (m - 1) (by omega)]; simp
          simp only [List.mem_append, List.mem_singleton]
          constructor
          · exact .inl
          · rintro (h | h)
            · exact h
            · rw [h, he]; exact hm1
        · simp only [Nat.add_sub_cancel]; rw [he]; exact h3 hp x hx
theorem leB_trans (a b c : Int) : leB a b = true → leB b c = true → leB a c = true := by
  rw [leB_iff, leB_iff, leB_iff]; unfold ltP; omega
theorem leB_total (a b : Int) : (leB a b || leB b a) = true := by
  rw [Bool.or_eq_true, leB_iff, leB_iff]; unfold ltP; omega
theorem sorted_l (l : List Int) : (l.mergeSort leB).Pairwise (fun x y => leB x y = true) := List.pairwise_mergeSort leB_trans leB_total l
theorem sortF_mem (l : List Int) (x : Int) : x ∈ sortF l ↔ x ∈ l := by
  have h := (compact_inv (l.mergeSort leB) (sorted_l l) (l.mergeSort leB).length (Nat.le_refl _)).1 x
  unfold sortF compact
  rw [h, List.take_length, List.mem_mergeSort]
theorem sortF_lt (l : List Int) : (sortF l).Pairwise ltP :=
  (compact_inv (l.mergeSort leB) (sorted_l l) (l.mergeSort leB).length (Nat.le_refl _)).2.1
theorem ltP_irrefl (x : Int) : ¬ ltP x x := by unfold ltP; omega
theorem sorted_uniq : ∀ (a b : List Int), a.Pairwise ltP → b.Pairwise ltP → (∀ x, x ∈ a ↔ x ∈ b) → a = b
  | [], b, _, _, h => by
    cases b with
    | nil => rfl
    | cons y b => exact absurd ((h y).2 (by simp)) (by simp)
  | x :: a, [], _, _, h => absurd ((h x).1 (by simp)) (by simp)
  | x :: a, y :: b, ha, hb, h => by
    rw [List.pairwise_cons] at ha hb
    have e : x = y := by
      rcases List.mem_cons.1 ((h x).1 (by simp)) with e | e
      · exact e
      · rcases List.mem_cons.1 ((h y).2 (by simp)) with e2 | e2
        · exact e2.symm
        · have h1 := hb.1 x e
          have h2 := ha.1 y e2
          unfold ltP at *; omega
    subst e
    rw [sorted_uniq a b ha.2 hb.2 (fun z => by
      have := h z
      simp only [List.mem_cons] at this
      constructor
      · intro hz
        rcases this.1 (.inr hz) with e | e
        · subst e; exact absurd (ha.1 z hz) (ltP_irrefl z)
        · exact e
      · intro hz
        rcases this.2 (.inr hz) with e | e
        · subst e; exact absurd (hb.1 z hz) (ltP_irrefl z)
        · exact e)]
theorem sortF_nodup (l : List Int) : (sortF l).Nodup :=
  (sortF_lt l).imp (fun h e => by subst e; exact ltP_irrefl _ h)
theorem sortF_len (l : List Int) : (sortF l).length ≤ l.length := by
  have := Lib.compact_length_le (l.mergeSort leB)
  rw [List.length_mergeSort] at this
  exact this
theorem sortF_nil : sortF [] = [] := List.eq_nil_of_length_eq_zero (by have := sortF_len []; simpa using this)
end Go.Proofs.YtahedhpffjgimaaDoor
/- Sort, walked. -/
namespace Go.Proofs.YtahedhpffjgimaaDoor
open Go.RowKit
open Go.Sort Go.Lib Go.Shelf
theorem cmpLays (blk off size : Nat) (w : World) : CmpLays1 Tryd.prog 73 #[] (Value.int .i64) cfL blk off size w := by
  intro m os dk _ x y
  refine (closure_any x y _).mono ?_
  rintro e w' ⟨rfl, rfl⟩
  refine ⟨rfl, 0, #[.cells #[.int .i64 (cmpI (varF x) (varF y)), .int .i64 (cmpI x y)] 3], ?_⟩
  generalize sortWorld (Value.int .i64) w blk off m dk os = W
  show W.alloc _ = grow W _
  unfold grow
  rw [← World.alloc_eq]
  simp only [Array.append_singleton]
theorem own_put {w : World} {base : Nat} {g cap n : Nat} {os : Array Obj} {l ts : List Int} (hl : ts.length = l.length) (h : w.ownsRow base 3 1 (.slice (some ⟨g, 0, none⟩) l.length cap) l.length (l.map (Value.int .i64))) :
    (grow (putRow (Value.int .i64) (Sort.ahead w n) g 0 ts.toArray) os).ownsRow base 3 1 (.slice (some ⟨g, 0, none⟩) l.length cap) l.length (ts.map (Value.int .i64)) := by
  rcases h.2 with ⟨h0, _⟩ | ⟨g', cap', cur, hv, hbase, hb, h1, h2, h3, h4⟩
  · cases h0
  · cases hv
    exact ownsRow_sortedI hl hbase hb h1 h2 h3
set_option maxHeartbeats 2000000 in
theorem sort_any (A : Option Addr) (c : Nat) (l : List Int) (w : World) (h : RI w w.heap.size A l) (hl : l.length ≤ 1000000) : Calls Tryd.prog 52 #[.slice A l.length c] w (RetI w (sortF l)) := by
  have C1 := clone_any A c l w h hl
  clear h
  by_cases h0 : l = []
  · subst h0
    rw [sortF_nil]
    have C2 := fun p cap w1 => Tryd.slices_SortFunc_none (α := Int) p cap (.func (.func 73) #[] #[]) w1
    have C3 := fun p cap w1 => Tryd.slices_Compact_int_empty p cap w1
    have HC2 := Lib.hid C2
    have HC3 := Lib.hid C3
    clear C2 C3
    go_enter Tryd.func52, Tryd.ntmps52
    go_wp2_with fail
    refine C1.mono ?_; rintro e w1 ⟨v, rfl, hown, hb⟩
    obtain ⟨A1, c1, rfl, _⟩ := hown.val
    have HO := Lib.hid hown
    have HB := Lib.hid hb
    clear hown hb C1
    go_wp2_with fail
    refine (HC2.out _ _ _).mono ?_; rintro e w2 ⟨rfl, rfl⟩
    go_wp2_with fail
    refine (HC3.out _ _ _).mono ?_; rintro e w3 ⟨rfl, rfl⟩
    go_wp2
    go_ret
    exact ⟨_, rfl, HO.out, HB.out⟩
  · have eg : ∀ args w, (callFunc 73 args).run Tryd.prog w = .ok (.enter 73 args) w := enters_of Tryd.func73 (by kernel_rfl) rfl
    have hpos : 0 < l.length := by cases l with | nil => exact absurd rfl h0 | cons x l => simp
    have C2 : ∀ g cap w1, Holds (Value.int .i64) w1 g 0 l.toArray → g < w1.heap.size → Calls Tryd.prog 72 #[.slice (some ⟨g, 0, none⟩) l.length cap, .func (.func 73) #[] #[]] w1 fun e w' => e = .returned (.tuple #[]) ∧ ∃ n os, w' = grow (putRow (Value.int .i64) (Sort.ahead w1 n) g 0 (l.mergeSort leB).toArray) os := by
      intro g cap w1 hH hg
      have := Tryd.slices_SortFunc_total (Value.int .i64) (fun _ => rfl) cfL swoL 73 #[] g 0 cap l.toArray w1 eg (cmpLays g 0 _ w1) hH hg (by simp; omega) totL
      change Calls Tryd.prog 72 _ w1 fun e w' => e = _ ∧ ∃ n os, w' = grow (putRow (Value.int .i64) (Sort.ahead w1 n) g 0 (l.mergeSort fun x y => !ltOf cfL y x).toArray) os
      simpa [sortWorld] using this
    have C3 : ∀ g cap w1, Holds (Value.int .i64) w1 g 0 (l.mergeSort leB).toArray → l.length ≤ cap → Calls Tryd.prog 78 #[.slice (some ⟨g, 0, none⟩) l.length cap] w1 fun e w' => e = .returned (.slice (some ⟨g, 0, none⟩) (sortF l).length cap) ∧ ∃ q, w' = putRow (Value.int .i64) (Sort.ahead w1 q) g 0 (sortF l ++ List.replicate (l.length - (sortF l).length) 0).toArray := by
      intro g cap w1 hH hcap
      have := Tryd.slices_Compact_int g 0 cap (l.mergeSort leB) w1 hH (by rw [List.length_mergeSort]; omega) (by rw [List.length_mergeSort]; exact hcap)
      rw [List.length_mergeSort] at this
      exact this
    have HC2 := Lib.hid C2
    have HC3 := Lib.hid C3
    clear C2 C3 eg
    go_enter Tryd.func52, Tryd.ntmps52
    go_wp2_with fail
    refine C1.mono ?_; rintro e w1 ⟨v, rfl, hown, hb⟩
    have hnn : v ≠ .slice none 0 0 := by
      intro e
      obtain ⟨A1, c1, e1, _⟩ := hown.val
      rw [e] at e1
      injection e1 with _ e2 _
      omega
    obtain ⟨g, cap, rfl, hbg, hgl, hncap, hcm, hlen, hH⟩ := Lib.holds_of_ownsRow hown hnn
    have HO := Lib.hid hown
    have HB := Lib.hid hb
    have HH := Lib.hid hH
    clear hown hb C1 hH hnn
    go_wp2_with fail
    refine (HC2.out g cap w1 HH.out hgl).mono ?_; rintro e w2 ⟨rfl, n, os, hw2⟩
    have h2 := own_put (n := n) (os := os) (ts := l.mergeSort leB) (by simp) HO.out
    rw [← hw2] at h2
    have hb2 : Below w.heap.size w w2 := by rw [hw2]; exact HB.out.grown (grownBy_sortedI _) HB.out.size (fun j hj => by cases hj; exact hbg)
    obtain ⟨g', cap', e', _, hgl2, _, _, _, hH2⟩ := Lib.holds_of_ownsRow h2 (by simp)
    cases e'
    have HO2 := Lib.hid h2
    have HB2 := Lib.hid hb2
    have HH2 := Lib.hid hH2
    clear h2 hb2 hw2 HC2 HO HB HH hH2
    go_wp2_with fail
    refine (HC3.out g cap w2 HH2.out hncap).mono ?_; rintro e w3 ⟨rfl, q, hw3⟩
    have h3 := Lib.ownsRow_putRow (enc := Value.int .i64) (q := q) (k := (sortF l).length) (ys := sortF l ++ List.replicate (l.length - (sortF l).length) 0) HO2.out (by have := sortF_len l; simp; omega) (sortF_len l)
    rw [List.take_left, ← hw3] at h3
    have hb3 : Below w.heap.size w w3 := by rw [hw3]; exact Lib.below_putRow HB2.out hbg
    have HO3 := Lib.hid h3
    have HB3 := Lib.hid hb3
    clear h3 hb3 hw3
    go_wp2
    go_ret
    exact ⟨_, rfl, HO3.out, HB3.out⟩
end Go.Proofs.YtahedhpffjgimaaDoor
