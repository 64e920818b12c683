/-
  How two literals are compared.
-/
import Derived.Test.YtlebagdildpkmaaProg
import Derived.WalkKit
import Derived.WalkSpells
import Derived.WalkLawsBesides
import Derived.Lib.Hide
import Derived.BigQuiet
import Derived.Deep.QuietTactic
import Derived.Deep.RegionWith
import Derived.Deep.RegionHeld3
import Derived.Test.YtlebagdildpkmaaA3
set_option linter.unusedVariables false
namespace Go.Proofs.Ytlebagdildpkmaa
open Go.RowKit
/-- A literal's variable, of any number. -/
def varF (x : Int) : Int := if x < 0 then IntKind.u64.wrap (-IntKind.u64.wrap x) else IntKind.u64.wrap x
set_option maxHeartbeats 400000 in
theorem variable_all (x : Int) (w : World) : Calls Try.prog 31 #[.int .i64 x] w (RetS w (.int .u64 (varF x))) := by
  by_cases h : x < 0
  · have d : decide (x < 0) = true := decide_eq_true h
    rw [show varF x = IntKind.u64.wrap (-IntKind.u64.wrap x) from if_pos h]
    go_enter Try.func31, Try.ntmps31
    go_wp2
    go_ret
    exact ⟨rfl, rfl⟩
  · have d : decide (x < 0) = false := decide_eq_false h
    rw [show varF x = IntKind.u64.wrap x from if_neg h]
    go_enter Try.func31, Try.ntmps31
    go_wp2
    go_ret
    exact ⟨rfl, rfl⟩
def cmpI (x y : Int) : Int := if x < y then -1 else if y < x then 1 else 0
set_option maxHeartbeats 400000 in
theorem cmpU_any (x y : Int) (w : World) : Calls Try.prog 30 #[.int .u64 x, .int .u64 y] w (RetS w (.int .i64 (cmpI x y))) := by
  have d0 : (x != x) = false := by simp
  have d0' : (y != y) = false := by simp
  by_cases h : x < y
  · have d : decide (x < y) = true := decide_eq_true h
    rw [show cmpI x y = -1 from if_pos h]
    go_enter Try.func30, Try.ntmps30
    go_wp2
    go_ret
    exact ⟨rfl, rfl⟩
  · have d : decide (x < y) = false := decide_eq_false h
    by_cases h2 : y < x
    · have d2 : decide (y < x) = true := decide_eq_true h2
      have d3 : decide (x > y) = true := decide_eq_true h2
      rw [show cmpI x y = 1 by unfold cmpI; rw [if_neg h, if_pos h2]]
      go_enter Try.func30, Try.ntmps30
      go_wp2
      go_ret
      exact ⟨rfl, rfl⟩
    · have d2 : decide (y < x) = false := decide_eq_false h2
      have d3 : decide (x > y) = false := decide_eq_false h2
      rw [show cmpI x y = 0 by unfold cmpI; rw [if_neg h, if_neg h2]]
      go_enter Try.func30, Try.ntmps30
      go_wp2
      go_ret
      exact ⟨rfl, rfl⟩
set_option maxHeartbeats 400000 in
theorem cmpI_any (x y : Int) (w : World) : Calls Try.prog 32 #[.int .i64 x, .int .i64 y] w (RetS w (.int .i64 (cmpI x y))) := by
  have d0 : (x != x) = false := by simp
  have d0' : (y != y) = false := by simp
  by_cases h : x < y
  · have d : decide (x < y) = true := decide_eq_true h
    rw [show cmpI x y = -1 from if_pos h]
    go_enter Try.func32, Try.ntmps32
    go_wp2
    go_ret
    exact ⟨rfl, rfl⟩
  · have d : decide (x < y) = false := decide_eq_false h
    by_cases h2 : y < x
    · have d2 : decide (y < x) = true := decide_eq_true h2
      have d3 : decide (x > y) = true := decide_eq_true h2
      rw [show cmpI x y = 1 by unfold cmpI; rw [if_neg h, if_pos h2]]
      go_enter Try.func32, Try.ntmps32
      go_wp2
      go_ret
      exact ⟨rfl, rfl⟩
    · have d2 : decide (y < x) = false := decide_eq_false h2
      have d3 : decide (x > y) = false := decide_eq_false h2
      rw [show cmpI x y = 0 by unfold cmpI; rw [if_neg h, if_neg h2]]
      go_enter Try.func32, Try.ntmps32
      go_wp2
      go_ret
      exact ⟨rfl, rfl⟩
def orI (a b : Int) : Int := if a = 0 then b else a
set_option maxHeartbeats 1000000 in
theorem or_any (g : Nat) (a b : Int) (w : World) (h0 : w.cell? ⟨g, 0, none⟩ = some (.int .i64 a)) (h1 : w.cell? ⟨g, 1, none⟩ = some (.int .i64 b)) : Calls Try.prog 29 #[.slice (some ⟨g, 0, none⟩) 2 2] w (RetS w (.int .i64 (orI a b))) := by
  unfold orI
  by_cases ha : a = 0
  · subst ha
    rw [if_pos rfl]
    by_cases hb : b = 0
    · subst hb
      go_enter Try.func29, Try.ntmps29
      go_wp2
      refine wp_loop_rounds 4 ?_
      rw [rounds_succ]; go_wp2
      rw [rounds_succ]; go_wp2
      rw [rounds_succ]; go_wp2
      go_ret
      exact ⟨rfl, rfl⟩
    · have d2 : (b != 0) = true := by simp [hb]
      go_enter Try.func29, Try.ntmps29
      go_wp2
      refine wp_loop_rounds 4 ?_
      rw [rounds_succ]; go_wp2
      rw [rounds_succ]; go_wp2
      go_ret
      exact ⟨rfl, rfl⟩
  · rw [if_neg ha]
    have d2 : (a != 0) = true := by simp [ha]
    go_enter Try.func29, Try.ntmps29
    go_wp2
    refine wp_loop_rounds 4 ?_
    rw [rounds_succ]; go_wp2
    go_ret
    exact ⟨rfl, rfl⟩
/-- How two literals are compared. -/
def cfL (x y : Int) : Int := orI (cmpI (varF x) (varF y)) (cmpI x y)
set_option maxHeartbeats 1000000 in
theorem closure_any (x y : Int) (w : World) : Calls Try.prog 28 #[.int .i64 x, .int .i64 y] w (fun e w' => e = .returned (.int .i64 (cfL x y)) ∧ w' = w.alloc (.cells #[.int .i64 (cmpI (varF x) (varF y)), .int .i64 (cmpI x y)] 3)) := by
  unfold cfL
  have C1 := variable_all x w
  have C2 := variable_all y w
  have C3 := cmpU_any (varF x) (varF y) w
  have C4 := cmpI_any x y w
  obtain ⟨q0, q1⟩ := box_cells w (.int .i64 (cmpI (varF x) (varF y))) (.int .i64 (cmpI x y)) 3
  have C5 := or_any w.heap.size _ _ _ q0 q1
  clear q0 q1
  generalize varF x = vx at *
  generalize varF y = vy at *
  generalize cmpI vx vy = a at *
  generalize cmpI x y = b at *
  generalize orI a b = r at *
  go_enter Try.func28, Try.ntmps28
  go_wp2_with fail
  refine C1.mono ?_; rintro e w1 ⟨rfl, rfl⟩
  go_wp2_with fail
  refine C2.mono ?_; rintro e w1 ⟨rfl, rfl⟩
  go_wp2_with fail
  refine C3.mono ?_; rintro e w1 ⟨rfl, rfl⟩
  go_wp2_with fail
  refine C4.mono ?_; rintro e w1 ⟨rfl, rfl⟩
  go_wp2_with fail
  refine C5.mono ?_; rintro e w1 ⟨rfl, rfl⟩
  go_wp2
  go_ret
  exact ⟨rfl, rfl⟩
end Go.Proofs.Ytlebagdildpkmaa
