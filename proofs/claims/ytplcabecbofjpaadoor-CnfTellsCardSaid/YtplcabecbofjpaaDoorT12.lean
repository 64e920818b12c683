/-
  The reference's figure.
-/
import Derived.Test.YtplcabecbofjpaaDoorProg
import Derived.WalkKit
import Derived.WalkSpells
import Derived.WalkLawsBesides
import Derived.Lib.Hide
import Derived.BigQuiet
import Derived.Deep.QuietTactic
import Derived.Deep.RegionWith
import Derived.Deep.RegionHeld3
import Derived.Test.YtplcabecbofjpaaDoorT11
set_option linter.unusedVariables false
namespace Go.Proofs.YtplcabecbofjpaaDoor
open Go.RowKit
set_option maxHeartbeats 800000 in
theorem refFigure_any (b : UInt8) (w : World) : Calls Tryd.prog 100 #[.int .u8 (b.toNat : Int)] w (RetS w (.bool (decide (48 ≤ b.toNat) && decide (b.toNat ≤ 57)))) := by
  have hb : b.toNat < 256 := b.toNat_lt
  generalize b.toNat = v at *
  by_cases h1 : 48 ≤ v
  · by_cases h2 : v ≤ 57
    · have e : (decide (48 ≤ v) && decide (v ≤ 57)) = true := by simp [h1, h2]
      rw [e]
      have d1 : decide ((48 : Int) ≤ v) = true := decide_eq_true (by omega)
      have d2 : decide ((v : Int) ≤ 57) = true := decide_eq_true (by omega)
      clear e
      go_enter Tryd.func100, Tryd.ntmps100
      go_wp2
      go_ret
      exact ⟨by simp_all, rfl⟩
    · have e : (decide (48 ≤ v) && decide (v ≤ 57)) = false := by simp [h2]
      rw [e]
      have d1 : decide ((48 : Int) ≤ v) = true := decide_eq_true (by omega)
      have d2 : decide ((v : Int) ≤ 57) = false := decide_eq_false (by omega)
      clear e
      go_enter Tryd.func100, Tryd.ntmps100
      go_wp2
      go_ret
      exact ⟨by simp_all, rfl⟩
  · have e : (decide (48 ≤ v) && decide (v ≤ 57)) = false := by simp [h1]
    rw [e]
    have d1 : decide ((48 : Int) ≤ v) = false := decide_eq_false (by omega)
    clear e
    go_enter Tryd.func100, Tryd.ntmps100
    go_wp2
    go_ret
    exact ⟨by simp_all, rfl⟩
end Go.Proofs.YtplcabecbofjpaaDoor
