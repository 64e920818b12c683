/-
  vidimusref01.Row over the translated program: of two slices that hold the same bytes it returns true, and only draws.
-/
import Derived.Test.YtfimacfpgcdekaaDoorW9
import Derived.Deep.QuietTactic
import Derived.BigQuiet
set_option linter.unusedVariables false
namespace Go.Proofs.YtfimacfpgcdekaaDoor
open Go.RowKit
theorem Rd.drewN {w : World} {B : Nat} {A : Option Addr} {l : List UInt8} (h : Rd w B A l) (q : Nat) : Rd (w.drewN q) B A l := h
set_option maxHeartbeats 800000 in
theorem Row_yes (A A' : Option Addr) (c c' : Nat) (l : List UInt8) (B B' : Nat) (w : World) (h : Rd w B A l) (h' : Rd w B' A' l) (hn : l.length ≤ maxLen) :
    Calls Tryd.prog 16 #[.slice A l.length c, .slice A' l.length c'] w fun e w' => e = .returned (.bool true) ∧ ∃ n, w' = w.drewN n := by
  unfold maxLen at hn
  have hne : ((l.length : Int) != (l.length : Int)) = false := by simp
  have HR : Hid (Rd w B A l ∧ Rd w B' A' l) := ⟨h, h'⟩
  clear h h'
  go_enter Tryd.func16, Tryd.ntmps16
  go_wp2
  go_loopw [5] (fun i wr => ∃ (j q : Nat), j ≤ l.length ∧ i = .int .i64 j ∧ wr = w.drewN q) (fun i _ => l.length - (intOf i).toNat)
  case atStart => exact ⟨0, 0, Nat.zero_le _, rfl, rfl⟩
  case round =>
    obtain ⟨j, q, hj, rfl, rfl⟩ := hrel
    by_cases hlt : j < l.length
    · obtain ⟨a1, rfl, _, hc1⟩ := HR.out.1 j hlt
      obtain ⟨a2, rfl, _, hc2⟩ := HR.out.2 j hlt
      have hlt' : (j : Int) < l.length := by omega
      generalize l.getD j 0 = v at *
      have hvv : ((v.toNat : Int) != (v.toNat : Int)) = false := by simp
      go_wp2
      go_quiet (fail)
      go_wp2
      go_roundw
      case rel => exact ⟨j + 1, _, by omega, by go_num, rfl⟩
      case measure => simp [intOf]; omega
    · go_wp2
      go_ret
      exact ⟨rfl, q, rfl⟩
end Go.Proofs.YtfimacfpgcdekaaDoor
