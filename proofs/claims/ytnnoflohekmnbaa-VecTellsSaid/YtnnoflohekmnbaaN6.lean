/-
  The document's division of bits, as numbers. Nothing is assumed.
-/
import Derived.Test.YtnnoflohekmnbaaProg
import Derived.WalkKit
import Derived.WalkSpells
import Derived.WalkLawsBesides
import Derived.LoopN
import Derived.IntWalk
import Derived.Lib.Hide
import Derived.Test.YtnnoflohekmnbaaN5
import Derived.Laws.BitsAllLaws
import Derived.Laws.Externs
import Derived.BigQuiet
import Derived.BigRegion
import Derived.Deep.QuietTactic
import Derived.Deep.RegionWith
import Derived.Deep.RegionHeld3
import Derived.StillTailTactics
import Derived.RegionTactic
import Derived.ChangeAlike
set_option linter.unusedVariables false
namespace Go.Proofs.Ytnnoflohekmnbaa
open Go.RowKit
/-- What is left, and how often, of the bits so far. -/
def rD (K P : Nat) : Nat := if K = 0 then P else P % K
def qD (K P m : Nat) : Nat := if K = 0 then 2 ^ m - 1 else P / K
theorem div_expand (K T b : Nat) : 2 * T + b = K * (2 * (T / K)) + (2 * (T % K) + b) := by
  have := Nat.div_add_mod T K
  rw [← Nat.mul_assoc, Nat.mul_comm K 2, Nat.mul_assoc]
  omega
theorem div_lt (K T b m : Nat) (hb : b ≤ 1) (h : 2 * rD K T + b < K) : rD K (2 * T + b) = 2 * rD K T + b ∧ qD K (2 * T + b) (m + 1) = 2 * qD K T m := by
  have hK : K ≠ 0 := by omega
  unfold rD qD at *
  simp only [if_neg hK] at *
  rw [div_expand K T b, Nat.mul_add_mod, Nat.mod_eq_of_lt h, Nat.mul_add_div (by omega), Nat.div_eq_of_lt h]
  exact ⟨rfl, rfl⟩
theorem div_ge (K T b m : Nat) (hb : b ≤ 1) (h : ¬ 2 * rD K T + b < K) : rD K (2 * T + b) = 2 * rD K T + b - K ∧ qD K (2 * T + b) (m + 1) = 2 * qD K T m + 1 := by
  unfold rD qD at *
  by_cases hK : K = 0
  · subst hK
    simp only [if_pos]
    have : 0 < 2 ^ m := Nat.pow_pos (by omega)
    rw [Nat.pow_succ]
    omega
  · simp only [if_neg hK] at *
    have h1 : T % K < K := Nat.mod_lt _ (by omega)
    have h2 : 2 * (T % K) + b - K < K := by omega
    have e : 2 * T + b = K * (2 * (T / K) + 1) + (2 * (T % K) + b - K) := by rw [div_expand K T b, Nat.mul_add K, Nat.mul_one]; omega
    rw [e, Nat.mul_add_mod, Nat.mod_eq_of_lt h2, Nat.mul_add_div (by omega), Nat.div_eq_of_lt h2]
    exact ⟨rfl, rfl⟩
theorem div_fits (W K T b : Nat) (hb : b ≤ 1) (hK : K < 2 ^ W) (hT : 2 * T + b < 2 ^ W) : 2 * rD K T + b < 2 ^ (W + 1) := by
  unfold rD
  rw [Nat.pow_succ]
  by_cases h : K = 0
  · rw [if_pos h]; omega
  · rw [if_neg h]; have : T % K < K := Nat.mod_lt _ (by omega); omega
theorem sub_num (R K P : Nat) (h : K ≤ R) (hR : R < P) : (R + (P - 1 - K) + bn true) % P = R - K := by
  have : R + (P - 1 - K) + bn true = R - K + P := by simp [bn]; omega
  rw [this, Nat.add_mod_right, Nat.mod_eq_of_lt (by omega)]
theorem bit_low (N i Q : Nat) (h : N = 2 ^ (i + 1) * Q) : N.testBit i = false := by
  rw [h, Nat.mul_comm, Nat.testBit_mul_two_pow]
  simp; omega
theorem q_step (q : List Bool) (k Q : Nat) (h : nb q = 2 ^ (k + 1) * Q) (hk : k < q.length) : nb (q.set k true) = 2 ^ k * (2 * Q + 1) := by
  rw [nb_set q k hk (by rw [← nb_bit]; exact bit_low _ _ _ h), h, Nat.pow_succ, Nat.mul_add, Nat.mul_assoc]
  omega
theorem q_same (k Q N : Nat) (h : N = 2 ^ (k + 1) * Q) : N = 2 ^ k * (2 * Q) := by
  rw [h, Nat.pow_succ, Nat.mul_assoc]
/-- A slice's own place, all of its cells in blocks from g on. -/
def Past (g : Nat) (A : Option Addr) : Prop := ∀ ad, A = some ad → g < ad.block
theorem slice_hB (A : Option Addr) (n c k : Nat) (h0 : k ≤ c) (hk : 0 < k) (w : World) :
    (Instr.slice 65 (.slice A n c) none (some (.int .i64 k)) none).run Try.prog w = .ok (.slice A k c) w := by
  have u65 : Try.prog.underlying 65 = some (.slice (Try.prog.elem 65)) := by kernel_rfl
  rw [run_slice_h w 65 A n c u65 .i64 k (by omega) (by omega)]
  have e : Try.prog.elem 65 = 4 := by kernel_rfl
  have hs : (Try.prog.info? 4).map (·.size) = some 1 := by kernel_rfl
  obtain ⟨i, hi, hs⟩ := Option.map_eq_some_iff.1 hs
  rw [e]
  have : c ≠ 0 := by omega
  cases A <;> simp [sizeOf, typeInfo, hi, Result.andThen, sliced, Addr.add]
end Go.Proofs.Ytnnoflohekmnbaa
