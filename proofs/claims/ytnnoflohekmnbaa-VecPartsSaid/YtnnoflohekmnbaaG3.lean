/-
  VecParts: the numbers
-/
import Derived.Test.YtnnoflohekmnbaaProg
import Derived.WalkKit
import Derived.WalkSpells
import Derived.WalkLawsBesides
import Derived.LoopN
import Derived.IntWalk
import Derived.Lib.Hide
import Derived.Test.YtnnoflohekmnbaaG2
import Derived.Laws.BitsAllLaws
import Derived.Laws.Externs
import Derived.BigQuiet
import Derived.BigRegion
import Derived.Deep.QuietTactic
import Derived.Deep.RegionWith
import Derived.Deep.RegionHeld3
import Derived.StillTailTactics
import Derived.RegionTactic
import Derived.ChangeAlike
import Derived.Deep.DeepCutAuto
set_option linter.unusedVariables false
namespace Go.Proofs.Ytnnoflohekmnbaa
open Go.RowKit
theorem cat_bit {W V N K i : Nat} (hs : W + V ≤ 128) (hK : K < 2 ^ V) (hi : i < W + V) : (f_cat W V N K).testBit i = if i < V then K.testBit i else N.testBit (i - V) := by
  unfold f_cat
  have hKb : ¬ i < V → K.testBit i = false := fun h => Nat.testBit_lt_two_pow (Nat.lt_of_lt_of_le hK (Nat.pow_le_pow_right (by omega) (by omega)))
  rw [Nat.testBit_mod_two_pow, Nat.testBit_or, Nat.testBit_mod_two_pow, Nat.testBit_mul_two_pow]
  have e2 : i < 128 := by omega
  by_cases h2 : i < V
  · have : ¬ V ≤ i := by omega
    simp [hi, h2, this]
  · have e1 : V ≤ i := by omega
    simp [hi, h2, e1, e2, hKb h2]
theorem catv_lt (W V N K : Nat) : f_cat W V N K < 2 ^ (W + V) := by unfold f_cat; exact Nat.mod_lt _ (Nat.two_pow_pos _)
theorem cat_eq {m t N : Nat} (hs : m + t ≤ 128) (hN : N < 2 ^ (m + t)) : f_cat m t (N / 2 ^ t % 2 ^ m) (N % 2 ^ t) = N := by
  apply Nat.eq_of_testBit_eq
  intro i
  by_cases h : i < m + t
  · rw [cat_bit hs (Nat.mod_lt _ (Nat.two_pow_pos _)) h]
    by_cases h2 : i < t
    · rw [if_pos h2, Nat.testBit_mod_two_pow]; simp [h2]
    · have e3 : i - t < m := by omega
      have e4 : i - t + t = i := by omega
      rw [if_neg h2, Nat.testBit_mod_two_pow, Nat.testBit_div_two_pow]
      simp [e3, e4]
  · rw [Nat.testBit_lt_two_pow (Nat.lt_of_lt_of_le hN (Nat.pow_le_pow_right (by omega) (by omega))), Nat.testBit_lt_two_pow (Nat.lt_of_lt_of_le (catv_lt _ _ _ _) (Nat.pow_le_pow_right (by omega) (by omega)))]
theorem ext_back {W m N : Nat} (hW : W ≤ 128) (hN : N < 2 ^ W) : f_ext W m N % 2 ^ W = N := by
  unfold f_ext
  apply Nat.eq_of_testBit_eq
  intro i
  have hNb : ¬ i < W → N.testBit i = false := fun h => Nat.testBit_lt_two_pow (Nat.lt_of_lt_of_le hN (Nat.pow_le_pow_right (by omega) (by omega)))
  have hp := Nat.two_pow_pos W
  have hq : 2 ^ W ≤ 2 ^ 128 := Nat.pow_le_pow_right (by omega) hW
  rw [Nat.testBit_mod_two_pow, Nat.testBit_mod_two_pow]
  by_cases h : i < W
  · have e : i < W + m := by omega
    by_cases hb : N.testBit (W - 1) = true
    · rw [if_pos hb, Nat.testBit_or, show 2 ^ 128 - 1 - (2 ^ W - 1) = 2 ^ 128 - (2 ^ W - 1 + 1) by omega, Nat.testBit_two_pow_sub_succ (by omega), Nat.testBit_two_pow_sub_one]
      simp [h, e]
    · rw [if_neg hb]; simp [h, e]
  · simp [h, hNb h]
theorem txt_cat {W V N K : Nat} (hs : W + V ≤ 128) (hK : K < 2 ^ V) : txt (W + V) (f_cat W V N K) = txt W N ++ txt V K := by
  unfold txt
  rw [ByteArray.mk_append_mk]
  have : txL (f_cat W V N K) (W + V) (W + V) = txL N W W ++ txL K V V := by
    unfold txL
    apply List.ext_getElem
    · simp
    · intro p h1 h2
      have hp : p < W + V := by simpa using h1
      rw [List.getElem_append]
      simp only [List.getElem_map, List.getElem_range, List.length_map, List.length_range]
      rw [if_pos (by omega), cat_bit hs hK (by omega)]
      by_cases h : p < W
      · have e1 : ¬ W + V - 1 - p < V := by omega
        have e2 : W ≤ p + W := by omega
        have e3 : W + V - 1 - p - V = W - 1 - p := by omega
        simp only [h, e1, e2, e3, dite_true, if_true, if_false]
      · have e1 : W + V - 1 - p < V := by omega
        have e2 : V ≤ p - W + V := by omega
        have e3 : V - 1 - (p - W) = W + V - 1 - p := by omega
        simp only [h, e1, e2, e3, dite_false, if_true]
  rw [this]
theorem txt_size (W N : Nat) : (txt W N).size = W := by simp [txt, ByteArray.size, txL_len]
end Go.Proofs.Ytnnoflohekmnbaa
