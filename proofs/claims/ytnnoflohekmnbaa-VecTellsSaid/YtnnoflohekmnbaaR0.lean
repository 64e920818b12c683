/-
  Rows of bits cut, and made longer, as numbers.
-/
import Derived.Test.YtnnoflohekmnbaaProg
import Derived.WalkKit
import Derived.WalkSpells
import Derived.WalkLawsBesides
import Derived.LoopN
import Derived.IntWalk
import Derived.Lib.Hide
import Derived.Laws.BitsAllLaws
import Derived.Laws.Externs
import Derived.BigQuiet
import Derived.BigRegion
import Derived.Deep.QuietTactic
import Derived.Deep.RegionWith
import Derived.Deep.RegionHeld3
import Derived.StillTailTactics
import Derived.RegionTactic
import Derived.ChangeAlike
import Derived.Test.YtnnoflohekmnbaaN1
set_option linter.unusedVariables false
namespace Go.Proofs.Ytnnoflohekmnbaa
open Go.RowKit
theorem nb_cut (l : List Bool) (lo m : Nat) (h : lo + m ≤ l.length) : nb ((l.drop lo).take m) = nb l / 2 ^ lo % 2 ^ m := by
  refine Nat.eq_of_testBit_eq fun i => ?_
  rw [nb_bit, Nat.testBit_mod_two_pow, Nat.testBit_div_two_pow, nb_bit]
  by_cases hi : i < m
  · simp only [List.getD_eq_getElem?_getD, List.getElem?_take, List.getElem?_drop]
    rw [if_pos hi]
    simp [hi, Nat.add_comm]
  · simp [List.getD_eq_getElem?_getD, List.getElem?_take, hi]
theorem nb_falses (n : Nat) : nb (List.replicate n false) = 0 := by
  refine Nat.eq_of_testBit_eq fun i => ?_
  rw [nb_bit, Nat.zero_testBit, List.getD_eq_getElem?_getD, List.getElem?_replicate]
  split <;> rfl
theorem ext_low (l : List Bool) (n : Nat) : nb (l ++ List.replicate n false) = nb l % 2 ^ (l.length + n) := by
  rw [nb_app, nb_falses, Nat.mul_zero, Nat.add_zero, Nat.mod_eq_of_lt]
  exact Nat.lt_of_lt_of_le (nb_lt l) (Nat.pow_le_pow_right (by omega) (by omega))
theorem ext_high (l : List Bool) (n : Nat) (h : l.length + n ≤ 128) : nb (l ++ List.replicate n true) = (nb l ||| (2 ^ 128 - 1 - (2 ^ l.length - 1))) % 2 ^ (l.length + n) := by
  refine Nat.eq_of_testBit_eq fun i => ?_
  have hm : 2 ^ l.length - 1 < 2 ^ 128 := Nat.lt_of_lt_of_le (Nat.sub_lt (Nat.two_pow_pos _) (by omega)) (Nat.pow_le_pow_right (by omega) (by omega))
  rw [nb_bit, Nat.testBit_mod_two_pow, Nat.testBit_or, Nat.sub_sub, Nat.add_comm 1, Nat.testBit_two_pow_sub_succ hm, Nat.testBit_two_pow_sub_one, nb_bit]
  by_cases h1 : i < l.length
  · have e : (l ++ List.replicate n true).getD i false = l.getD i false := by
      rw [List.getD_eq_getElem?_getD, List.getElem?_append_left h1, ← List.getD_eq_getElem?_getD]
    rw [e]
    simp [h1, show i < l.length + n by omega]
  · have e : (l ++ List.replicate n true).getD i false = decide (i < l.length + n) := by
      rw [List.getD_eq_getElem?_getD, List.getElem?_append_right (show l.length ≤ i by omega), List.getElem?_replicate]
      by_cases h2 : i < l.length + n
      · rw [if_pos (by omega), decide_eq_true h2]; rfl
      · rw [if_neg (by omega), decide_eq_false h2]; rfl
    rw [e]
    have e2 : l.getD i false = false := by rw [List.getD_eq_getElem?_getD, List.getElem?_eq_none (by omega)]; rfl
    rw [e2]
    by_cases h2 : i < l.length + n
    · simp [h1, h2, show i < 128 by omega]
    · simp [h2]
end Go.Proofs.Ytnnoflohekmnbaa
