/-
  VecShifts: numbers.
-/
import Derived.Test.YtnnoflohekmnbaaProg
import Derived.WalkKit
import Derived.WalkSpells
import Derived.WalkLawsBesides
import Derived.LoopN
import Derived.IntWalk
import Derived.Lib.Hide
import Derived.Laws.BitsAllLaws
import Derived.Laws.Externs
import Derived.BigQuiet
import Derived.BigRegion
import Derived.Deep.QuietTactic
import Derived.Deep.RegionWith
import Derived.Deep.RegionHeld3
import Derived.StillTailTactics
import Derived.RegionTactic
import Derived.ChangeAlike
import Derived.Test.YtnnoflohekmnbaaE1
import Derived.Test.YtnnoflohekmnbaaF1
set_option linter.unusedVariables false
namespace Go.Proofs.Ytnnoflohekmnbaa
open Go.RowKit
theorem sll_bit {W N K i : Nat} (h : W ≤ 128) (hK : K < W) (hi : i < W) : (f_sll W N K).testBit i = (decide (K ≤ i) && N.testBit (i - K)) := by
  unfold f_sll
  rw [mm128 _ h, Nat.testBit_mod_two_pow, Nat.min_eq_left (by omega), Nat.mul_comm, Nat.testBit_two_pow_mul]
  simp [hi]
theorem srl_bit {W N K i : Nat} (h : W ≤ 128) (hK : K < W) (hi : i < W) : (f_srl W N K).testBit i = N.testBit (i + K) := by
  unfold f_srl
  rw [Nat.testBit_mod_two_pow, Nat.min_eq_left (by omega), Nat.testBit_div_two_pow]
  simp [hi, Nat.add_comm]
theorem bit_past {W N i : Nat} (hN : N < 2 ^ W) (hi : W ≤ i) : N.testBit i = false := Nat.testBit_lt_two_pow (Nat.lt_of_lt_of_le hN (Nat.pow_le_pow_right (by omega) hi))
theorem sra_bit {W N K i : Nat} (h : W ≤ 128) (hN : N < 2 ^ W) (hK : K < W) (hi : i < W) : (f_sra W N K).testBit i = N.testBit (min (i + K) (W - 1)) := by
  unfold f_sra sraS
  rw [Nat.testBit_mod_two_pow, Nat.min_eq_left (show K ≤ W by omega)]
  have hi' : decide (i < W) = true := decide_eq_true hi
  rw [hi', Bool.true_and]
  cases ht : N.testBit (W - 1)
  · simp only [Bool.false_eq_true, if_false]
    rw [Nat.testBit_div_two_pow]
    by_cases hc : i + K < W
    · rw [Nat.min_eq_left (by omega), Nat.add_comm]
    · rw [Nat.min_eq_right (by omega), ht]
      exact bit_past hN (by omega)
  · simp only [if_true]
    have hx : N ^^^ (2 ^ W - 1) < 2 ^ W := Nat.xor_lt_two_pow hN (by have := Nat.two_pow_pos W; omega)
    have hm : (N ^^^ (2 ^ W - 1)) / 2 ^ K < 2 ^ 128 := Nat.lt_of_le_of_lt (Nat.div_le_self _ _) (Nat.lt_of_lt_of_le hx (Nat.pow_le_pow_right (by omega) h))
    rw [Nat.sub_sub, Nat.add_comm 1, Nat.testBit_two_pow_sub_succ hm, Nat.testBit_div_two_pow, Nat.testBit_xor, Nat.testBit_two_pow_sub_one]
    rw [show decide (i < 128) = true from decide_eq_true (by omega), Bool.true_and]
    by_cases hc : i + K < W
    · rw [Nat.min_eq_left (by omega)]
      simp [Nat.add_comm, show K + i < W by omega]
    · rw [Nat.min_eq_right (by omega), ht, bit_past hN (by omega)]
      simp; omega
theorem sll_one {W N : Nat} (h : W ≤ 128) (h1 : 2 ≤ W) : f_sll W N 1 = f_add W N N := by
  unfold f_sll f_add
  rw [Nat.min_eq_left (by omega), show N * 2 ^ 1 = N + N by omega]
theorem sll_zero {W N : Nat} (h : W ≤ 128) (hN : N < 2 ^ W) : f_sll W N 0 = N := by
  unfold f_sll
  rw [mm128 _ h, Nat.min_eq_left (by omega), Nat.pow_zero, Nat.mul_one, Nat.mod_eq_of_lt hN]
theorem sra_zero {W N : Nat} (h : W ≤ 128) (h1 : 2 ≤ W) (hN : N < 2 ^ W) : f_sra W N 0 = N := by
  refine Nat.eq_of_testBit_eq fun i => ?_
  by_cases hi : i < W
  · rw [sra_bit h hN (by omega) hi, Nat.min_eq_left (by omega), Nat.add_zero]
  · rw [bit_past hN (by omega)]
    unfold f_sra
    rw [Nat.testBit_mod_two_pow]
    simp [hi]
theorem tb_sll {W N K : Nat} (h : W ≤ 128) (hK : K < W) {i : Nat} (hi : i < W) : tb (f_sll W N K) (i : Int) = (decide (K ≤ i) && tb N ((i : Int) - (K : Int))) := by
  unfold tb
  rw [if_neg (by omega), Int.toNat_natCast, sll_bit h hK hi]
  by_cases hk : K ≤ i
  · rw [if_neg (by omega), show ((i : Int) - (K : Int)).toNat = i - K by omega]
  · simp [hk]
theorem tb_srl {W N K : Nat} (h : W ≤ 128) (hK : K < W) {i : Nat} (hi : i < W) : tb (f_srl W N K) (i : Int) = tb N ((i : Int) + (K : Int)) := by
  unfold tb
  rw [if_neg (by omega), if_neg (by omega), Int.toNat_natCast, srl_bit h hK hi, show ((i : Int) + (K : Int)).toNat = i + K by omega]
theorem tb_sra {W N K : Nat} (h : W ≤ 128) (hN : N < 2 ^ W) (hK : K < W) {i : Nat} (hi : i < W) (m : Int) (hm : m = if (i : Int) + (K : Int) < (W : Int) - 1 then (i : Int) + (K : Int) else (W : Int) - 1) : tb (f_sra W N K) (i : Int) = tb N m := by
  subst hm
  unfold tb
  rw [if_neg (by omega), Int.toNat_natCast, sra_bit h hN hK hi]
  by_cases hc : (i : Int) + (K : Int) < (W : Int) - 1
  · rw [if_pos hc, if_neg (by omega), Nat.min_eq_left (by omega), show ((i : Int) + (K : Int)).toNat = i + K by omega]
  · rw [if_neg hc, if_neg (by omega), Nat.min_eq_right (by omega), show ((W : Int) - 1).toNat = W - 1 by omega]
theorem inc_next {W j K : Nat} (h : W ≤ 128) (hj : j < K) (hK : K < W) : f_inc W j = j + 1 := by
  have : j + 1 < 2 ^ W := Nat.lt_of_le_of_lt (show j + 1 ≤ W by omega) Nat.lt_two_pow_self
  unfold f_inc
  rw [mm128 _ h, Nat.mod_eq_of_lt this]
theorem O_zero {w : World} {ad : Addr} {c W N : Nat} (h : Vc w w.heap.size ad c W N) : Calls Try.prog 32 #[.string ⟨#[115, 117, 98]⟩, .agg #[.int .i64 W, .slice (some ad) (lm W) c], .agg #[.int .i64 W, .slice (some ad) (lm W) c]] w (RetVec w W 0) := by
  have hh := O_sub h h
  rwa [sub_self_ N h.w2] at hh
theorem O_next {w : World} {ad : Addr} {c W j K : Nat} (h : Vc w w.heap.size ad c W j) (hj : j < K) (hK : K < W) : Calls Try.prog 22 #[.string ⟨#[105, 110, 99]⟩, .agg #[.int .i64 W, .slice (some ad) (lm W) c]] w (RetVE w W (j + 1)) := by
  have hh := U_inc h
  rwa [inc_next h.w2 hj hK] at hh
theorem Duo.store {w : World} {g : Nat} {x y : Value} (h : Duo w g x y) (u v : Value) : Duo ((w.setCell ⟨g, 0, none⟩ u).setCell ⟨g, 1, none⟩ v) g u v := by
  obtain ⟨h1, h2, h3, h4⟩ := h
  refine ⟨?_, ?_, by simp [h3], by simp [h4]⟩
  · rw [World.cell?_setCell_other _ _ _ _ (by simp)]; exact World.cell?_setCell_same _ _ _ h1
  · exact World.cell?_setCell_same _ _ _ ((World.cell?_setCell_other _ _ _ _ (by simp)).trans h2)
end Go.Proofs.Ytnnoflohekmnbaa
