/-
  ring: the numbers
-/
import Derived.Test.YtnnoflohekmnbaaProg
import Derived.WalkKit
import Derived.WalkSpells
import Derived.WalkLawsBesides
import Derived.LoopN
import Derived.IntWalk
import Derived.Lib.Hide
import Derived.Test.YtnnoflohekmnbaaE3
import Derived.Laws.BitsAllLaws
import Derived.Laws.Externs
import Derived.BigQuiet
import Derived.BigRegion
import Derived.Deep.QuietTactic
import Derived.Deep.RegionWith
import Derived.Deep.RegionHeld3
import Derived.StillTailTactics
import Derived.RegionTactic
import Derived.ChangeAlike
import Derived.Deep.DeepCutAuto
set_option linter.unusedVariables false
namespace Go.Proofs.Ytnnoflohekmnbaa
open Go.RowKit
theorem f_add_eq (N K : Nat) {W : Nat} (h : W ≤ 128) : f_add W N K = (N + K) % 2 ^ W := by unfold f_add; exact mm128 _ h
theorem f_mul_eq (N K : Nat) {W : Nat} (h : W ≤ 128) : f_mul W N K = (N * K) % 2 ^ W := by unfold f_mul; exact mm128 _ h
theorem f_sub_eq (N K : Nat) {W : Nat} (h : W ≤ 128) : f_sub W N K = (N + 2 ^ 128 - K) % 2 ^ W := by unfold f_sub sb; exact mm128 _ h
theorem add_c (N K : Nat) {W : Nat} (h : W ≤ 128) : f_add W N K = f_add W K N := by rw [f_add_eq _ _ h, f_add_eq _ _ h, Nat.add_comm]
theorem mul_c (N K : Nat) {W : Nat} (h : W ≤ 128) : f_mul W N K = f_mul W K N := by rw [f_mul_eq _ _ h, f_mul_eq _ _ h, Nat.mul_comm]
theorem add_a (N K M : Nat) {W : Nat} (h : W ≤ 128) : f_add W (f_add W N K) M = f_add W N (f_add W K M) := by
  rw [f_add_eq _ _ h, f_add_eq _ _ h, f_add_eq _ _ h, f_add_eq _ _ h, Nat.mod_add_mod, Nat.add_mod_mod, Nat.add_assoc]
theorem mul_a (N K M : Nat) {W : Nat} (h : W ≤ 128) : f_mul W (f_mul W N K) M = f_mul W N (f_mul W K M) := by
  rw [f_mul_eq _ _ h, f_mul_eq _ _ h, f_mul_eq _ _ h, f_mul_eq _ _ h, Nat.mod_mul_mod, Nat.mul_mod_mod, Nat.mul_assoc]
theorem mul_d (N K M : Nat) {W : Nat} (h : W ≤ 128) : f_mul W (f_add W N K) M = f_add W (f_mul W N M) (f_mul W K M) := by
  rw [f_mul_eq _ _ h, f_add_eq _ _ h, f_add_eq _ _ h, f_mul_eq _ _ h, f_mul_eq _ _ h, Nat.mod_mul_mod, Nat.mod_add_mod, Nat.add_mod_mod, Nat.add_mul]
theorem sub_self_ (N : Nat) {W : Nat} (h : W ≤ 128) : f_sub W N N = 0 := by
  rw [f_sub_eq _ _ h, show N + 2 ^ 128 - N = 2 ^ 128 by omega]
  exact Nat.mod_eq_zero_of_dvd (pow_dvd128 h)
theorem add_sub {W N K : Nat} (h : W ≤ 128) (hN : N < 2 ^ W) (hK : K < 2 ^ W) : f_sub W (f_add W N K) K = N := by
  rw [f_sub_eq _ _ h, f_add_eq _ _ h]
  have hl := lt128 h hK
  rw [show (N + K) % 2 ^ W + 2 ^ 128 - K = (N + K) % 2 ^ W + (2 ^ 128 - K) by omega, Nat.mod_add_mod, show N + K + (2 ^ 128 - K) = N + 2 ^ 128 by omega]
  obtain ⟨q, hq⟩ := pow_dvd128 h
  rw [hq, Nat.add_mul_mod_self_left, Nat.mod_eq_of_lt hN]
theorem div_zero_ {W N : Nat} (h : W ≤ 128) (hN : N < 2 ^ W) : f_udiv W N 0 = f_not W 0 := by
  unfold f_udiv f_not
  rw [dv_q _ _ (lt128 h hN) (Nat.two_pow_pos 128)]
  unfold qS
  rw [if_pos rfl, Nat.sub_zero]
theorem rem_zero_ {W N : Nat} (h : W ≤ 128) (hN : N < 2 ^ W) : f_urem W N 0 = N := by
  unfold f_urem
  rw [dv_r _ _ (lt128 h hN) (Nat.two_pow_pos 128)]
  unfold rS
  rw [if_pos rfl, Nat.mod_eq_of_lt hN]
theorem f_udiv_eq {W N K : Nat} (h : W ≤ 128) (hN : N < 2 ^ W) (hK : K < 2 ^ W) (h0 : K ≠ 0) : f_udiv W N K = N / K := by
  unfold f_udiv
  rw [dv_q _ _ (lt128 h hN) (lt128 h hK)]
  unfold qS
  rw [if_neg h0, Nat.mod_eq_of_lt (Nat.lt_of_le_of_lt (Nat.div_le_self N K) hN)]
theorem f_urem_eq {W N K : Nat} (h : W ≤ 128) (hN : N < 2 ^ W) (hK : K < 2 ^ W) (h0 : K ≠ 0) : f_urem W N K = N % K := by
  unfold f_urem
  rw [dv_r _ _ (lt128 h hN) (lt128 h hK)]
  unfold rS
  rw [if_neg h0, Nat.mod_eq_of_lt (Nat.lt_of_le_of_lt (Nat.mod_le N K) hN)]
theorem div_back {W N K : Nat} (h : W ≤ 128) (hN : N < 2 ^ W) (hK : K < 2 ^ W) (h0 : K ≠ 0) : f_add W (f_mul W (f_udiv W N K) K) (f_urem W N K) = N := by
  rw [f_add_eq _ _ h, f_mul_eq _ _ h, f_udiv_eq h hN hK h0, f_urem_eq h hN hK h0, Nat.mod_add_mod, Nat.div_add_mod', Nat.mod_eq_of_lt hN]
theorem rem_less {W N K : Nat} (h : W ≤ 128) (hN : N < 2 ^ W) (hK : K < 2 ^ W) (h0 : K ≠ 0) : tb (bn (decide (f_urem W N K < K))) 0 = true := by
  rw [f_urem_eq h hN hK h0, decide_eq_true (Nat.mod_lt N (Nat.pos_of_ne_zero h0))]
  rfl
end Go.Proofs.Ytnnoflohekmnbaa
