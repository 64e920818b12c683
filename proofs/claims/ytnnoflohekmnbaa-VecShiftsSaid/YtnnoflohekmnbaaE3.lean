/-
  bits: the numbers
-/
import Derived.Test.YtnnoflohekmnbaaProg
import Derived.WalkKit
import Derived.WalkSpells
import Derived.WalkLawsBesides
import Derived.LoopN
import Derived.IntWalk
import Derived.Lib.Hide
import Derived.Test.YtnnoflohekmnbaaE2
import Derived.Laws.BitsAllLaws
import Derived.Laws.Externs
import Derived.BigQuiet
import Derived.BigRegion
import Derived.Deep.QuietTactic
import Derived.Deep.RegionWith
import Derived.Deep.RegionHeld3
import Derived.StillTailTactics
import Derived.RegionTactic
import Derived.ChangeAlike
import Derived.Deep.DeepCutAuto
set_option linter.unusedVariables false
namespace Go.Proofs.Ytnnoflohekmnbaa
open Go.RowKit
theorem pow_dvd128 {W : Nat} (h : W ≤ 128) : 2 ^ W ∣ 2 ^ 128 := Nat.pow_dvd_pow 2 h
theorem mm128 (x : Nat) {W : Nat} (h : W ≤ 128) : x % 2 ^ 128 % 2 ^ W = x % 2 ^ W := Nat.mod_mod_of_dvd x (pow_dvd128 h)
theorem lt128 {N W : Nat} (h : W ≤ 128) (hN : N < 2 ^ W) : N < 2 ^ 128 := Nat.lt_of_lt_of_le hN (Nat.pow_le_pow_right (by omega) h)
theorem not_bit {W N : Nat} (h : W ≤ 128) (hN : N < 2 ^ W) (i : Nat) : (f_not W N).testBit i = (decide (i < W) && !N.testBit i) := by
  have hl := lt128 h hN
  unfold f_not
  rw [show 2 ^ 128 - 1 - N = 2 ^ 128 - (N + 1) by omega, Nat.testBit_mod_two_pow, Nat.testBit_two_pow_sub_succ hl]
  by_cases hi : i < W
  · have : i < 128 := by omega
    simp [hi, this]
  · simp [hi]
theorem and_bit (W N K i : Nat) : (f_and W N K).testBit i = (decide (i < W) && (N.testBit i && K.testBit i)) := by
  unfold f_and; rw [Nat.testBit_mod_two_pow, Nat.testBit_and]
theorem or_bit (W N K i : Nat) : (f_or W N K).testBit i = (decide (i < W) && (N.testBit i || K.testBit i)) := by
  unfold f_or; rw [Nat.testBit_mod_two_pow, Nat.testBit_or]
theorem xor_bit (W N K i : Nat) : (f_xor W N K).testBit i = (decide (i < W) && (N.testBit i ^^ K.testBit i)) := by
  unfold f_xor; rw [Nat.testBit_mod_two_pow, Nat.testBit_xor]
theorem tb_nat (N : Nat) (i : Int) (h : 0 ≤ i) : tb N i = N.testBit i.toNat := by unfold tb; rw [if_neg (by omega)]
theorem modW (W x : Nat) : x % 2 ^ W < 2 ^ W := Nat.mod_lt _ (Nat.two_pow_pos W)
theorem dec_inc {W N : Nat} (h : W ≤ 128) (hN : N < 2 ^ W) : f_dec W (f_inc W N) = N := by
  unfold f_dec f_inc sb
  rw [mm128 _ h, mm128 _ h]
  obtain ⟨q, hq⟩ := pow_dvd128 h
  have hq0 : q ≠ 0 := by intro e; rw [e, Nat.mul_zero] at hq; exact absurd hq (Nat.ne_of_gt (Nat.two_pow_pos 128))
  rw [hq]
  generalize 2 ^ W = P at *
  obtain ⟨r, rfl⟩ := Nat.exists_eq_succ_of_ne_zero hq0
  have hm : P * (r + 1) = P * r + P := Nat.mul_succ P r
  rw [Nat.succ_eq_add_one, hm]
  by_cases hl : N + 1 < P
  · rw [Nat.mod_eq_of_lt hl, show N + 1 + (P * r + P) - 1 = N + P * (r + 1) by rw [hm]; omega, Nat.add_mul_mod_self_left, Nat.mod_eq_of_lt hN]
  · have e : N + 1 = P := by omega
    rw [e, Nat.mod_self, show 0 + (P * r + P) - 1 = N + P * r by omega, Nat.add_mul_mod_self_left, Nat.mod_eq_of_lt hN]
theorem neg_inc {W N : Nat} (h : W ≤ 128) (hN : N < 2 ^ W) : f_neg W N = f_inc W (f_not W N) := by
  have hl := lt128 h hN
  unfold f_neg f_inc f_not sb
  rw [mm128 _ h, mm128 _ h, Nat.mod_add_mod]
  congr 1
  omega
theorem de_morgan {W N K : Nat} (h : W ≤ 128) (hN : N < 2 ^ W) (hK : K < 2 ^ W) : f_or W (f_not W N) (f_not W K) = f_not W (f_and W N K) := by
  apply Nat.eq_of_testBit_eq
  intro i
  rw [or_bit, not_bit h hN, not_bit h hK, not_bit h (by unfold f_and; exact modW _ _), and_bit]
  by_cases hi : i < W
  · simp [hi]
  · simp [hi]
theorem bits_in {w : World} {ad ad' : Addr} {c c' W N K : Nat} (h : Vc w w.heap.size ad c W N) (h' : Vc w w.heap.size ad' c' W K) (i : Int) (h0 : 0 ≤ i) (h1 : i < W) :
    Calls Try.prog 7 #[.agg #[.int .i64 W, .slice (some ad) (lm W) c], .agg #[.int .i64 W, .slice (some ad') (lm W) c'], .int .i64 i] w (RetV w (.bool true)) := by
  have w2 := h.w2
  have hN := h.n
  have hK := h'.n
  have hi : i.toNat < W := by omega
  refine bits_main h h' i (decide_eq_false (by omega)) (decide_eq_false (by omega)) _ _ (Lib.hid rfl) (Lib.hid rfl) (Lib.hid ?_) (Lib.hid ?_) (Lib.hid ?_) (Lib.hid ?_) (Lib.hid (dec_inc w2 hN)) (Lib.hid (neg_inc w2 hN)) (Lib.hid (de_morgan w2 hN hK))
  · rw [tb_nat _ _ h0, tb_nat _ _ h0, not_bit w2 hN]; simp [hi]
  · rw [tb_nat _ _ h0, tb_nat _ _ h0, tb_nat _ _ h0, and_bit]; simp [hi]
  · rw [tb_nat _ _ h0, tb_nat _ _ h0, tb_nat _ _ h0, or_bit]; simp [hi]
  · rw [tb_nat _ _ h0, tb_nat _ _ h0, tb_nat _ _ h0, xor_bit]; simp [hi]
end Go.Proofs.Ytnnoflohekmnbaa
