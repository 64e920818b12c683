/-
  Rows of bits as numbers, the lowest first. Nothing is assumed.
-/
import Derived.Test.YtnnoflohekmnbaaProg
import Derived.WalkKit
import Derived.WalkSpells
import Derived.WalkLawsBesides
import Derived.LoopN
import Derived.IntWalk
import Derived.Lib.Hide
import Derived.Test.YtnnoflohekmnbaaB3
import Derived.Laws.BitsAllLaws
import Derived.Laws.Externs
import Derived.BigQuiet
import Derived.BigRegion
import Derived.Deep.QuietTactic
import Derived.Deep.RegionWith
import Derived.Deep.RegionHeld3
import Derived.StillTailTactics
import Derived.RegionTactic
import Derived.ChangeAlike
set_option linter.unusedVariables false
namespace Go.Proofs.Ytnnoflohekmnbaa
open Go.RowKit
/-- The number that bits tell, the lowest first. -/
def nb : List Bool → Nat
  | [] => 0
  | b :: t => bn b + 2 * nb t
/-- The W lowest bits of a number. -/
def bl (W N : Nat) : List Bool := (List.range W).map (fun i => N.testBit i)
theorem bl_len (W N : Nat) : (bl W N).length = W := by simp [bl]
theorem bn_le (b : Bool) : bn b ≤ 1 := by cases b <;> decide
theorem nb_lt : ∀ l : List Bool, nb l < 2 ^ l.length
  | [] => by decide
  | b :: t => by
    have := nb_lt t
    have := bn_le b
    simp only [nb, List.length_cons, Nat.pow_succ]
    omega
theorem nb_bit : ∀ (l : List Bool) (i : Nat), (nb l).testBit i = l.getD i false
  | [], i => by simp [nb]
  | b :: t, 0 => by
    simp only [nb, List.getD_cons_zero, Nat.testBit_zero]
    cases b <;> simp [bn] <;> omega
  | b :: t, i + 1 => by
    have e : (bn b + 2 * nb t) / 2 = nb t := by have := bn_le b; omega
    simp only [nb, List.getD_cons_succ, Nat.testBit_succ, e]
    exact nb_bit t i
theorem bl_get (W N i : Nat) : (bl W N).getD i false = (decide (i < W) && N.testBit i) := by
  by_cases h : i < W
  · simp [bl, List.getD_eq_getElem?_getD, h]
  · have : (bl W N).length ≤ i := by rw [bl_len]; omega
    simp [List.getD_eq_getElem?_getD, List.getElem?_eq_none this, h]
theorem nb_bl (W N : Nat) : nb (bl W N) = N % 2 ^ W := by
  apply Nat.eq_of_testBit_eq
  intro i
  rw [nb_bit, bl_get, Nat.testBit_mod_two_pow]
theorem nb_bl_lt {W N : Nat} (h : N < 2 ^ W) : nb (bl W N) = N := by rw [nb_bl, Nat.mod_eq_of_lt h]
theorem nb_inj {l r : List Bool} (h : l.length = r.length) (e : nb l = nb r) : l = r := by
  apply List.ext_getElem h
  intro i h1 h2
  have a := nb_bit l i
  have b := nb_bit r i
  rw [e, b] at a
  simpa [List.getD_eq_getElem?_getD, h1, h2] using a.symm
theorem nb_app : ∀ (l r : List Bool), nb (l ++ r) = nb l + 2 ^ l.length * nb r
  | [], r => by simp [nb]
  | b :: t, r => by
    simp only [List.cons_append, nb, nb_app t r, List.length_cons, Nat.pow_succ]
    rw [Nat.mul_comm (2 ^ t.length) 2, Nat.mul_assoc]
    omega
theorem nb_snoc (l : List Bool) (b : Bool) : nb (l ++ [b]) = nb l + 2 ^ l.length * bn b := by
  rw [nb_app]; simp [nb]
theorem take_succ_ (l : List Bool) (i : Nat) (h : i < l.length) : l.take (i + 1) = l.take i ++ [l.getD i false] := by
  rw [List.take_add_one, List.getD_eq_getElem?_getD]
  simp [h]
theorem nb_take (l : List Bool) (i : Nat) (h : i < l.length) : nb (l.take (i + 1)) = nb (l.take i) + 2 ^ i * bn (l.getD i false) := by
  rw [take_succ_ l i h, nb_snoc, List.length_take, Nat.min_eq_left (by omega)]
theorem nb_take_lt (l : List Bool) (i : Nat) : nb (l.take i) < 2 ^ i := by
  have := nb_lt (l.take i)
  rw [List.length_take] at this
  exact Nat.lt_of_lt_of_le this (Nat.pow_le_pow_right (by omega) (Nat.min_le_left _ _))
theorem drop_succ_ (l : List Bool) (i : Nat) (h : i < l.length) : l.drop i = l.getD i false :: l.drop (i + 1) := by
  rw [List.drop_eq_getElem_cons h]; simp [List.getD_eq_getElem?_getD, h]
theorem nb_drop (l : List Bool) (i : Nat) (h : i < l.length) : nb (l.drop i) = bn (l.getD i false) + 2 * nb (l.drop (i + 1)) := by
  rw [drop_succ_ l i h, nb]
theorem nb_drop_eq (l : List Bool) (i : Nat) : nb (l.drop i) = nb l / 2 ^ i := by
  apply Nat.eq_of_testBit_eq
  intro j
  rw [nb_bit, Nat.testBit_div_two_pow, nb_bit]
  simp [List.getD_eq_getElem?_getD, List.getElem?_drop, Nat.add_comm]
/-- All bits turned. -/
theorem nb_not : ∀ l : List Bool, nb (l.map (!·)) = 2 ^ l.length - 1 - nb l
  | [] => by decide
  | b :: t => by
    have h := nb_not t
    have := nb_lt t
    simp only [List.map_cons, nb, h, List.length_cons, Nat.pow_succ]
    cases b <;> simp [bn] <;> omega
theorem nb_rep_false (n : Nat) : nb (List.replicate n false) = 0 := by
  induction n with
  | zero => rfl
  | succ n ih => rw [List.replicate_succ, nb, ih]; rfl
theorem nb_set : ∀ (l : List Bool) (i : Nat), i < l.length → l.getD i false = false → nb (l.set i true) = nb l + 2 ^ i
  | [], i, h, _ => by simp at h
  | b :: t, 0, _, h => by
    simp only [List.getD_cons_zero] at h
    subst h
    simp [nb, bn]; omega
  | b :: t, i + 1, h, h0 => by
    simp only [List.length_cons] at h
    simp only [List.set_cons_succ, nb, nb_set t i (by omega) (by simpa using h0), Nat.pow_succ]
    omega
/-- One place of a sum. -/
theorem add_step (X P x y c : Nat) : X + P * ((x + y + c) % 2) + P * 2 * ((x + y + c) / 2) = X + P * c + P * x + P * y := by
  rw [Nat.mul_assoc, Nat.add_assoc, ← Nat.mul_add, Nat.mod_add_div, Nat.mul_add, Nat.mul_add]
  omega
theorem add_end (R S P c : Nat) (hR : R < P) (h : R + P * c = S) : R = S % P := by
  rw [← h, Nat.add_mul_mod_self_left, Nat.mod_eq_of_lt hR]
theorem less_same (x y P : Nat) : decide (x + P < y + P) = decide (x < y) := by
  by_cases h : x < y
  · rw [decide_eq_true h, decide_eq_true (by omega)]
  · rw [decide_eq_false h, decide_eq_false (by omega)]
theorem less_step (a b : List Bool) (i : Nat) (ha : i < a.length) (hb : i < b.length) :
    decide (nb (a.take (i + 1)) < nb (b.take (i + 1))) = if a.getD i false = b.getD i false then decide (nb (a.take i) < nb (b.take i)) else b.getD i false := by
  rw [nb_take a i ha, nb_take b i hb]
  have h1 := nb_take_lt a i
  have h2 := nb_take_lt b i
  cases hx : a.getD i false <;> cases hy : b.getD i false <;> simp [bn] <;> omega
theorem far_step (x L : Nat) (b : Bool) : min (min x (2 * L) * 2 + bn b) (2 * L) = min (bn b + 2 * x) (2 * L) := by
  have := bn_le b
  omega
theorem mul_step (R A B P i : Nat) (b : Bool) (h : R = A * B % P) (hb : b = true) : (R + A * 2 ^ i % P + bn false) % P = A * (B + 2 ^ i * bn b) % P := by
  subst hb
  rw [h]
  simp [bn, Nat.mul_add]
end Go.Proofs.Ytnnoflohekmnbaa
