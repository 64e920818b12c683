/-
  Plain mathematics: how many bits of a number are 1, and how math/bits counts them. No program's text is looked at; nothing is assumed.
-/
import Derived.Laws.BitsAllLaws
set_option linter.unusedVariables false
namespace Go.Proofs.Ytnnoflohekmnbaa
/-- How many of the n lowest bits are 1. -/
def pc : Nat → Nat → Nat
  | 0, _ => 0
  | n + 1, x => x % 2 + pc n (x / 2)
theorem pc_le (n x : Nat) : pc n x ≤ n := by
  induction n generalizing x with
  | zero => simp [pc]
  | succ n ih => rw [pc]; have := ih (x / 2); omega
theorem pc_zero (n : Nat) : pc n 0 = 0 := by
  induction n with
  | zero => rfl
  | succ n ih => rw [pc, Nat.zero_div, ih]
theorem pc_add (m n x : Nat) : pc (m + n) x = pc m x + pc n (x / 2 ^ m) := by
  induction m generalizing x with
  | zero => simp [pc]
  | succ m ih =>
    have : m + 1 + n = (m + n) + 1 := by omega
    rw [this, pc, pc, ih, Nat.pow_succ, Nat.mul_comm, ← Nat.div_div_eq_div_mul]; omega
theorem pc_mod (m x : Nat) : pc m (x % 2 ^ m) = pc m x := by
  induction m generalizing x with
  | zero => rfl
  | succ m ih =>
    rw [pc, pc]
    have e1 : x % 2 ^ (m + 1) % 2 = x % 2 := by rw [Nat.pow_succ, Nat.mul_comm, Nat.mod_mul_right_mod]
    have e2 : x % 2 ^ (m + 1) / 2 = x / 2 % 2 ^ m := by rw [Nat.pow_succ, Nat.mul_comm, Nat.mod_mul_right_div_self]
    rw [e1, e2, ih]
theorem and_cat (u m X Y : Nat) (hu : u < 256) (hm : m < 256) : (u + 256 * X) &&& (m + 256 * Y) = (u &&& m) + 256 * (X &&& Y) := by
  have e1 : u + 256 * X = 2 ^ 8 * X + u := by omega
  have e2 : m + 256 * Y = 2 ^ 8 * Y + m := by omega
  have e3 : (u &&& m) + 256 * (X &&& Y) = 2 ^ 8 * (X &&& Y) + (u &&& m) := by omega
  have h3 : u &&& m < 2 ^ 8 := Nat.lt_of_le_of_lt Nat.and_le_left hu
  rw [e1, e2, e3]
  apply Nat.eq_of_testBit_eq
  intro i
  rw [Nat.testBit_and, Nat.testBit_two_pow_mul_add _ hu, Nat.testBit_two_pow_mul_add _ hm, Nat.testBit_two_pow_mul_add _ h3]
  split
  · rw [Nat.testBit_and]
  · rw [Nat.testBit_and]
def g1 (u : Nat) : Nat := (u / 2 &&& 85) + (u &&& 85)
def g2 (u : Nat) : Nat := (u / 4 &&& 51) + (u &&& 51)
def g3 (u : Nat) : Nat := (u / 16 + u) % 16
theorem k1 : ∀ u, u < 256 → ∀ b, b < 2 → (u / 2 + 128 * b) &&& 85 = u / 2 &&& 85 := by decide +kernel
theorem k2 : ∀ u, u < 256 → ∀ b, b < 4 → (u / 4 + 64 * b) &&& 51 = u / 4 &&& 51 := by decide +kernel
theorem kg : ∀ u, u < 256 → g1 u < 256 ∧ g2 (g1 u) < 256 ∧ g2 (g1 u) / 16 ≤ 4 ∧ g2 (g1 u) % 16 ≤ 4 ∧ g3 (g2 (g1 u)) = pc 8 u := by decide +kernel
theorem s1_cat (u X Y : Nat) (hu : u < 256) : ((u + 256 * X) / 2 &&& (85 + 256 * Y)) + ((u + 256 * X) &&& (85 + 256 * Y)) = g1 u + 256 * ((X / 2 &&& Y) + (X &&& Y)) := by
  have e : (u + 256 * X) / 2 = (u / 2 + 128 * (X % 2)) + 256 * (X / 2) := by omega
  rw [e, and_cat _ _ _ _ (by omega) (by omega), and_cat _ _ _ _ hu (by omega), k1 u hu _ (by omega), g1]
  omega
theorem s2_cat (u X Y : Nat) (hu : u < 256) : ((u + 256 * X) / 4 &&& (51 + 256 * Y)) + ((u + 256 * X) &&& (51 + 256 * Y)) = g2 u + 256 * ((X / 4 &&& Y) + (X &&& Y)) := by
  have e : (u + 256 * X) / 4 = (u / 4 + 64 * (X % 4)) + 256 * (X / 4) := by omega
  rw [e, and_cat _ _ _ _ (by omega) (by omega), and_cat _ _ _ _ hu (by omega), k2 u hu _ (by omega), g2]
  omega
theorem s3_cat (u X Y : Nat) (hu : u / 16 ≤ 4) (hu2 : u % 16 ≤ 4) (hX : X % 16 ≤ 4) : ((u + 256 * X) / 16 + (u + 256 * X)) &&& (15 + 256 * Y) = g3 u + 256 * ((X / 16 + X) &&& Y) := by
  have e : (u + 256 * X) / 16 + (u + 256 * X) = (u / 16 + 16 * (X % 16) + u) + 256 * (X / 16 + X) := by omega
  rw [e, and_cat _ _ _ _ (by omega) (by omega)]
  have : (u / 16 + 16 * (X % 16) + u) &&& 15 = (u / 16 + 16 * (X % 16) + u) % 16 := Nat.and_two_pow_sub_one_eq_mod _ 4
  rw [this, g3]
  omega
theorem z1 : (0 / 2 &&& 0) + (0 &&& 0) = 0 := by decide
theorem z2 : (0 / 4 &&& 0) + (0 &&& 0) = 0 := by decide
theorem z3 : (0 / 16 + 0) &&& 0 = 0 := by decide
theorem m55 : (6148914691236517205 : Nat) = 85 + 256 * (85 + 256 * (85 + 256 * (85 + 256 * (85 + 256 * (85 + 256 * (85 + 256 * (85 + 256 * 0))))))) := by decide
theorem m33 : (3689348814741910323 : Nat) = 51 + 256 * (51 + 256 * (51 + 256 * (51 + 256 * (51 + 256 * (51 + 256 * (51 + 256 * (51 + 256 * 0))))))) := by decide
theorem m0f : (1085102592571150095 : Nat) = 15 + 256 * (15 + 256 * (15 + 256 * (15 + 256 * (15 + 256 * (15 + 256 * (15 + 256 * (15 + 256 * 0))))))) := by decide
/-- math/bits' steps, one by one. -/
def oc1 (x : Nat) : Nat := (x / 2 &&& 6148914691236517205) + (x &&& 6148914691236517205)
def oc2 (x : Nat) : Nat := (x / 4 &&& 3689348814741910323) + (x &&& 3689348814741910323)
def oc3 (x : Nat) : Nat := (x / 16 + x) &&& 1085102592571150095
theorem pc8 (x : Nat) : pc 64 x = pc 8 (x % 256) + pc 8 (x / 256 % 256) + pc 8 (x / 65536 % 256) + pc 8 (x / 16777216 % 256) + pc 8 (x / 4294967296 % 256) + pc 8 (x / 1099511627776 % 256) + pc 8 (x / 281474976710656 % 256) + pc 8 (x / 72057594037927936 % 256) := by
  have h : ∀ y, pc 8 (y % 256) = pc 8 y := fun y => pc_mod 8 y
  have e : (64 : Nat) = 8 + (8 + (8 + (8 + (8 + (8 + (8 + 8)))))) := rfl
  rw [e, pc_add, pc_add, pc_add, pc_add, pc_add, pc_add, pc_add, h, h, h, h, h, h, h, h]
  simp only [Nat.div_div_eq_div_mul]
  simp only [Nat.reducePow, Nat.reduceMul]
  omega
theorem div256 (a X : Nat) (h : a < 256) : (a + 256 * X) / 256 = X := by omega
theorem sums (v0 v1 v2 v3 v4 v5 v6 v7 : Nat) (q0 : v0 ≤ 8) (q1 : v1 ≤ 8) (q2 : v2 ≤ 8) (q3 : v3 ≤ 8) (q4 : v4 ≤ 8) (q5 : v5 ≤ 8) (q6 : v6 ≤ 8) (q7 : v7 ≤ 8) :
    (v0 + 256 * (v1 + 256 * (v2 + 256 * (v3 + 256 * (v4 + 256 * (v5 + 256 * (v6 + 256 * (v7 + 256 * 0)))))))) + (v0 + 256 * (v1 + 256 * (v2 + 256 * (v3 + 256 * (v4 + 256 * (v5 + 256 * (v6 + 256 * (v7 + 256 * 0)))))))) / 256 < 18446744073709551616 ∧
    ((v0 + 256 * (v1 + 256 * (v2 + 256 * (v3 + 256 * (v4 + 256 * (v5 + 256 * (v6 + 256 * (v7 + 256 * 0)))))))) + (v0 + 256 * (v1 + 256 * (v2 + 256 * (v3 + 256 * (v4 + 256 * (v5 + 256 * (v6 + 256 * (v7 + 256 * 0)))))))) / 256) + ((v0 + 256 * (v1 + 256 * (v2 + 256 * (v3 + 256 * (v4 + 256 * (v5 + 256 * (v6 + 256 * (v7 + 256 * 0)))))))) + (v0 + 256 * (v1 + 256 * (v2 + 256 * (v3 + 256 * (v4 + 256 * (v5 + 256 * (v6 + 256 * (v7 + 256 * 0)))))))) / 256) / 65536 < 18446744073709551616 ∧
    (((v0 + 256 * (v1 + 256 * (v2 + 256 * (v3 + 256 * (v4 + 256 * (v5 + 256 * (v6 + 256 * (v7 + 256 * 0)))))))) + (v0 + 256 * (v1 + 256 * (v2 + 256 * (v3 + 256 * (v4 + 256 * (v5 + 256 * (v6 + 256 * (v7 + 256 * 0)))))))) / 256) + ((v0 + 256 * (v1 + 256 * (v2 + 256 * (v3 + 256 * (v4 + 256 * (v5 + 256 * (v6 + 256 * (v7 + 256 * 0)))))))) + (v0 + 256 * (v1 + 256 * (v2 + 256 * (v3 + 256 * (v4 + 256 * (v5 + 256 * (v6 + 256 * (v7 + 256 * 0)))))))) / 256) / 65536) + (((v0 + 256 * (v1 + 256 * (v2 + 256 * (v3 + 256 * (v4 + 256 * (v5 + 256 * (v6 + 256 * (v7 + 256 * 0)))))))) + (v0 + 256 * (v1 + 256 * (v2 + 256 * (v3 + 256 * (v4 + 256 * (v5 + 256 * (v6 + 256 * (v7 + 256 * 0)))))))) / 256) + ((v0 + 256 * (v1 + 256 * (v2 + 256 * (v3 + 256 * (v4 + 256 * (v5 + 256 * (v6 + 256 * (v7 + 256 * 0)))))))) + (v0 + 256 * (v1 + 256 * (v2 + 256 * (v3 + 256 * (v4 + 256 * (v5 + 256 * (v6 + 256 * (v7 + 256 * 0)))))))) / 256) / 65536) / 4294967296 < 9223372036854775808 ∧
    ((((v0 + 256 * (v1 + 256 * (v2 + 256 * (v3 + 256 * (v4 + 256 * (v5 + 256 * (v6 + 256 * (v7 + 256 * 0)))))))) + (v0 + 256 * (v1 + 256 * (v2 + 256 * (v3 + 256 * (v4 + 256 * (v5 + 256 * (v6 + 256 * (v7 + 256 * 0)))))))) / 256) + ((v0 + 256 * (v1 + 256 * (v2 + 256 * (v3 + 256 * (v4 + 256 * (v5 + 256 * (v6 + 256 * (v7 + 256 * 0)))))))) + (v0 + 256 * (v1 + 256 * (v2 + 256 * (v3 + 256 * (v4 + 256 * (v5 + 256 * (v6 + 256 * (v7 + 256 * 0)))))))) / 256) / 65536) + (((v0 + 256 * (v1 + 256 * (v2 + 256 * (v3 + 256 * (v4 + 256 * (v5 + 256 * (v6 + 256 * (v7 + 256 * 0)))))))) + (v0 + 256 * (v1 + 256 * (v2 + 256 * (v3 + 256 * (v4 + 256 * (v5 + 256 * (v6 + 256 * (v7 + 256 * 0)))))))) / 256) + ((v0 + 256 * (v1 + 256 * (v2 + 256 * (v3 + 256 * (v4 + 256 * (v5 + 256 * (v6 + 256 * (v7 + 256 * 0)))))))) + (v0 + 256 * (v1 + 256 * (v2 + 256 * (v3 + 256 * (v4 + 256 * (v5 + 256 * (v6 + 256 * (v7 + 256 * 0)))))))) / 256) / 65536) / 4294967296) % 128 = v0 + v1 + v2 + v3 + v4 + v5 + v6 + v7 := by
  have e1 : (v0 + 256 * (v1 + 256 * (v2 + 256 * (v3 + 256 * (v4 + 256 * (v5 + 256 * (v6 + 256 * (v7 + 256 * 0)))))))) / 256 = v1 + 256 * (v2 + 256 * (v3 + 256 * (v4 + 256 * (v5 + 256 * (v6 + 256 * (v7 + 256 * 0)))))) := div256 _ _ (by omega)
  have e2 : (v0 + 256 * (v1 + 256 * (v2 + 256 * (v3 + 256 * (v4 + 256 * (v5 + 256 * (v6 + 256 * (v7 + 256 * 0)))))))) + (v0 + 256 * (v1 + 256 * (v2 + 256 * (v3 + 256 * (v4 + 256 * (v5 + 256 * (v6 + 256 * (v7 + 256 * 0)))))))) / 256 = (v0 + v1) + 256 * ((v1 + v2) + 256 * ((v2 + v3) + 256 * ((v3 + v4) + 256 * ((v4 + v5) + 256 * ((v5 + v6) + 256 * ((v6 + v7) + 256 * (v7 + 256 * 0))))))) := by rw [e1]; omega
  rw [e2]
  have e3 : ((v0 + v1) + 256 * ((v1 + v2) + 256 * ((v2 + v3) + 256 * ((v3 + v4) + 256 * ((v4 + v5) + 256 * ((v5 + v6) + 256 * ((v6 + v7) + 256 * (v7 + 256 * 0)))))))) / 65536 = (v2 + v3) + 256 * ((v3 + v4) + 256 * ((v4 + v5) + 256 * ((v5 + v6) + 256 * ((v6 + v7) + 256 * (v7 + 256 * 0))))) := by
    rw [show (65536 : Nat) = 256 * 256 from rfl, ← Nat.div_div_eq_div_mul, div256 _ _ (by omega), div256 _ _ (by omega)]
  have e4 : ((v0 + v1) + 256 * ((v1 + v2) + 256 * ((v2 + v3) + 256 * ((v3 + v4) + 256 * ((v4 + v5) + 256 * ((v5 + v6) + 256 * ((v6 + v7) + 256 * (v7 + 256 * 0)))))))) + ((v0 + v1) + 256 * ((v1 + v2) + 256 * ((v2 + v3) + 256 * ((v3 + v4) + 256 * ((v4 + v5) + 256 * ((v5 + v6) + 256 * ((v6 + v7) + 256 * (v7 + 256 * 0)))))))) / 65536 = (v0 + v1 + v2 + v3) + 256 * ((v1 + v2 + v3 + v4) + 256 * ((v2 + v3 + v4 + v5) + 256 * ((v3 + v4 + v5 + v6) + 256 * ((v4 + v5 + v6 + v7) + 256 * ((v5 + v6 + v7) + 256 * ((v6 + v7) + 256 * (v7 + 256 * 0))))))) := by rw [e3]; omega
  rw [e4]
  have e5 : ((v0 + v1 + v2 + v3) + 256 * ((v1 + v2 + v3 + v4) + 256 * ((v2 + v3 + v4 + v5) + 256 * ((v3 + v4 + v5 + v6) + 256 * ((v4 + v5 + v6 + v7) + 256 * ((v5 + v6 + v7) + 256 * ((v6 + v7) + 256 * (v7 + 256 * 0)))))))) / 4294967296 = (v4 + v5 + v6 + v7) + 256 * ((v5 + v6 + v7) + 256 * ((v6 + v7) + 256 * (v7 + 256 * 0))) := by
    rw [show (4294967296 : Nat) = 256 * (256 * (256 * 256)) from rfl, ← Nat.div_div_eq_div_mul, ← Nat.div_div_eq_div_mul, ← Nat.div_div_eq_div_mul, div256 _ _ (by omega), div256 _ _ (by omega), div256 _ _ (by omega), div256 _ _ (by omega)]
  rw [e5]
  clear e1 e2 e3 e4 e5
  refine ⟨by omega, by omega, by omega, ?_⟩
  have e6 : ((v0 + v1 + v2 + v3) + 256 * ((v1 + v2 + v3 + v4) + 256 * ((v2 + v3 + v4 + v5) + 256 * ((v3 + v4 + v5 + v6) + 256 * ((v4 + v5 + v6 + v7) + 256 * ((v5 + v6 + v7) + 256 * ((v6 + v7) + 256 * (v7 + 256 * 0)))))))) + ((v4 + v5 + v6 + v7) + 256 * ((v5 + v6 + v7) + 256 * ((v6 + v7) + 256 * (v7 + 256 * 0)))) = (v0 + v1 + v2 + v3 + v4 + v5 + v6 + v7) + 128 * (2 * (((v1 + v2 + v3 + v4) + 256 * ((v2 + v3 + v4 + v5) + 256 * ((v3 + v4 + v5 + v6) + 256 * ((v4 + v5 + v6 + v7) + 256 * ((v5 + v6 + v7) + 256 * ((v6 + v7) + 256 * (v7 + 256 * 0))))))) + ((v5 + v6 + v7) + 256 * ((v6 + v7) + 256 * (v7 + 256 * 0))))) := by omega
  rw [e6, Nat.add_mul_mod_self_left, Nat.mod_eq_of_lt (by omega)]
theorem n80 {u : Nat} (h : u / 16 ≤ 4) (k : u % 16 ≤ 4) : u < 80 := by omega
theorem cat_step {a X M : Nat} (ha : a < 256) (hX : X < M) : a + 256 * X < 256 * M := by omega
theorem cat_0 (m : Nat) {x : Nat} (h : x < m) : x + 256 * 0 < m := by omega
theorem cat_lt (x0 x1 x2 x3 x4 x5 x6 x7 : Nat) (h0 : x0 < 256) (h1 : x1 < 256) (h2 : x2 < 256) (h3 : x3 < 256) (h4 : x4 < 256) (h5 : x5 < 256) (h6 : x6 < 256) (h7 : x7 < 256) : x0 + 256 * (x1 + 256 * (x2 + 256 * (x3 + 256 * (x4 + 256 * (x5 + 256 * (x6 + 256 * (x7 + 256 * 0))))))) < 18446744073709551616 :=
  Nat.lt_of_lt_of_le (cat_step h0 (cat_step h1 (cat_step h2 (cat_step h3 (cat_step h4 (cat_step h5 (cat_step h6 (cat_0 256 h7)))))))) (by decide)
theorem cat_lt2 (x0 x1 x2 x3 x4 x5 x6 x7 : Nat) (h0 : x0 < 256) (h1 : x1 < 256) (h2 : x2 < 256) (h3 : x3 < 256) (h4 : x4 < 256) (h5 : x5 < 256) (h6 : x6 < 256) (h7 : x7 < 80) : (x0 + 256 * (x1 + 256 * (x2 + 256 * (x3 + 256 * (x4 + 256 * (x5 + 256 * (x6 + 256 * (x7 + 256 * 0)))))))) / 16 + (x0 + 256 * (x1 + 256 * (x2 + 256 * (x3 + 256 * (x4 + 256 * (x5 + 256 * (x6 + 256 * (x7 + 256 * 0)))))))) < 18446744073709551616 := by
  have h : x0 + 256 * (x1 + 256 * (x2 + 256 * (x3 + 256 * (x4 + 256 * (x5 + 256 * (x6 + 256 * (x7 + 256 * 0))))))) < 5764607523034234880 := Nat.lt_of_lt_of_le (cat_step h0 (cat_step h1 (cat_step h2 (cat_step h3 (cat_step h4 (cat_step h5 (cat_step h6 (cat_0 80 h7)))))))) (by decide)
  generalize x0 + 256 * (x1 + 256 * (x2 + 256 * (x3 + 256 * (x4 + 256 * (x5 + 256 * (x6 + 256 * (x7 + 256 * 0))))))) = X at *
  omega
set_option maxHeartbeats 800000 in
theorem oc_all (x : Nat) (hx : x < 18446744073709551616) : oc1 x < 18446744073709551616 ∧ oc2 (oc1 x) < 18446744073709551616 ∧ oc2 (oc1 x) / 16 + oc2 (oc1 x) < 18446744073709551616 ∧
    oc3 (oc2 (oc1 x)) + oc3 (oc2 (oc1 x)) / 256 < 18446744073709551616 ∧
    (oc3 (oc2 (oc1 x)) + oc3 (oc2 (oc1 x)) / 256) + (oc3 (oc2 (oc1 x)) + oc3 (oc2 (oc1 x)) / 256) / 65536 < 18446744073709551616 ∧
    ((oc3 (oc2 (oc1 x)) + oc3 (oc2 (oc1 x)) / 256) + (oc3 (oc2 (oc1 x)) + oc3 (oc2 (oc1 x)) / 256) / 65536) + ((oc3 (oc2 (oc1 x)) + oc3 (oc2 (oc1 x)) / 256) + (oc3 (oc2 (oc1 x)) + oc3 (oc2 (oc1 x)) / 256) / 65536) / 4294967296 < 9223372036854775808 ∧
    (((oc3 (oc2 (oc1 x)) + oc3 (oc2 (oc1 x)) / 256) + (oc3 (oc2 (oc1 x)) + oc3 (oc2 (oc1 x)) / 256) / 65536) + ((oc3 (oc2 (oc1 x)) + oc3 (oc2 (oc1 x)) / 256) + (oc3 (oc2 (oc1 x)) + oc3 (oc2 (oc1 x)) / 256) / 65536) / 4294967296) % 128 = pc 64 x := by
  rw [pc8]
  obtain ⟨u0, h0⟩ : ∃ u, u = x % 256 := ⟨_, rfl⟩
  obtain ⟨u1, h1⟩ : ∃ u, u = x / 256 % 256 := ⟨_, rfl⟩
  obtain ⟨u2, h2⟩ : ∃ u, u = x / 65536 % 256 := ⟨_, rfl⟩
  obtain ⟨u3, h3⟩ : ∃ u, u = x / 16777216 % 256 := ⟨_, rfl⟩
  obtain ⟨u4, h4⟩ : ∃ u, u = x / 4294967296 % 256 := ⟨_, rfl⟩
  obtain ⟨u5, h5⟩ : ∃ u, u = x / 1099511627776 % 256 := ⟨_, rfl⟩
  obtain ⟨u6, h6⟩ : ∃ u, u = x / 281474976710656 % 256 := ⟨_, rfl⟩
  obtain ⟨u7, h7⟩ : ∃ u, u = x / 72057594037927936 % 256 := ⟨_, rfl⟩
  have hx' : x = u0 + 256 * (u1 + 256 * (u2 + 256 * (u3 + 256 * (u4 + 256 * (u5 + 256 * (u6 + 256 * (u7 + 256 * 0))))))) := by omega
  rw [← h0, ← h1, ← h2, ← h3, ← h4, ← h5, ← h6, ← h7]
  have l0 : u0 < 256 := by omega
  have l1 : u1 < 256 := by omega
  have l2 : u2 < 256 := by omega
  have l3 : u3 < 256 := by omega
  have l4 : u4 < 256 := by omega
  have l5 : u5 < 256 := by omega
  have l6 : u6 < 256 := by omega
  have l7 : u7 < 256 := by omega
  clear h0 h1 h2 h3 h4 h5 h6 h7 hx
  subst hx'
  have e1 : oc1 (u0 + 256 * (u1 + 256 * (u2 + 256 * (u3 + 256 * (u4 + 256 * (u5 + 256 * (u6 + 256 * (u7 + 256 * 0)))))))) = g1 u0 + 256 * (g1 u1 + 256 * (g1 u2 + 256 * (g1 u3 + 256 * (g1 u4 + 256 * (g1 u5 + 256 * (g1 u6 + 256 * (g1 u7 + 256 * 0))))))) := by
    unfold oc1
    rw [m55, s1_cat _ _ _ l0, s1_cat _ _ _ l1, s1_cat _ _ _ l2, s1_cat _ _ _ l3, s1_cat _ _ _ l4, s1_cat _ _ _ l5, s1_cat _ _ _ l6, s1_cat _ _ _ l7, z1]
  obtain ⟨a0, b0, c0, d0, p0⟩ := kg u0 l0
  obtain ⟨a1, b1, c1, d1, p1⟩ := kg u1 l1
  obtain ⟨a2, b2, c2, d2, p2⟩ := kg u2 l2
  obtain ⟨a3, b3, c3, d3, p3⟩ := kg u3 l3
  obtain ⟨a4, b4, c4, d4, p4⟩ := kg u4 l4
  obtain ⟨a5, b5, c5, d5, p5⟩ := kg u5 l5
  obtain ⟨a6, b6, c6, d6, p6⟩ := kg u6 l6
  obtain ⟨a7, b7, c7, d7, p7⟩ := kg u7 l7
  have q0 := pc_le 8 u0
  have q1 := pc_le 8 u1
  have q2 := pc_le 8 u2
  have q3 := pc_le 8 u3
  have q4 := pc_le 8 u4
  have q5 := pc_le 8 u5
  have q6 := pc_le 8 u6
  have q7 := pc_le 8 u7
  have e2 : oc2 (g1 u0 + 256 * (g1 u1 + 256 * (g1 u2 + 256 * (g1 u3 + 256 * (g1 u4 + 256 * (g1 u5 + 256 * (g1 u6 + 256 * (g1 u7 + 256 * 0)))))))) = g2 (g1 u0) + 256 * (g2 (g1 u1) + 256 * (g2 (g1 u2) + 256 * (g2 (g1 u3) + 256 * (g2 (g1 u4) + 256 * (g2 (g1 u5) + 256 * (g2 (g1 u6) + 256 * (g2 (g1 u7) + 256 * 0))))))) := by
    unfold oc2
    rw [m33, s2_cat _ _ _ a0, s2_cat _ _ _ a1, s2_cat _ _ _ a2, s2_cat _ _ _ a3, s2_cat _ _ _ a4, s2_cat _ _ _ a5, s2_cat _ _ _ a6, s2_cat _ _ _ a7, z2]
  rw [e1, e2]
  have e3 : oc3 (g2 (g1 u0) + 256 * (g2 (g1 u1) + 256 * (g2 (g1 u2) + 256 * (g2 (g1 u3) + 256 * (g2 (g1 u4) + 256 * (g2 (g1 u5) + 256 * (g2 (g1 u6) + 256 * (g2 (g1 u7) + 256 * 0)))))))) = pc 8 u0 + 256 * (pc 8 u1 + 256 * (pc 8 u2 + 256 * (pc 8 u3 + 256 * (pc 8 u4 + 256 * (pc 8 u5 + 256 * (pc 8 u6 + 256 * (pc 8 u7 + 256 * 0))))))) := by
    unfold oc3
    rw [m0f, s3_cat _ _ _ c0 d0 (by omega), s3_cat _ _ _ c1 d1 (by omega), s3_cat _ _ _ c2 d2 (by omega), s3_cat _ _ _ c3 d3 (by omega), s3_cat _ _ _ c4 d4 (by omega), s3_cat _ _ _ c5 d5 (by omega), s3_cat _ _ _ c6 d6 (by omega), s3_cat _ _ _ c7 d7 (by omega), z3, p0, p1, p2, p3, p4, p5, p6, p7]
  rw [e3]
  clear e1 e2 e3 p0 p1 p2 p3 p4 p5 p6 p7 l0 l1 l2 l3 l4 l5 l6 l7
  generalize pc 8 u0 = v0 at *
  generalize pc 8 u1 = v1 at *
  generalize pc 8 u2 = v2 at *
  generalize pc 8 u3 = v3 at *
  generalize pc 8 u4 = v4 at *
  generalize pc 8 u5 = v5 at *
  generalize pc 8 u6 = v6 at *
  generalize pc 8 u7 = v7 at *
  refine ⟨cat_lt _ _ _ _ _ _ _ _ a0 a1 a2 a3 a4 a5 a6 a7, cat_lt _ _ _ _ _ _ _ _ b0 b1 b2 b3 b4 b5 b6 b7, cat_lt2 _ _ _ _ _ _ _ _ b0 b1 b2 b3 b4 b5 b6 (n80 c7 d7), ?_⟩
  clear a0 a1 a2 a3 a4 a5 a6 a7 b0 b1 b2 b3 b4 b5 b6 b7 c0 c1 c2 c3 c4 c5 c6 c7 d0 d1 d2 d3 d4 d5 d6 d7
  exact sums v0 v1 v2 v3 v4 v5 v6 v7 q0 q1 q2 q3 q4 q5 q6 q7
end Go.Proofs.Ytnnoflohekmnbaa
