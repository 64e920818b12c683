/-
  Plain mathematics on numbers of two limbs of 64 bits. No program's text is looked at; nothing is assumed.
-/
import Derived.Laws.BitsAllLaws
set_option linter.unusedVariables false
namespace Go.Proofs.Ytnnoflohekmnbaa
/-- The limbs c and d are the number N. -/
def Lim (c d N : Nat) : Prop := c < 18446744073709551616 ∧ d < 18446744073709551616 ∧ N = c + d * 18446744073709551616
theorem two64 : (2 : Nat) ^ 64 = 18446744073709551616 := by decide
theorem two128 : (2 : Nat) ^ 128 = 340282366920938463463374607431768211456 := by decide
theorem Lim.lt {a b N : Nat} (h : Lim a b N) : N < 2 ^ 128 := by obtain ⟨h1, h2, rfl⟩ := h; rw [two128]; omega
theorem Lim.of (N : Nat) (h : N < 2 ^ 128) : Lim (N % 18446744073709551616) (N / 18446744073709551616) N := by
  rw [two128] at h; exact ⟨by omega, by omega, by omega⟩
theorem Lim.eq {a b N : Nat} (h : Lim a b N) : a = N % 18446744073709551616 ∧ b = N / 18446744073709551616 := by obtain ⟨h1, h2, rfl⟩ := h; constructor <;> omega
theorem Lim.inj {a b c d N : Nat} (h : Lim a b N) (k : Lim c d N) : a = c ∧ b = d := by
  obtain ⟨h1, h2, h3⟩ := h; obtain ⟨k1, k2, k3⟩ := k; constructor <;> omega
theorem Lim.zero : Lim 0 0 0 := ⟨by omega, by omega, by omega⟩
theorem Lim.small (x : Nat) (h : x < 18446744073709551616) : Lim x 0 x := ⟨h, by omega, by omega⟩
theorem Lim.not {a b N : Nat} (h : Lim a b N) : Lim (18446744073709551615 - a) (18446744073709551615 - b) (2 ^ 128 - 1 - N) := by
  obtain ⟨h1, h2, rfl⟩ := h; rw [two128]; exact ⟨by omega, by omega, by omega⟩
theorem Lim.bit {a b N : Nat} (h : Lim a b N) (j : Nat) : N.testBit j = if j < 64 then a.testBit j else b.testBit (j - 64) := by
  obtain ⟨h1, h2, rfl⟩ := h
  have e : a + b * 18446744073709551616 = 2 ^ 64 * b + a := by rw [two64]; omega
  rw [e, Nat.testBit_two_pow_mul_add _ (by rw [two64]; exact h1)]
theorem lt64_of_bits {x : Nat} (h : ∀ j, 64 ≤ j → x.testBit j = false) : x < 18446744073709551616 := by
  rw [← two64]; exact Nat.lt_pow_two_of_testBit x h
theorem bit_ge64 {x : Nat} (h : x < 18446744073709551616) (j : Nat) (hj : 64 ≤ j) : x.testBit j = false :=
  Nat.testBit_lt_two_pow (Nat.lt_of_lt_of_le (by rw [← two64] at h; exact h) (Nat.pow_le_pow_right (by omega) hj))
theorem Lim.mk_bits {a b N : Nat} (ha : a < 18446744073709551616) (hb : b < 18446744073709551616) (h : ∀ j, N.testBit j = if j < 64 then a.testBit j else b.testBit (j - 64)) : Lim a b N := by
  refine ⟨ha, hb, Nat.eq_of_testBit_eq fun j => ?_⟩
  have e : a + b * 18446744073709551616 = 2 ^ 64 * b + a := by rw [two64]; omega
  rw [h, e, Nat.testBit_two_pow_mul_add _ (by rw [two64]; exact ha)]
theorem Lim.and {a b c d N K : Nat} (h : Lim a b N) (k : Lim c d K) : Lim (a &&& c) (b &&& d) (N &&& K) :=
  Lim.mk_bits (Nat.lt_of_le_of_lt Nat.and_le_left h.1) (Nat.lt_of_le_of_lt Nat.and_le_left h.2.1) fun j => by
    rw [Nat.testBit_and, h.bit, k.bit]; split <;> rw [Nat.testBit_and]
theorem or_lt64 {a c : Nat} (h : a < 18446744073709551616) (k : c < 18446744073709551616) : a ||| c < 18446744073709551616 := by
  rw [← two64] at *; exact Nat.or_lt_two_pow h k
theorem xor_lt64 {a c : Nat} (h : a < 18446744073709551616) (k : c < 18446744073709551616) : a ^^^ c < 18446744073709551616 := by
  rw [← two64] at *; exact Nat.xor_lt_two_pow h k
theorem Lim.or {a b c d N K : Nat} (h : Lim a b N) (k : Lim c d K) : Lim (a ||| c) (b ||| d) (N ||| K) :=
  Lim.mk_bits (or_lt64 h.1 k.1) (or_lt64 h.2.1 k.2.1) fun j => by
    rw [Nat.testBit_or, h.bit, k.bit]; split <;> rw [Nat.testBit_or]
theorem Lim.xor {a b c d N K : Nat} (h : Lim a b N) (k : Lim c d K) : Lim (a ^^^ c) (b ^^^ d) (N ^^^ K) :=
  Lim.mk_bits (xor_lt64 h.1 k.1) (xor_lt64 h.2.1 k.2.1) fun j => by
    rw [Nat.testBit_xor, h.bit, k.bit]; split <;> rw [Nat.testBit_xor]
theorem Lim.plus {a b c d N K : Nat} (h : Lim a b N) (k : Lim c d K) : Lim ((a + c) % 18446744073709551616) ((b + d + (a + c) / 18446744073709551616) % 18446744073709551616) ((N + K) % 2 ^ 128) := by
  obtain ⟨h1, h2, rfl⟩ := h; obtain ⟨k1, k2, rfl⟩ := k; rw [two128]
  exact ⟨by omega, by omega, by omega⟩
theorem xor_all (a : Nat) (h : a < 18446744073709551616) : 18446744073709551615 ^^^ a = 18446744073709551615 - a := by
  have e : (18446744073709551615 : Nat) = 2 ^ 64 - 1 := by decide
  have e2 : (18446744073709551615 : Nat) - a = 2 ^ 64 - (a + 1) := by rw [two64]; omega
  rw [e2, e]
  apply Nat.eq_of_testBit_eq
  intro i
  rw [Nat.testBit_xor, Nat.testBit_two_pow_sub_one, Nat.testBit_two_pow_sub_succ (by rw [two64]; exact h)]
  by_cases hi : i < 64
  · simp [hi]
  · simp [hi, bit_ge64 h i (by omega)]
/-- What is borrowed. -/
def bor (x y : Nat) : Nat := if x < y then 1 else 0
theorem bor_le (x y : Nat) : bor x y ≤ 1 := by unfold bor; split <;> omega
theorem Lim.minus {a b c d N K : Nat} (h : Lim a b N) (k : Lim c d K) : Lim ((a + 18446744073709551616 - c) % 18446744073709551616) ((b + 18446744073709551616 - d - bor a c) % 18446744073709551616) ((N + 2 ^ 128 - K) % 2 ^ 128) := by
  obtain ⟨h1, h2, rfl⟩ := h; obtain ⟨k1, k2, rfl⟩ := k; rw [two128]; unfold bor
  split <;> exact ⟨by omega, by omega, by omega⟩
theorem Lim.less {a b c d N K : Nat} (h : Lim a b N) (k : Lim c d K) : (bor b (d + bor a c) = 1) ↔ N < K := by
  obtain ⟨h1, h2, rfl⟩ := h; obtain ⟨k1, k2, rfl⟩ := k; unfold bor
  split <;> split <;> constructor <;> omega
/-- Limb i, or nought. -/
def limbV (a b : Nat) (i : Int) : Nat := if i = 0 then a else if i = 1 then b else 0
theorem div_low (a r : Nat) (hr : r ≤ 64) (ha : a < 18446744073709551616) : a / 2 ^ (64 - r) = a * 2 ^ r / 18446744073709551616 := by
  have e : (18446744073709551616 : Nat) = 2 ^ (64 - r) * 2 ^ r := by rw [← Nat.pow_add, ← two64]; congr 1; omega
  rw [e, Nat.mul_div_mul_right _ _ (Nat.pow_pos (by omega))]
theorem div_low_lt (a r : Nat) (hr : r ≤ 64) (ha : a < 18446744073709551616) : a / 2 ^ (64 - r) < 2 ^ r := by
  rw [Nat.div_lt_iff_lt_mul (Nat.pow_pos (by omega)), ← Nat.pow_add, Nat.add_sub_cancel' hr, two64]; exact ha
theorem mul_mod_pow (b r : Nat) (hr : r ≤ 64) : b * 2 ^ r % 18446744073709551616 % 2 ^ r = 0 := by
  have e : (18446744073709551616 : Nat) = 2 ^ (64 - r) * 2 ^ r := by rw [← Nat.pow_add, ← two64]; congr 1; omega
  rw [e, Nat.mul_mod_mul_right, Nat.mul_mod_left]
/-- One limb of what is shifted up. -/
theorem up_limb (b a r : Nat) (hr : r ≤ 64) (ha : a < 18446744073709551616) : (b * 2 ^ r % 18446744073709551616) ||| (a / 2 ^ (64 - r)) = b * 2 ^ r % 18446744073709551616 + a * 2 ^ r / 18446744073709551616 := by
  rw [nat_join r _ _ (mul_mod_pow b r hr) (div_low_lt a r hr ha), div_low a r hr ha]
theorem or_zero_ (x : Nat) : x ||| 0 = x := Nat.or_zero x
theorem Lim.up {a b N q r : Nat} (h : Lim a b N) (hr : r < 64) (hq : q ≤ 2) (hq2 : q = 2 → r = 0) :
    Lim ((limbV a b (-(q : Int)) * 2 ^ r % 18446744073709551616) ||| (limbV a b (-(q : Int) - 1) / 2 ^ (64 - r)))
      ((limbV a b (1 - (q : Int)) * 2 ^ r % 18446744073709551616) ||| (limbV a b (-(q : Int)) / 2 ^ (64 - r))) (N * 2 ^ (64 * q + r) % 2 ^ 128) := by
  obtain ⟨h1, h2, rfl⟩ := h
  have hq' : q = 0 ∨ q = 1 ∨ q = 2 := by omega
  have z : (0 : Nat) / 2 ^ (64 - r) = 0 := Nat.zero_div _
  have z2 : 0 * 2 ^ r % 18446744073709551616 = 0 := by rw [Nat.zero_mul]
  have hl : a * 2 ^ r / 18446744073709551616 < 2 ^ r := by rw [← div_low a r (by omega) h1]; exact div_low_lt a r (by omega) h1
  have hmm := mul_mod_pow b r (by omega)
  rcases hq' with rfl | rfl | rfl
  · have e1 : limbV a b (-((0 : Nat) : Int)) = a := rfl
    have e2 : limbV a b (-((0 : Nat) : Int) - 1) = 0 := rfl
    have e3 : limbV a b (1 - ((0 : Nat) : Int)) = b := rfl
    rw [e1, e2, e3, up_limb b a r (by omega) h1, z, or_zero_, Nat.mul_zero, Nat.zero_add, Nat.add_mul, two128]
    have e4 : b * 18446744073709551616 * 2 ^ r = b * 2 ^ r * 18446744073709551616 := by rw [Nat.mul_right_comm]
    rw [e4]
    have hd : b * 2 ^ r % 18446744073709551616 + a * 2 ^ r / 18446744073709551616 < 18446744073709551616 := by
      have e : (18446744073709551616 : Nat) = 2 ^ (64 - r) * 2 ^ r := by rw [← Nat.pow_add, ← two64]; congr 1; omega
      have hlt : b * 2 ^ r % 18446744073709551616 < 18446744073709551616 := Nat.mod_lt _ (by omega)
      obtain ⟨t, ht⟩ : ∃ t, b * 2 ^ r % 18446744073709551616 = t * 2 ^ r := ⟨_, (Nat.div_mul_cancel (Nat.dvd_of_mod_eq_zero hmm)).symm⟩
      rw [ht] at hlt ⊢
      have ht2 : t < 2 ^ (64 - r) := by rw [e] at hlt; exact Nat.lt_of_mul_lt_mul_right hlt
      have : (t + 1) * 2 ^ r ≤ 2 ^ (64 - r) * 2 ^ r := Nat.mul_le_mul_right _ ht2
      rw [← e, Nat.add_mul, Nat.one_mul] at this
      omega
    generalize a * 2 ^ r = A at *
    generalize b * 2 ^ r = B at *
    exact ⟨by omega, hd, by omega⟩
  · have e1 : limbV a b (-((1 : Nat) : Int)) = 0 := rfl
    have e2 : limbV a b (-((1 : Nat) : Int) - 1) = 0 := rfl
    have e3 : limbV a b (1 - ((1 : Nat) : Int)) = a := rfl
    rw [e1, e2, e3, z, z2, or_zero_, or_zero_, Nat.mul_one, Nat.pow_add, two64, two128]
    have e4 : (a + b * 18446744073709551616) * (18446744073709551616 * 2 ^ r) = a * 2 ^ r * 18446744073709551616 + b * 2 ^ r * 340282366920938463463374607431768211456 := by
      rw [Nat.add_mul]
      have x1 : a * (18446744073709551616 * 2 ^ r) = a * 2 ^ r * 18446744073709551616 := by rw [Nat.mul_comm 18446744073709551616, Nat.mul_assoc]
      have x2 : b * 18446744073709551616 * (18446744073709551616 * 2 ^ r) = b * 2 ^ r * 340282366920938463463374607431768211456 := by
        rw [Nat.mul_assoc, ← Nat.mul_assoc 18446744073709551616, Nat.mul_assoc b, Nat.mul_comm (2 ^ r)]
      rw [x1, x2]
    rw [e4]
    generalize a * 2 ^ r = A at *
    generalize b * 2 ^ r = B at *
    exact ⟨by omega, by omega, by omega⟩
  · obtain rfl := hq2 rfl
    have e1 : limbV a b (-((2 : Nat) : Int)) = 0 := rfl
    have e2 : limbV a b (-((2 : Nat) : Int) - 1) = 0 := rfl
    have e3 : limbV a b (1 - ((2 : Nat) : Int)) = 0 := rfl
    rw [e1, e2, e3, z, z2, or_zero_]
    have e4 : (64 * 2 + 0 : Nat) = 128 := rfl
    rw [e4, Nat.mul_mod_left]
    exact Lim.zero
theorem down_limb (a b r : Nat) (hr : r ≤ 64) (ha : a < 18446744073709551616) : (a / 2 ^ r) ||| (b * 2 ^ (64 - r) % 18446744073709551616) = a / 2 ^ r + b * 2 ^ (64 - r) % 18446744073709551616 := by
  rw [Nat.or_comm, nat_join (64 - r) _ _ (mul_mod_pow b (64 - r) (by omega)) (by have := div_low_lt a (64 - r) (by omega) ha; rwa [Nat.sub_sub_self hr] at this), Nat.add_comm]
theorem Lim.down {a b N q r : Nat} (h : Lim a b N) (hr : r < 64) (hq : q ≤ 2) (hq2 : q = 2 → r = 0) :
    Lim ((limbV a b (q : Int) / 2 ^ r) ||| (limbV a b ((q : Int) + 1) * 2 ^ (64 - r) % 18446744073709551616))
      ((limbV a b (1 + (q : Int)) / 2 ^ r) ||| (limbV a b (1 + (q : Int) + 1) * 2 ^ (64 - r) % 18446744073709551616)) (N / 2 ^ (64 * q + r)) := by
  obtain ⟨h1, h2, rfl⟩ := h
  have hq' : q = 0 ∨ q = 1 ∨ q = 2 := by omega
  have z : (0 : Nat) / 2 ^ r = 0 := Nat.zero_div _
  have z2 : 0 * 2 ^ (64 - r) % 18446744073709551616 = 0 := by rw [Nat.zero_mul]
  have e : (18446744073709551616 : Nat) = 2 ^ (64 - r) * 2 ^ r := by rw [← Nat.pow_add, ← two64]; congr 1; omega
  have hp : 0 < 2 ^ r := Nat.pow_pos (by omega)
  rcases hq' with rfl | rfl | rfl
  · have e1 : limbV a b ((0 : Nat) : Int) = a := rfl
    have e2 : limbV a b (((0 : Nat) : Int) + 1) = b := rfl
    have e3 : limbV a b (1 + ((0 : Nat) : Int)) = b := rfl
    have e4 : limbV a b (1 + ((0 : Nat) : Int) + 1) = 0 := rfl
    rw [e1, e2, e3, e4, z2, or_zero_, Nat.mul_zero, Nat.zero_add, down_limb a b r (by omega) h1]
    have hd : (a + b * 18446744073709551616) / 2 ^ r = a / 2 ^ r + b * 2 ^ (64 - r) := by
      rw [e, ← Nat.mul_assoc, Nat.add_mul_div_right _ _ hp]
    have hb : b / 2 ^ r = b * 2 ^ (64 - r) / 18446744073709551616 := by
      have := div_low b (64 - r) (by omega) h2
      rwa [Nat.sub_sub_self (by omega)] at this
    have hs : a / 2 ^ r + b * 2 ^ (64 - r) % 18446744073709551616 < 18446744073709551616 := by
      have hmm := mul_mod_pow b (64 - r) (by omega)
      have hlt : b * 2 ^ (64 - r) % 18446744073709551616 < 18446744073709551616 := Nat.mod_lt _ (by omega)
      have hdl := div_low_lt a (64 - r) (by omega) h1
      rw [Nat.sub_sub_self (by omega)] at hdl
      obtain ⟨t, ht⟩ : ∃ t, b * 2 ^ (64 - r) % 18446744073709551616 = t * 2 ^ (64 - r) := ⟨_, (Nat.div_mul_cancel (Nat.dvd_of_mod_eq_zero hmm)).symm⟩
      rw [ht] at hlt ⊢
      have ht2 : t < 2 ^ r := by rw [e, Nat.mul_comm (2 ^ (64 - r))] at hlt; exact Nat.lt_of_mul_lt_mul_right hlt
      have : (t + 1) * 2 ^ (64 - r) ≤ 2 ^ r * 2 ^ (64 - r) := Nat.mul_le_mul_right _ ht2
      rw [Nat.mul_comm (2 ^ r), ← e, Nat.add_mul, Nat.one_mul] at this
      omega
    have hb2 : b * 2 ^ (64 - r) / 18446744073709551616 < 18446744073709551616 := by rw [← hb]; exact Nat.lt_of_le_of_lt (Nat.div_le_self _ _) h2
    rw [hd, hb]
    generalize b * 2 ^ (64 - r) = B at *
    generalize a / 2 ^ r = A at *
    exact ⟨hs, by omega, by omega⟩
  · have e1 : limbV a b ((1 : Nat) : Int) = b := rfl
    have e2 : limbV a b (((1 : Nat) : Int) + 1) = 0 := rfl
    have e3 : limbV a b (1 + ((1 : Nat) : Int)) = 0 := rfl
    have e4 : limbV a b (1 + ((1 : Nat) : Int) + 1) = 0 := rfl
    rw [e1, e2, e3, e4, z, z2, or_zero_, or_zero_, Nat.mul_one, Nat.pow_add, two64, ← Nat.div_div_eq_div_mul]
    have : (a + b * 18446744073709551616) / 18446744073709551616 = b := by omega
    rw [this]
    exact ⟨Nat.lt_of_le_of_lt (Nat.div_le_self _ _) h2, by omega, by omega⟩
  · obtain rfl := hq2 rfl
    have e1 : limbV a b ((2 : Nat) : Int) = 0 := rfl
    have e2 : limbV a b (((2 : Nat) : Int) + 1) = 0 := rfl
    have e3 : limbV a b (1 + ((2 : Nat) : Int)) = 0 := rfl
    have e4 : limbV a b (1 + ((2 : Nat) : Int) + 1) = 0 := rfl
    have e5 : (64 * 2 + 0 : Nat) = 128 := rfl
    rw [e1, e2, e3, e4, z, z2, or_zero_, e5, two128]
    exact ⟨by omega, by omega, by omega⟩
end Go.Proofs.Ytnnoflohekmnbaa
