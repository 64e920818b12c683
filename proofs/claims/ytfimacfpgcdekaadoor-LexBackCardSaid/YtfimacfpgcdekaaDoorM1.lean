/-
  Plain facts on numbers of seven bits: what is put is taken, what is taken has those bytes, and a greater number has no fewer. No program, no conditions.
-/
import Derived.Test.YtfimacfpgcdekaaDoorW5
set_option linter.unusedVariables false
namespace Go.Proofs.YtfimacfpgcdekaaDoor

theorem taken : ∀ (t : List UInt8) (i : Nat) (n x : Int) (m : Nat), takeF i n t = some (x, m) → ∃ y : Nat, x = n + (y : Int) * 2 ^ (7 * i) ∧ putL y = t.take (m - i) ∧ i < m ∧ m - i ≤ t.length ∧ (0 < i → y ≠ 0) ∧ x ≤ 2147483647
  | [], i, n, x, m, h => by simp [takeF] at h
  | c :: t, i, n, x, m, h => by
    have hc : c.toNat < 256 := c.toNat_lt
    unfold takeF at h
    by_cases h1 : 128 ≤ c.toNat
    · rw [if_pos h1] at h
      obtain ⟨y, hx, hp, him, hl, hy, hmax⟩ := taken t (i + 1) _ x m h
      refine ⟨c.toNat % 128 + 128 * y, ?_, ?_, by omega, by simp only [List.length_cons]; omega, fun _ => by have := hy (by omega); omega, hmax⟩
      · rw [hx, pow7s]
        have e : ((c.toNat % 128 + 128 * y : Nat) : Int) = (c.toNat : Int) % 128 + 128 * (y : Int) := by omega
        rw [e, Int.add_mul, Int.add_assoc]
        congr 1
        rw [Int.mul_comm 128 (2 ^ (7 * i) : Int), ← Int.mul_assoc, Int.mul_comm 128 (y : Int), Int.mul_assoc (y : Int) 128, Int.mul_comm 128, ← Int.mul_assoc]
      · have hy0 := hy (by omega)
        have e1 : (c.toNat % 128 + 128 * y) % 128 + 128 = c.toNat := by omega
        have e2 : (c.toNat % 128 + 128 * y) / 128 = y := by omega
        rw [putL_more _ (by omega), e1, e2, hp]
        have e3 : m - i = (m - (i + 1)) + 1 := by omega
        rw [e3, List.take_succ_cons, UInt8.ofNat_toNat]
    · rw [if_neg h1] at h
      by_cases h2 : c.toNat = 0 ∧ 0 < i ∨ 2147483647 < n + (c.toNat : Int) % 128 * 2 ^ (7 * i)
      · rw [if_pos h2] at h; cases h
      · rw [if_neg h2] at h
        injection h with h
        simp only [Prod.mk.injEq] at h
        obtain ⟨rfl, rfl⟩ := h
        have e0 : (c.toNat : Int) % 128 = (c.toNat : Int) := by omega
        refine ⟨c.toNat, by rw [e0], ?_, by omega, by simp, fun hi => by omega, by omega⟩
        rw [putL_last _ (by omega)]
        have e3 : i + 1 - i = 0 + 1 := by omega
        rw [e3, List.take_succ_cons, List.take_zero, UInt8.ofNat_toNat]

theorem put_taken : ∀ (f n i : Nat) (a : Int) (K : Nat) (b : List UInt8), n < 128 ^ (f + 1) → (putL n).length ≤ K → (0 < i → n ≠ 0) → 0 ≤ a → a + (n : Int) * 2 ^ (7 * i) ≤ 2147483647 →
    takeF i a ((putL n ++ b).take K) = some (a + (n : Int) * 2 ^ (7 * i), i + (putL n).length) := by
  intro f
  induction f with
  | zero =>
    intro n i a K b hn hK hi ha hmax
    have hn' : n < 128 := by omega
    rw [putL_last n hn'] at hK ⊢
    obtain ⟨K', rfl⟩ : ∃ K', K = K' + 1 := ⟨K - 1, by simp at hK; omega⟩
    have e1 : (UInt8.ofNat n).toNat = n := by rw [UInt8.toNat_ofNat']; omega
    have e0 : (n : Int) % 128 = (n : Int) := by omega
    show takeF i a (UInt8.ofNat n :: (([] ++ b).take K')) = _
    unfold takeF
    rw [e1, if_neg (by omega), e0, if_neg (by rintro (⟨h1, h2⟩ | h) <;> omega)]
    rfl
  | succ f ih =>
    intro n i a K b hn hK hi ha hmax
    by_cases h1 : 128 ≤ n
    · have hd : n / 128 < 128 ^ (f + 1) := by rw [Nat.pow_succ] at hn; exact Nat.div_lt_of_lt_mul (by rw [Nat.mul_comm]; exact hn)
      rw [putL_more n h1] at hK ⊢
      obtain ⟨K', rfl⟩ : ∃ K', K = K' + 1 := ⟨K - 1, by simp at hK; omega⟩
      have e1 : (UInt8.ofNat (n % 128 + 128)).toNat = n % 128 + 128 := by rw [UInt8.toNat_ofNat']; omega
      show takeF i a (UInt8.ofNat (n % 128 + 128) :: ((putL (n / 128) ++ b).take K')) = _
      unfold takeF
      have e2 : ((n % 128 + 128 : Nat) : Int) % 128 = ((n % 128 : Nat) : Int) := by omega
      rw [e1, if_pos (by omega), e2]
      have hsum : a + ((n % 128 : Nat) : Int) * 2 ^ (7 * i) + ((n / 128 : Nat) : Int) * 2 ^ (7 * (i + 1)) = a + (n : Int) * 2 ^ (7 * i) := by
        rw [pow7s, Int.add_assoc]
        congr 1
        rw [← Int.mul_assoc, ← Int.add_mul]
        congr 1
        omega
      have hpos : (0 : Int) ≤ ((n % 128 : Nat) : Int) * 2 ^ (7 * i) := Int.mul_nonneg (by omega) (Int.le_of_lt (Int.pow_pos (by omega)))
      rw [ih (n / 128) (i + 1) _ K' b hd (by simp at hK; omega) (fun _ => by omega) (by omega) (by rw [hsum]; exact hmax), hsum]
      simp only [List.length_cons, Option.some.injEq, Prod.mk.injEq, true_and]
      omega
    · exact ih_small n i a K b (by omega) hK hi ha hmax
where
  ih_small (n i : Nat) (a : Int) (K : Nat) (b : List UInt8) (hn' : n < 128) (hK : (putL n).length ≤ K) (hi : 0 < i → n ≠ 0) (ha : 0 ≤ a) (hmax : a + (n : Int) * 2 ^ (7 * i) ≤ 2147483647) :
    takeF i a ((putL n ++ b).take K) = some (a + (n : Int) * 2 ^ (7 * i), i + (putL n).length) := by
    rw [putL_last n hn'] at hK ⊢
    obtain ⟨K', rfl⟩ : ∃ K', K = K' + 1 := ⟨K - 1, by simp at hK; omega⟩
    have e1 : (UInt8.ofNat n).toNat = n := by rw [UInt8.toNat_ofNat']; omega
    have e0 : (n : Int) % 128 = (n : Int) := by omega
    show takeF i a (UInt8.ofNat n :: (([] ++ b).take K')) = _
    unfold takeF
    rw [e1, if_neg (by omega), e0, if_neg (by rintro (⟨h1, h2⟩ | h) <;> omega)]
    rfl
theorem takeS_put (n : Nat) (b : List UInt8) (h : n ≤ 2147483647) : takeS (putL n ++ b) = ((n : Int), (putL n).length, 0) := by
  unfold takeS
  rw [put_taken 4 n 0 0 5 b (by omega) (putL_five n h) (fun h => absurd h (by omega)) (by omega) (by simp; omega)]
  simp [takeR]
theorem takeS_ok (t : List UInt8) (h : (takeS t).2.2 = 0) : ∃ y : Nat, (takeS t).1 = (y : Int) ∧ y ≤ 2147483647 ∧ putL y = t.take (takeS t).2.1 ∧ (takeS t).2.1 ≤ t.length := by
  unfold takeS at h ⊢
  cases hr : takeF 0 0 (t.take 5) with
  | none => rw [hr] at h; simp [takeR] at h
  | some r =>
    obtain ⟨x, m⟩ := r
    obtain ⟨y, hx, hp, h0, hl, _, hmax⟩ := taken _ 0 0 x m hr
    simp only [takeR]
    simp only [Nat.mul_zero, Int.pow_zero, Int.mul_one, Int.zero_add, Nat.sub_zero, List.length_take] at hx hp hl
    refine ⟨y, hx, by omega, ?_, by omega⟩
    rw [hp, List.take_take]
    congr 1
    omega
theorem putL_mono : ∀ (f n m : Nat), n ≤ f → n ≤ m → (putL n).length ≤ (putL m).length := by
  intro f
  induction f with
  | zero => intro n m hf h; rw [putL_last n (by omega)]; by_cases hm : 128 ≤ m
            · rw [putL_more m hm]; simp
            · rw [putL_last m (by omega)]; simp
  | succ f ih =>
    intro n m hf h
    by_cases hn : 128 ≤ n
    · rw [putL_more n hn, putL_more m (by omega)]
      have := ih (n / 128) (m / 128) (by omega) (by omega)
      simp only [List.length_cons]; omega
    · rw [putL_last n (by omega)]
      by_cases hm : 128 ≤ m
      · rw [putL_more m hm]; simp
      · rw [putL_last m (by omega)]; simp
theorem takeS_bd (t : List UInt8) : 0 ≤ (takeS t).2.2 ∧ (takeS t).2.2 ≤ 3 ∧ (takeS t).2.1 ≤ t.length := by
  unfold takeS
  cases hr : takeF 0 0 (t.take 5) with
  | none => simp [takeR]
  | some r =>
    obtain ⟨x, m⟩ := r
    obtain ⟨y, hx, hp, h0, hl, _, hmax⟩ := taken _ 0 0 x m hr
    simp only [List.length_take] at hl
    simp only [takeR]
    omega
end Go.Proofs.YtfimacfpgcdekaaDoor
