/-
  math/bits.OnesCount64 and vec.isOdd over the translated program, and what vec.divide tells as whole numbers. Nothing is assumed.
-/
import Derived.Test.YtnnoflohekmnbaaProg
import Derived.WalkKit
import Derived.WalkSpells
import Derived.WalkLawsBesides
import Derived.LoopN
import Derived.IntWalk
import Derived.Lib.Hide
import Derived.Test.YtnnoflohekmnbaaA6
import Derived.Test.YtnnoflohekmnbaaM2
import Derived.Laws.BitsAllLaws
import Derived.Laws.Externs
import Derived.BigQuiet
import Derived.BigRegion
import Derived.Deep.QuietTactic
import Derived.Deep.RegionWith
import Derived.Deep.RegionHeld3
import Derived.StillTailTactics
import Derived.RegionTactic
import Derived.ChangeAlike
set_option linter.unusedVariables false
namespace Go.Proofs.Ytnnoflohekmnbaa
open Go.RowKit
theorem andN (x m : Nat) (hx : x < 18446744073709551616) (hm : m < 18446744073709551616) (M : Int) (hM : M = (m : Int)) : bits .and .u64 (x : Int) M = ((x &&& m : Nat) : Int) := by
  subst hM; exact u64_and_nat x m hx hm
theorem dvN (x : Nat) (m : Nat) : (x : Int) / (m : Int) = ((x / m : Nat) : Int) := (Int.natCast_ediv x m).symm
theorem oc_run (x : Nat) (hx : x < 18446744073709551616) :
    ∃ y1 y2 y3 y4 y5 y6 : Nat, (IntKind.u64.wrap (bits .and .u64 ((x : Int) / 2) 6148914691236517205 + bits .and .u64 (x : Int) 6148914691236517205) = (y1 : Int)) ∧
      (IntKind.u64.wrap (bits .and .u64 ((y1 : Int) / 4) 3689348814741910323 + bits .and .u64 (y1 : Int) 3689348814741910323) = (y2 : Int)) ∧
      (bits .and .u64 (IntKind.u64.wrap ((y2 : Int) / 16 + (y2 : Int))) 1085102592571150095 = (y3 : Int)) ∧
      (IntKind.u64.wrap ((y3 : Int) + (y3 : Int) / 256) = (y4 : Int)) ∧ (IntKind.u64.wrap ((y4 : Int) + (y4 : Int) / 65536) = (y5 : Int)) ∧ (IntKind.u64.wrap ((y5 : Int) + (y5 : Int) / 4294967296) = (y6 : Int)) ∧
      (y6 < 9223372036854775808 ∧ y6 % 128 = pc 64 x) := by
  obtain ⟨h1, h2, h3, h4, h5, h6, h7⟩ := oc_all x hx
  have e1 : (x : Int) / 2 = ((x / 2 : Nat) : Int) := by omega
  refine ⟨oc1 x, oc2 (oc1 x), oc3 (oc2 (oc1 x)), (oc3 (oc2 (oc1 x)) + oc3 (oc2 (oc1 x)) / 256), ((oc3 (oc2 (oc1 x)) + oc3 (oc2 (oc1 x)) / 256) + (oc3 (oc2 (oc1 x)) + oc3 (oc2 (oc1 x)) / 256) / 65536), ((oc3 (oc2 (oc1 x)) + oc3 (oc2 (oc1 x)) / 256) + (oc3 (oc2 (oc1 x)) + oc3 (oc2 (oc1 x)) / 256) / 65536) + ((oc3 (oc2 (oc1 x)) + oc3 (oc2 (oc1 x)) / 256) + (oc3 (oc2 (oc1 x)) + oc3 (oc2 (oc1 x)) / 256) / 65536) / 4294967296, ?_, ?_, ?_, ?_, ?_, ?_, h6, h7⟩
  · rw [e1, andN (x / 2) 6148914691236517205 (by omega) (by omega) 6148914691236517205 rfl, andN x 6148914691236517205 hx (by omega) 6148914691236517205 rfl, ← Int.natCast_add]
    exact wrN _ h1
  · generalize oc1 x = X at *
    have e : (X : Int) / 4 = ((X / 4 : Nat) : Int) := by omega
    rw [e, andN (X / 4) 3689348814741910323 (by omega) (by omega) 3689348814741910323 rfl, andN X 3689348814741910323 h1 (by omega) 3689348814741910323 rfl, ← Int.natCast_add]
    exact wrN _ h2
  · generalize oc2 (oc1 x) = X at *
    have e : (X : Int) / 16 + (X : Int) = ((X / 16 + X : Nat) : Int) := by omega
    rw [e, wrN _ h3]
    exact andN _ 1085102592571150095 h3 (by omega) 1085102592571150095 rfl
  · generalize oc3 (oc2 (oc1 x)) = X at *
    have e : (X : Int) + (X : Int) / 256 = ((X + X / 256 : Nat) : Int) := by omega
    rw [e]; exact wrN _ h4
  · generalize oc3 (oc2 (oc1 x)) = X at *
    generalize X + X / 256 = Y at *
    have e : (Y : Int) + (Y : Int) / 65536 = ((Y + Y / 65536 : Nat) : Int) := by omega
    rw [e]; exact wrN _ h5
  · generalize oc3 (oc2 (oc1 x)) = X at *
    generalize X + X / 256 = Y at *
    generalize Y + Y / 65536 = Z at *
    have e : (Z : Int) + (Z : Int) / 4294967296 = ((Z + Z / 4294967296 : Nat) : Int) := by omega
    rw [e]; exact wrN _ (by omega)
set_option maxHeartbeats 1000000 in
theorem OnesCount64_walk (x y1 y2 y3 y4 y5 y6 R : Nat) (e1 : IntKind.u64.wrap (bits .and .u64 ((x : Int) / 2) 6148914691236517205 + bits .and .u64 (x : Int) 6148914691236517205) = (y1 : Int))
    (e2 : IntKind.u64.wrap (bits .and .u64 ((y1 : Int) / 4) 3689348814741910323 + bits .and .u64 (y1 : Int) 3689348814741910323) = (y2 : Int))
    (e3 : bits .and .u64 (IntKind.u64.wrap ((y2 : Int) / 16 + (y2 : Int))) 1085102592571150095 = (y3 : Int))
    (e4 : IntKind.u64.wrap ((y3 : Int) + (y3 : Int) / 256) = (y4 : Int)) (e5 : IntKind.u64.wrap ((y4 : Int) + (y4 : Int) / 65536) = (y5 : Int)) (e6 : IntKind.u64.wrap ((y5 : Int) + (y5 : Int) / 4294967296) = (y6 : Int))
    (e7 : IntKind.i64.wrap (y6 : Int) = (y6 : Int)) (e8 : bits .and .i64 (y6 : Int) 127 = (R : Int)) (w : World) :
    Calls Try.prog 91 #[.int .u64 x] w fun e w' => e = .returned (.int .i64 (R : Int)) ∧ w = w' := by
  go_enter Try.func91, Try.ntmps91
  go_wp2
  go_ret
  exact ⟨rfl, rfl⟩
theorem OnesCount64_any (x : Nat) (hx : x < 18446744073709551616) (w : World) : Calls Try.prog 91 #[.int .u64 x] w fun e w' => e = .returned (.int .i64 ((pc 64 x : Nat) : Int)) ∧ w = w' := by
  obtain ⟨y1, y2, y3, y4, y5, y6, e1, e2, e3, e4, e5, e6, e7, e8⟩ := oc_run x hx
  refine OnesCount64_walk x y1 y2 y3 y4 y5 y6 _ e1 e2 e3 e4 e5 e6 (w64 _ (by omega) (by omega)) ?_ w
  rw [i64_and127, ← e8]
  omega
set_option maxHeartbeats 400000 in
theorem isOdd_any {a b N : Nat} (h : Lim a b N) (w : World) : Calls Try.prog 67 #[.agg #[.int .u64 a, .int .u64 b]] w (RetV w (.bool (pc 128 N % 2 == 1))) := by
  have c1 := Lib.hid (fun wx => OnesCount64_any a h.1 wx)
  have c2 := Lib.hid (fun wx => OnesCount64_any b h.2.1 wx)
  have hp : pc 128 N = pc 64 a + pc 64 b := by
    have e : (128 : Nat) = 64 + 64 := rfl
    have ⟨h1, h2⟩ := h.eq
    rw [e, pc_add, ← pc_mod 64 N, two64, ← h1, ← h2]
  have b1 := pc_le 64 a
  have b2 := pc_le 64 b
  have hr : (((pc 64 a : Nat) : Int) + ((pc 64 b : Nat) : Int)) % 2 = ((pc 128 N % 2 : Nat) : Int) := by rw [hp]; omega
  generalize pc 64 a = A at *
  generalize pc 64 b = B at *
  have hq : (((pc 128 N % 2 : Nat) : Int) == 1) = (pc 128 N % 2 == 1) := by rw [Bool.eq_iff_iff, beq_iff_eq, beq_iff_eq]; omega
  have hb3 : pc 128 N % 2 < 2 := Nat.mod_lt _ (by omega)
  generalize pc 128 N % 2 = R at *
  generalize (R == 1) = Q at *
  clear h hp hb3
  go_enter Try.func67, Try.ntmps67
  go_wp2
  refine wp_loop_rounds 3 ?_
  rw [rounds_succ]; go_wp2_with fail
  refine (c1.out _).mono ?_; rintro e w' ⟨rfl, rfl⟩
  go_wp2
  rw [rounds_succ]; go_wp2_with fail
  refine (c2.out _).mono ?_; rintro e w' ⟨rfl, rfl⟩
  go_wp2
  rw [rounds_succ]; go_wp2
  go_ret
  exact ⟨rfl, bal (Below.refl _ _) _⟩
/-! What vec.divide tells. -/
theorem dv_step_q (q i : Nat) (h : q % 2 ^ (i + 1) = 0) : q ||| 2 ^ i = q + 2 ^ i := nat_join (i + 1) q (2 ^ i) h (Nat.pow_lt_pow_right (by omega) (by omega))
theorem or_one (r : Nat) : (2 * r) ||| 2 ^ 0 = 2 * r + 1 := nat_join 1 (2 * r) 1 (by omega) (by omega)
theorem top_next (N k : Nat) (hk : k < 128) : N / 2 ^ (127 - k) = 2 * (N / 2 ^ (128 - k)) + (N.testBit (127 - k)).toNat := by
  have e : (2 : Nat) ^ (128 - k) = 2 ^ (127 - k) * 2 := by rw [← Nat.pow_succ]; congr 1; omega
  rw [e, ← Nat.div_div_eq_div_mul, Nat.testBit_eq_decide_div_mod_eq]
  generalize N / 2 ^ (127 - k) = X
  by_cases h : X % 2 = 1
  · simp [h]; omega
  · simp [h]; omega
theorem dv_r2 (N K k : Nat) (hk : k < 128) (hN : N < 2 ^ 128) (hr : (dv N K k).2 ≤ N / 2 ^ (128 - k)) :
    (if N.testBit (127 - k) then ((dv N K k).2 * 2 ^ 1 % 2 ^ 128) ||| 2 ^ 0 else (dv N K k).2 * 2 ^ 1 % 2 ^ 128) = 2 * (dv N K k).2 + (N.testBit (127 - k)).toNat := by
  have h1 : N / 2 ^ (128 - k) < 2 ^ k := by
    rw [Nat.div_lt_iff_lt_mul (Nat.pow_pos (by omega)), ← Nat.pow_add]
    have : k + (128 - k) = 128 := by omega
    rw [this]; exact hN
  have h2 : (2 : Nat) ^ k ≤ 2 ^ 127 := Nat.pow_le_pow_right (by omega) (by omega)
  have h3 : (dv N K k).2 * 2 ^ 1 % 2 ^ 128 = 2 * (dv N K k).2 := by
    have e : (2 : Nat) ^ 128 = 2 * 2 ^ 127 := by rw [← Nat.pow_succ']
    rw [Nat.pow_one, Nat.mul_comm, Nat.mod_eq_of_lt]
    rw [e]; omega
  rw [h3]
  cases N.testBit (127 - k)
  · simp
  · have := or_one (dv N K k).2
    simpa using this
theorem dv_inv0 (N : Nat) (hN : N < 2 ^ 128) : ∀ k, k ≤ 128 → (dv N 0 k).2 = N / 2 ^ (128 - k) ∧ (dv N 0 k).1 = (2 ^ k - 1) * 2 ^ (128 - k) := by
  intro k
  induction k with
  | zero => intro _; constructor
            · rw [dv]; symm; exact Nat.div_eq_of_lt hN
            · rw [dv]
  | succ k ih =>
    intro hk
    obtain ⟨i1, i2⟩ := ih (by omega)
    have hr := dv_r2 N 0 k (by omega) hN (by omega)
    have hh := dv_ge N 0 k _ rfl (by omega)
    rw [hr] at hh
    have e1 : 128 - (k + 1) = 127 - k := by omega
    have e2 : (2 : Nat) ^ (128 - k) = 2 ^ (127 - k) * 2 := by rw [← Nat.pow_succ]; congr 1; omega
    have ht := top_next N k (by omega)
    have hlt : N / 2 ^ (127 - k) < 2 ^ 128 := Nat.lt_of_le_of_lt (Nat.div_le_self _ _) hN
    rw [hh, e1, ht]
    constructor
    · show (2 * (dv N 0 k).2 + (N.testBit (127 - k)).toNat + 2 ^ 128 - 0) % 2 ^ 128 = _
      rw [i1, Nat.sub_zero, Nat.add_mod_right, Nat.mod_eq_of_lt (by rw [← ht]; exact hlt)]
    · show (dv N 0 k).1 ||| 2 ^ (127 - k) = _
      have hm : (dv N 0 k).1 % 2 ^ (127 - k + 1) = 0 := by rw [i2, e2, ← Nat.pow_succ, Nat.mul_mod_left]
      rw [dv_step_q _ _ hm, i2, e2, Nat.pow_succ]
      have hp : 0 < 2 ^ k := Nat.pow_pos (by omega)
      generalize (2 : Nat) ^ (127 - k) = X
      obtain ⟨t, ht2⟩ : ∃ t, 2 ^ k = t + 1 := ⟨2 ^ k - 1, by omega⟩
      rw [ht2]
      have a1 : t + 1 - 1 = t := by omega
      have a2 : (t + 1) * 2 - 1 = 2 * t + 1 := by omega
      rw [a1, a2, Nat.add_mul, Nat.one_mul, ← Nat.mul_assoc, Nat.mul_right_comm, Nat.mul_comm t 2]
theorem dv_inv (N K : Nat) (hN : N < 2 ^ 128) (hK : 0 < K) (hK2 : K < 2 ^ 128) : ∀ k, k ≤ 128 → (dv N K k).2 = N / 2 ^ (128 - k) % K ∧ (dv N K k).1 = N / 2 ^ (128 - k) / K * 2 ^ (128 - k) := by
  intro k
  induction k with
  | zero => intro _
            have : N / 2 ^ (128 - 0) = 0 := Nat.div_eq_of_lt hN
            rw [this, dv]; simp
  | succ k ih =>
    intro hk
    obtain ⟨i1, i2⟩ := ih (by omega)
    have hr := dv_r2 N K k (by omega) hN (by rw [i1]; exact Nat.mod_le _ _)
    have e1 : 128 - (k + 1) = 127 - k := by omega
    have e2 : (2 : Nat) ^ (128 - k) = 2 ^ (127 - k) * 2 := by rw [← Nat.pow_succ]; congr 1; omega
    have ht := top_next N k (by omega)
    have hb : (N.testBit (127 - k)).toNat ≤ 1 := by cases N.testBit (127 - k) <;> simp
    have hm : (dv N K k).1 % 2 ^ (127 - k + 1) = 0 := by rw [i2, e2, ← Nat.pow_succ, Nat.mul_mod_left]
    rw [e1, ht]
    generalize N / 2 ^ (128 - k) = T at *
    generalize (N.testBit (127 - k)).toNat = b at *
    have hdm := Nat.div_add_mod T K
    have hml := Nat.mod_lt T hK
    have expand : 2 * T + b = K * (2 * (T / K)) + (2 * (T % K) + b) := by
      conv => lhs; rw [← hdm]
      rw [Nat.mul_add, Nat.mul_left_comm]; omega
    by_cases hc : 2 * (T % K) + b < K
    · have hh := dv_lt N K k _ rfl (by rw [hr, i1]; exact hc)
      rw [hr] at hh
      rw [hh, expand]
      constructor
      · show 2 * (dv N K k).2 + b = _
        rw [i1, Nat.mul_add_mod, Nat.mod_eq_of_lt hc]
      · show (dv N K k).1 = _
        rw [i2, e2, Nat.mul_add_div hK, Nat.div_eq_of_lt hc, Nat.add_zero, ← Nat.mul_assoc, Nat.mul_right_comm, Nat.mul_comm (T / K) 2]
    · have hh := dv_ge N K k _ rfl (by rw [hr, i1]; exact hc)
      rw [hr] at hh
      have h2 : 2 * (T % K) + b - K < K := by omega
      have ex2 : 2 * T + b = K * (2 * (T / K) + 1) + (2 * (T % K) + b - K) := by rw [expand, Nat.mul_add K, Nat.mul_one]; omega
      rw [hh, ex2]
      constructor
      · show (2 * (dv N K k).2 + b + 2 ^ 128 - K) % 2 ^ 128 = _
        rw [i1, Nat.mul_add_mod, Nat.mod_eq_of_lt h2]
        have : 2 * (T % K) + b + 2 ^ 128 - K = (2 * (T % K) + b - K) + 2 ^ 128 := by omega
        rw [this, Nat.add_mod_right, Nat.mod_eq_of_lt (by omega)]
      · show (dv N K k).1 ||| 2 ^ (127 - k) = _
        rw [dv_step_q _ _ hm, i2, e2, Nat.mul_add_div hK, Nat.div_eq_of_lt h2, Nat.add_zero, Nat.add_mul, Nat.one_mul, ← Nat.mul_assoc, Nat.mul_right_comm, Nat.mul_comm (T / K) 2]
/-- The quotient, and what is left, as the document tells them. -/
def qS (N K : Nat) : Nat := if K = 0 then 2 ^ 128 - 1 else N / K
def rS (N K : Nat) : Nat := if K = 0 then N else N % K
theorem dv_q (N K : Nat) (hN : N < 2 ^ 128) (hK : K < 2 ^ 128) : (dv N K 128).1 = qS N K := by
  unfold qS
  by_cases h : K = 0
  · subst h; rw [if_pos rfl, (dv_inv0 N hN 128 (by omega)).2]
  · rw [if_neg h, (dv_inv N K hN (by omega) hK 128 (by omega)).2]; simp
theorem dv_r (N K : Nat) (hN : N < 2 ^ 128) (hK : K < 2 ^ 128) : (dv N K 128).2 = rS N K := by
  unfold rS
  by_cases h : K = 0
  · subst h; rw [if_pos rfl, (dv_inv0 N hN 128 (by omega)).1]; simp
  · rw [if_neg h, (dv_inv N K hN (by omega) hK 128 (by omega)).1]; simp
end Go.Proofs.Ytnnoflohekmnbaa
