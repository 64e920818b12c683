/-
  vec.minus, limbMask, with, mask over the translated program: what each call returns. Nothing is assumed.
-/
import Derived.Test.YtnnoflohekmnbaaProg
import Derived.WalkKit
import Derived.WalkSpells
import Derived.WalkLawsBesides
import Derived.LoopN
import Derived.IntWalk
import Derived.Lib.Hide
import Derived.Test.YtnnoflohekmnbaaA1
import Derived.Laws.BitsAllLaws
import Derived.Laws.Externs
import Derived.BigQuiet
import Derived.BigRegion
import Derived.Deep.QuietTactic
import Derived.Deep.RegionWith
import Derived.Deep.RegionHeld3
import Derived.StillTailTactics
import Derived.RegionTactic
import Derived.ChangeAlike
set_option linter.unusedVariables false
namespace Go.Proofs.Ytnnoflohekmnbaa
open Go.RowKit
theorem minus_parts {a b c d N K : Nat} (h : Lim a b N) (k : Lim c d K) : ∃ A B C D : Nat, Lim A B ((N + 2 ^ 128 - K) % 2 ^ 128) ∧
    (∀ wx, (callFunc 90 #[.int .u64 a, .int .u64 c, .int .u64 0]).run Try.prog wx = .ok (.value (.tuple #[.int .u64 (A : Int), .int .u64 (C : Int)])) wx) ∧
    (∀ wx, (callFunc 90 #[.int .u64 b, .int .u64 d, .int .u64 C]).run Try.prog wx = .ok (.value (.tuple #[.int .u64 (B : Int), .int .u64 (D : Int)])) wx) :=
  ⟨_, _, _, _, h.minus k, fun wx => run_sub64Z a c wx, fun wx => run_sub64N b d (bor a c) (bor_le _ _) wx⟩
set_option maxHeartbeats 400000 in
theorem minus_walk {a b c d A B C D R : Nat} (HL : Hid (Lim A B R)) (r0 : ∀ wx, (callFunc 90 #[.int .u64 a, .int .u64 c, .int .u64 0]).run Try.prog wx = .ok (.value (.tuple #[.int .u64 (A : Int), .int .u64 (C : Int)])) wx)
    (r1 : ∀ wx, (callFunc 90 #[.int .u64 b, .int .u64 d, .int .u64 C]).run Try.prog wx = .ok (.value (.tuple #[.int .u64 (B : Int), .int .u64 (D : Int)])) wx) (w : World) : Calls Try.prog 61 #[.agg #[.int .u64 a, .int .u64 b], .agg #[.int .u64 c, .int .u64 d]] w (RetN w R) := by
  go_enter Try.func61, Try.ntmps61
  go_wp2
  refine wp_loop_rounds 3 ?_
  rw [rounds_succ]; go_wp2
  go_region
  go_wp2
  rw [rounds_succ]; go_wp2
  go_region
  go_wp2
  rw [rounds_succ]; go_wp2
  refine bodyPost_ret (v := .agg #[.int .u64 (A : Int), .int .u64 (B : Int)]) (by simp [results, Try.results61, go_sem]) rfl ⟨A, B, HL.out, rfl, ?_⟩
  exact ((((Below.refl _ _).alloc (Nat.le_refl _) _).alloc (by simp) _).alloc (by simp; omega) _).drew.drew
theorem minus_any {a b c d N K : Nat} (h : Lim a b N) (k : Lim c d K) (w : World) : Calls Try.prog 61 #[.agg #[.int .u64 a, .int .u64 b], .agg #[.int .u64 c, .int .u64 d]] w (RetN w ((N + 2 ^ 128 - K) % 2 ^ 128)) := by
  obtain ⟨A, B, C, D, h1, h2, h3⟩ := minus_parts h k
  exact minus_walk h1 h2 h3 w
theorem max_run (a b c : Int) (h : (if a < b then b else a) = c) (ts : Array TypeId) (t : TypeId) (w : World) : (Builtin.max_ ts t #[.int .i64 a, .int .i64 b]).run Try.prog w = .ok (.int .i64 c) w := by
  rw [run_max_int2, h]
theorem min_run (a b c : Int) (h : (if b < a then b else a) = c) (ts : Array TypeId) (t : TypeId) (w : World) : (Builtin.min_ ts t #[.int .i64 a, .int .i64 b]).run Try.prog w = .ok (.int .i64 c) w := by
  rw [run_min_int2, h]
/-- Where limb i has bits of a vector of width W. -/
def mk (W i : Nat) : Nat := 2 ^ (min 64 (W - 64 * i)) - 1
theorem mk_lt (W i : Nat) : mk W i < 18446744073709551616 := by
  unfold mk
  have : 2 ^ (min 64 (W - 64 * i)) ≤ 2 ^ 64 := Nat.pow_le_pow_right (by omega) (by omega)
  rw [two64] at this
  have : 0 < 2 ^ (min 64 (W - 64 * i)) := Nat.pow_pos (by omega)
  omega
theorem mk_eq (W i m : Nat) (hm : m = min 64 (W - 64 * i)) : IntKind.u64.wrap (IntKind.u64.wrap ((2 : Int) ^ m) - 1) = ((mk W i : Nat) : Int) := by
  have e : ((2 : Int) ^ m) = ((2 ^ m : Nat) : Int) := by simp
  rw [e, IntKind.wrap_u64, IntKind.wrap_u64]
  unfold mk
  rw [← hm]
  have h1 : 2 ^ m ≤ 2 ^ 64 := Nat.pow_le_pow_right (by omega) (by omega)
  rw [two64] at h1
  have h2 : 0 < 2 ^ m := Nat.pow_pos (by omega)
  generalize 2 ^ m = X at *
  omega
set_option maxHeartbeats 400000 in
theorem limbMask_any (W i : Nat) (w : World) (hW : W ≤ 1000) (hi : i ≤ 3) :
    Calls Try.prog 38 #[.int .i64 W, .int .i64 i] w fun e w' => e = .returned (.int .u64 ((mk W i : Nat) : Int)) ∧ w = w' := by
  obtain ⟨m, hm⟩ : ∃ m, m = min 64 (W - 64 * i) := ⟨_, rfl⟩
  obtain ⟨t, ht⟩ : ∃ t, t = W - 64 * i := ⟨_, rfl⟩
  have h1 := fun ts ty wx => max_run ((W : Int) - (i : Int) * 64) 0 (t : Int) (by split <;> omega) ts ty wx
  have h2 := fun ts ty wx => min_run (t : Int) 64 (m : Int) (by split <;> omega) ts ty wx
  have e := mk_eq W i m hm
  generalize mk W i = V at *
  have hm6 : m ≤ 64 := by omega
  clear hm ht
  go_enter Try.func38, Try.ntmps38
  go_wp2
  go_ret
  exact ⟨rfl, rfl⟩
set_option maxHeartbeats 400000 in
theorem with_walk0 (a b A r : Nat) (i : Int) (hi0 : 0 ≤ i) (hi1 : i < 128) (hq : i / 64 = 0) (hr : i % 64 = (r : Int)) (e1 : bits .or .u64 (a : Int) (IntKind.u64.wrap (2 ^ r)) = (A : Int)) (w : World) :
    Calls Try.prog 33 #[.agg #[.int .u64 a, .int .u64 b], .int .i64 i] w (RetV w (.agg #[.int .u64 (A : Int), .int .u64 (b : Int)])) := by
  go_enter Try.func33, Try.ntmps33
  go_wp2
  go_region
  go_wp2
  refine bodyPost_ret (v := .agg #[.int .u64 (A : Int), .int .u64 (b : Int)]) (by simp [results, Try.results33, go_sem]) rfl ⟨rfl, ?_⟩
  exact (((Below.refl _ _).alloc (Nat.le_refl _) _).alloc (by simp) _).drew
set_option maxHeartbeats 400000 in
theorem with_walk1 (a b B r : Nat) (i : Int) (hi0 : 0 ≤ i) (hi1 : i < 128) (hq : i / 64 = 1) (hr : i % 64 = (r : Int)) (e1 : bits .or .u64 (b : Int) (IntKind.u64.wrap (2 ^ r)) = (B : Int)) (w : World) :
    Calls Try.prog 33 #[.agg #[.int .u64 a, .int .u64 b], .int .i64 i] w (RetV w (.agg #[.int .u64 (a : Int), .int .u64 (B : Int)])) := by
  go_enter Try.func33, Try.ntmps33
  go_wp2
  go_region
  go_wp2
  refine bodyPost_ret (v := .agg #[.int .u64 (a : Int), .int .u64 (B : Int)]) (by simp [results, Try.results33, go_sem]) rfl ⟨rfl, ?_⟩
  exact (((Below.refl _ _).alloc (Nat.le_refl _) _).alloc (by simp) _).drew
theorem pow_lt64 (r : Nat) (h : r < 64) : 2 ^ r < 18446744073709551616 := by rw [← two64]; exact Nat.pow_lt_pow_right (by omega) h
theorem shl_one (r : Nat) (h : r < 64) : IntKind.u64.wrap ((2 : Int) ^ r) = ((2 ^ r : Nat) : Int) := by
  have e : ((2 : Int) ^ r) = ((2 ^ r : Nat) : Int) := by simp
  rw [e, IntKind.wrap_u64]
  have := pow_lt64 r h
  generalize 2 ^ r = X at *
  omega
theorem Lim.pow (i : Nat) (h : i < 128) : (i < 64 → Lim (2 ^ i) 0 (2 ^ i)) ∧ (64 ≤ i → Lim 0 (2 ^ (i - 64)) (2 ^ i)) := by
  constructor
  · intro hi; exact Lim.small _ (pow_lt64 i hi)
  · intro hi
    refine ⟨by omega, pow_lt64 _ (by omega), ?_⟩
    rw [Nat.zero_add, ← two64, ← Nat.pow_add]; congr 1; omega
theorem with_any {a b N : Nat} (h : Lim a b N) (i : Nat) (hi : i < 128) (w : World) : Calls Try.prog 33 #[.agg #[.int .u64 a, .int .u64 b], .int .i64 i] w (RetN w (N ||| 2 ^ i)) := by
  by_cases h6 : i < 64
  · have hl := h.or ((Lim.pow i hi).1 h6)
    rw [Nat.or_zero] at hl
    refine (with_walk0 a b (a ||| 2 ^ i) i (i : Int) (by omega) (by omega) (by omega) (by omega) ?_ w).mono fun e w' ⟨he, hb⟩ => ⟨_, _, hl, he, hb⟩
    rw [shl_one i h6, u64_or_nat _ _ h.1 (pow_lt64 i h6)]
  · have hl := h.or ((Lim.pow i hi).2 (by omega))
    rw [Nat.or_zero] at hl
    refine (with_walk1 a b (b ||| 2 ^ (i - 64)) (i - 64) (i : Int) (by omega) (by omega) (by omega) (by omega) ?_ w).mono fun e w' ⟨he, hb⟩ => ⟨_, _, hl, he, hb⟩
    rw [shl_one _ (by omega), u64_or_nat _ _ h.2.1 (pow_lt64 _ (by omega))]
set_option maxHeartbeats 400000 in
theorem mask_walk (W : Nat) (hW : W ≤ 128) (w : World) : Calls Try.prog 56 #[.int .i64 W] w (RetV w (.agg #[.int .u64 ((mk W 0 : Nat) : Int), .int .u64 ((mk W 1 : Nat) : Int)])) := by
  have c0 := fun wx => limbMask_any W 0 wx (by omega) (by omega)
  have c1 := fun wx => limbMask_any W 1 wx (by omega) (by omega)
  generalize mk W 0 = A at *
  generalize mk W 1 = B at *
  have H0 := Lib.hid c0
  have H1 := Lib.hid c1
  clear c0 c1
  go_enter Try.func56, Try.ntmps56
  go_wp2
  refine wp_loop_rounds 3 ?_
  rw [rounds_succ]; go_wp2_with fail
  refine (H0.out _).mono ?_; rintro e w' ⟨rfl, rfl⟩
  go_wp2
  rw [rounds_succ]; go_wp2_with fail
  refine (H1.out _).mono ?_; rintro e w' ⟨rfl, rfl⟩
  go_wp2
  rw [rounds_succ]; go_wp2
  refine bodyPost_ret (v := .agg #[.int .u64 (A : Int), .int .u64 (B : Int)]) (by simp [results, Try.results56, go_sem]) rfl ⟨rfl, ?_⟩
  exact (((Below.refl _ _).alloc (Nat.le_refl _) _).alloc (by simp) _)
theorem Lim.mask (W : Nat) (hW : W ≤ 128) : Lim (mk W 0) (mk W 1) (2 ^ W - 1) := by
  refine ⟨mk_lt _ _, mk_lt _ _, ?_⟩
  unfold mk
  by_cases h : W ≤ 64
  · have e1 : min 64 (W - 64 * 0) = W := by omega
    have e2 : min 64 (W - 64 * 1) = 0 := by omega
    rw [e1, e2]; omega
  · have e1 : min 64 (W - 64 * 0) = 64 := by omega
    have e2 : min 64 (W - 64 * 1) = W - 64 := by omega
    have e3 : (2 : Nat) ^ W = 2 ^ 64 * 2 ^ (W - 64) := by rw [← Nat.pow_add]; congr 1; omega
    have h2 : 0 < 2 ^ (W - 64) := Nat.pow_pos (by omega)
    rw [e1, e2, e3, two64]
    generalize 2 ^ (W - 64) = X at *
    omega
theorem mask_any (W : Nat) (hW : W ≤ 128) (w : World) : Calls Try.prog 56 #[.int .i64 W] w (RetN w (2 ^ W - 1)) :=
  (mask_walk W hW w).mono fun e w' ⟨he, hb⟩ => ⟨_, _, Lim.mask W hW, he, hb⟩
end Go.Proofs.Ytnnoflohekmnbaa
