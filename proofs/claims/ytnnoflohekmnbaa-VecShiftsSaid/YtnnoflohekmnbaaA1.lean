/-
  Small functions of package vec on numbers of two limbs over the translated program: what each call returns. Nothing is assumed.
-/
import Derived.Test.YtnnoflohekmnbaaProg
import Derived.WalkKit
import Derived.WalkSpells
import Derived.WalkLawsBesides
import Derived.LoopN
import Derived.IntWalk
import Derived.Lib.Hide
import Derived.Test.YtnnoflohekmnbaaM1
import Derived.Laws.BitsAllLaws
import Derived.Laws.Externs
import Derived.BigQuiet
import Derived.BigRegion
import Derived.Deep.QuietTactic
import Derived.Deep.RegionWith
import Derived.Deep.RegionHeld3
import Derived.StillTailTactics
import Derived.RegionTactic
import Derived.ChangeAlike
set_option linter.unusedVariables false
namespace Go.Proofs.Ytnnoflohekmnbaa
open Go.RowKit
theorem w64 (x : Int) (h0 : -9223372036854775808 ≤ x) (h1 : x < 9223372036854775808) : IntKind.i64.wrap x = x := IntWalk.i64_in x (by omega)
/-- A call that tells a number of two limbs, and changes nothing that was there. -/
def RetN (w0 : World) (N : Nat) (e : Ending) (w' : World) : Prop := ∃ c d : Nat, Lim c d N ∧ e = .returned (.agg #[.int .u64 c, .int .u64 d]) ∧ Below w0.heap.size w0 w'
def RetV (w0 : World) (v : Value) (e : Ending) (w' : World) : Prop := e = .returned v ∧ Below w0.heap.size w0 w'
set_option maxHeartbeats 400000 in
theorem limbsFor_any (n : Int) (w : World) (h0 : 0 ≤ n) (h1 : n ≤ 1000) :
    Calls Try.prog 37 #[.int .i64 n] w fun e w' => e = .returned (.int .i64 ((n + 63) / 64)) ∧ w = w' := by
  go_enter Try.func37, Try.ntmps37
  go_wp2
  go_ret
  exact ⟨by have : n + 64 - 1 = n + 63 := by omega
            rw [this]; rfl, rfl⟩
set_option maxHeartbeats 400000 in
theorem limb_any (a b : Nat) (i : Int) (w : World) : Calls Try.prog 87 #[.agg #[.int .u64 a, .int .u64 b], .int .i64 i] w fun e w' => e = .returned (.int .u64 (limbV a b i)) ∧ w' = w.alloc (.cells #[.int .u64 a, .int .u64 b] 62) := by
  by_cases h0 : i = 0
  · subst h0
    go_enter Try.func87, Try.ntmps87
    go_wp2
    go_ret
    exact ⟨rfl, rfl⟩
  · by_cases h1 : i = 1
    · subst h1
      go_enter Try.func87, Try.ntmps87
      go_wp2
      go_ret
      exact ⟨rfl, rfl⟩
    · have hv : limbV a b i = 0 := by unfold limbV; rw [if_neg h0, if_neg h1]
      rw [hv]
      have hc : i < 0 ∨ (¬ i < 0 ∧ 2 ≤ i) := by omega
      clear hv
      rcases hc with hc | ⟨hc, hd⟩
      all_goals
        go_enter Try.func87, Try.ntmps87
        go_wp2
        go_ret
        exact ⟨rfl, rfl⟩
theorem umax : IntKind.u64.max = ((18446744073709551615 : Nat) : Int) := by decide
theorem not_lim (a : Nat) (h : a < 18446744073709551616) : bits .xor .u64 IntKind.u64.max (a : Int) = ((18446744073709551615 - a : Nat) : Int) := by
  rw [umax, u64_xor_nat _ _ (by omega) h]
  rw [xor_all a h]
set_option maxHeartbeats 400000 in
theorem not_any {a b N : Nat} (h : Lim a b N) (w : World) : Calls Try.prog 55 #[.agg #[.int .u64 a, .int .u64 b]] w (RetN w (2 ^ 128 - 1 - N)) := by
  have HL : Hid (Lim a b N) := h
  obtain ⟨ha, hb, _⟩ := h
  have e1 := not_lim a ha
  have e2 := not_lim b hb
  generalize hA : 18446744073709551615 - a = A at *
  generalize hB : 18446744073709551615 - b = B at *
  have HA : Hid (18446744073709551615 - a = A) := hA
  have HB : Hid (18446744073709551615 - b = B) := hB
  clear hA hB
  go_enter Try.func55, Try.ntmps55
  go_wp2
  refine wp_loop_rounds 3 ?_
  rw [rounds_succ]; go_wp2
  rw [rounds_succ]; go_wp2
  rw [rounds_succ]; go_wp2
  refine bodyPost_ret (v := .agg #[.int .u64 (A : Int), .int .u64 (B : Int)]) (by simp [results, Try.results55, go_sem]) rfl ⟨A, B, ?_, rfl, ?_⟩
  · rw [← HA.out, ← HB.out]; exact HL.out.not
  · exact (((Below.refl _ _).alloc (Nat.le_refl _) _).alloc (by simp) _)
set_option maxHeartbeats 400000 in
theorem and_any {a b c d N K : Nat} (h : Lim a b N) (k : Lim c d K) (w : World) : Calls Try.prog 69 #[.agg #[.int .u64 a, .int .u64 b], .agg #[.int .u64 c, .int .u64 d]] w (RetN w (N &&& K)) := by
  have HL : Hid (Lim (a &&& c) (b &&& d) (N &&& K)) := h.and k
  have e1 := u64_and_nat a c h.1 k.1
  have e2 := u64_and_nat b d h.2.1 k.2.1
  generalize a &&& c = A at *
  generalize b &&& d = B at *
  clear h k
  go_enter Try.func69, Try.ntmps69
  go_wp2
  refine wp_loop_rounds 3 ?_
  rw [rounds_succ]; go_wp2
  go_region
  go_wp2
  rw [rounds_succ]; go_wp2
  go_region
  go_wp2
  rw [rounds_succ]; go_wp2
  refine bodyPost_ret (v := .agg #[.int .u64 (A : Int), .int .u64 (B : Int)]) (by simp [results, Try.results69, go_sem]) rfl ⟨A, B, HL.out, rfl, ?_⟩
  exact ((((Below.refl _ _).alloc (Nat.le_refl _) _).alloc (by simp) _).alloc (by simp; omega) _).drew.drew
set_option maxHeartbeats 400000 in
theorem or_any {a b c d N K : Nat} (h : Lim a b N) (k : Lim c d K) (w : World) : Calls Try.prog 54 #[.agg #[.int .u64 a, .int .u64 b], .agg #[.int .u64 c, .int .u64 d]] w (RetN w (N ||| K)) := by
  have HL : Hid (Lim (a ||| c) (b ||| d) (N ||| K)) := h.or k
  have e1 := u64_or_nat a c h.1 k.1
  have e2 := u64_or_nat b d h.2.1 k.2.1
  generalize a ||| c = A at *
  generalize b ||| d = B at *
  clear h k
  go_enter Try.func54, Try.ntmps54
  go_wp2
  refine wp_loop_rounds 3 ?_
  rw [rounds_succ]; go_wp2
  go_region
  go_wp2
  rw [rounds_succ]; go_wp2
  go_region
  go_wp2
  rw [rounds_succ]; go_wp2
  refine bodyPost_ret (v := .agg #[.int .u64 (A : Int), .int .u64 (B : Int)]) (by simp [results, Try.results54, go_sem]) rfl ⟨A, B, HL.out, rfl, ?_⟩
  exact ((((Below.refl _ _).alloc (Nat.le_refl _) _).alloc (by simp) _).alloc (by simp; omega) _).drew.drew
set_option maxHeartbeats 400000 in
theorem xor_any {a b c d N K : Nat} (h : Lim a b N) (k : Lim c d K) (w : World) : Calls Try.prog 70 #[.agg #[.int .u64 a, .int .u64 b], .agg #[.int .u64 c, .int .u64 d]] w (RetN w (N ^^^ K)) := by
  have HL : Hid (Lim (a ^^^ c) (b ^^^ d) (N ^^^ K)) := h.xor k
  have e1 := u64_xor_nat a c h.1 k.1
  have e2 := u64_xor_nat b d h.2.1 k.2.1
  generalize a ^^^ c = A at *
  generalize b ^^^ d = B at *
  clear h k
  go_enter Try.func70, Try.ntmps70
  go_wp2
  refine wp_loop_rounds 3 ?_
  rw [rounds_succ]; go_wp2
  go_region
  go_wp2
  rw [rounds_succ]; go_wp2
  go_region
  go_wp2
  rw [rounds_succ]; go_wp2
  refine bodyPost_ret (v := .agg #[.int .u64 (A : Int), .int .u64 (B : Int)]) (by simp [results, Try.results70, go_sem]) rfl ⟨A, B, HL.out, rfl, ?_⟩
  exact ((((Below.refl _ _).alloc (Nat.le_refl _) _).alloc (by simp) _).alloc (by simp; omega) _).drew.drew
theorem run_add64N (x y c : Nat) (hx : x < 18446744073709551616) (hy : y < 18446744073709551616) (hc : c ≤ 1) (w : World) : (callFunc 89 #[.int .u64 x, .int .u64 y, .int .u64 c]).run Try.prog w =
    .ok (.value (.tuple #[.int .u64 (((x + y + c) % 18446744073709551616 : Nat) : Int), .int .u64 (((x + y + c) / 18446744073709551616 : Nat) : Int)])) w := by
  rw [run_callFunc_extern Try.func89 (by kernel_rfl) (by kernel_rfl) (by kernel_rfl) (e := add64Entry) (by kernel_rfl), run_add64 x y c (by omega) (by omega) (by omega) (by omega)]
  simp only [Result.andThen]
  congr 5 <;> omega
theorem run_add64Z (x y : Nat) (hx : x < 18446744073709551616) (hy : y < 18446744073709551616) (w : World) : (callFunc 89 #[.int .u64 x, .int .u64 y, .int .u64 0]).run Try.prog w =
    .ok (.value (.tuple #[.int .u64 (((x + y) % 18446744073709551616 : Nat) : Int), .int .u64 (((x + y) / 18446744073709551616 : Nat) : Int)])) w := by
  have h := run_add64N x y 0 hx hy (by omega) w
  rw [Nat.add_zero] at h
  exact h
def sub64Entry : Array Value → Sem Value := fun args => do
  let (x, y, b) ← Extern.MathBitsCarry.three "Sub64" args
  pure (Extern.MathBitsCarry.pair ((x + Extern.MathBitsCarry.m64 - y - b) % Extern.MathBitsCarry.m64) (if x < y + b then 1 else 0))
theorem run_sub64 (x y b : Nat) (hb : b ≤ 1) (w : World) :
    (sub64Entry #[.int .u64 x, .int .u64 y, .int .u64 b]).run Try.prog w =
      .ok (.tuple #[.int .u64 (((x + 18446744073709551616 - y - b) % 18446744073709551616 : Nat) : Int), .int .u64 ((bor x (y + b) : Nat) : Int)]) w := by
  have : b = 0 ∨ b = 1 := by omega
  rcases this with rfl | rfl <;> rfl
theorem run_sub64N (x y b : Nat) (hb : b ≤ 1) (w : World) : (callFunc 90 #[.int .u64 x, .int .u64 y, .int .u64 b]).run Try.prog w =
      .ok (.value (.tuple #[.int .u64 (((x + 18446744073709551616 - y - b) % 18446744073709551616 : Nat) : Int), .int .u64 ((bor x (y + b) : Nat) : Int)])) w := by
  rw [run_callFunc_extern Try.func90 (by kernel_rfl) (by kernel_rfl) (by kernel_rfl) (e := sub64Entry) (by kernel_rfl), run_sub64 x y b hb]
  rfl
theorem run_sub64Z (x y : Nat) (w : World) : (callFunc 90 #[.int .u64 x, .int .u64 y, .int .u64 0]).run Try.prog w =
      .ok (.value (.tuple #[.int .u64 (((x + 18446744073709551616 - y) % 18446744073709551616 : Nat) : Int), .int .u64 ((bor x y : Nat) : Int)])) w := by
  have h := run_sub64N x y 0 (by omega) w
  rw [Nat.sub_zero, Nat.add_zero] at h
  exact h
set_option maxHeartbeats 400000 in
theorem plus_any {a b c d N K : Nat} (h : Lim a b N) (k : Lim c d K) (w : World) : Calls Try.prog 59 #[.agg #[.int .u64 a, .int .u64 b], .agg #[.int .u64 c, .int .u64 d]] w (RetN w ((N + K) % 2 ^ 128)) := by
  have HL := Lib.hid (h.plus k)
  generalize (N + K) % 2 ^ 128 = R at *
  have k1 : (a + c) / 18446744073709551616 ≤ 1 := by have := h.1; have := k.1; omega
  have r0 := fun wx => run_add64Z a c h.1 k.1 wx
  have r1 := fun wx => run_add64N b d ((a + c) / 18446744073709551616) h.2.1 k.2.1 k1 wx
  generalize (a + c) % 18446744073709551616 = A at *
  generalize (a + c) / 18446744073709551616 = C at *
  generalize (b + d + C) % 18446744073709551616 = B at *
  generalize (b + d + C) / 18446744073709551616 = D at *
  clear h k
  go_enter Try.func59, Try.ntmps59
  go_wp2
  refine wp_loop_rounds 3 ?_
  rw [rounds_succ]; go_wp2
  go_region
  go_wp2
  rw [rounds_succ]; go_wp2
  go_region
  go_wp2
  rw [rounds_succ]; go_wp2
  refine bodyPost_ret (v := .agg #[.int .u64 (A : Int), .int .u64 (B : Int)]) (by simp [results, Try.results59, go_sem]) rfl ⟨A, B, HL.out, rfl, ?_⟩
  exact ((((Below.refl _ _).alloc (Nat.le_refl _) _).alloc (by simp) _).alloc (by simp; omega) _).drew.drew
set_option maxHeartbeats 400000 in
theorem less_any {a b c d N K : Nat} (h : Lim a b N) (k : Lim c d K) (w : World) : Calls Try.prog 79 #[.agg #[.int .u64 a, .int .u64 b], .agg #[.int .u64 c, .int .u64 d]] w (RetV w (.bool (decide (N < K)))) := by
  have HL := h.less k
  have r0 := fun wx => run_sub64Z a c wx
  have r1 := fun wx => run_sub64N b d (bor a c) (bor_le _ _) wx
  generalize (a + 18446744073709551616 - c) % 18446744073709551616 = A at *
  generalize bor a c = C at *
  generalize (b + 18446744073709551616 - d - C) % 18446744073709551616 = B at *
  generalize bor b (d + C) = D at *
  have hD : ((D : Int) == 1) = decide (N < K) := by
    rw [Bool.eq_iff_iff, beq_iff_eq, decide_eq_true_eq, ← HL]; omega
  generalize decide (N < K) = R at *
  clear h k HL
  go_enter Try.func79, Try.ntmps79
  go_wp2
  refine wp_loop_rounds 3 ?_
  rw [rounds_succ]; go_wp2
  go_region
  go_wp2
  rw [rounds_succ]; go_wp2
  go_region
  go_wp2
  rw [rounds_succ]; go_wp2
  go_ret
  exact ⟨rfl, (((Below.refl _ _).alloc (Nat.le_refl _) _).alloc (by simp) _).drew.drew⟩
end Go.Proofs.Ytnnoflohekmnbaa
