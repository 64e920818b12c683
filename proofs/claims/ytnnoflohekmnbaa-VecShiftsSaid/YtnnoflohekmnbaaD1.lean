/-
  vidimusref02's Right and Same over the translated program. Nothing is assumed.
-/
import Derived.Test.YtnnoflohekmnbaaProg
import Derived.WalkKit
import Derived.WalkSpells
import Derived.WalkLawsBesides
import Derived.LoopN
import Derived.IntWalk
import Derived.Lib.Hide
import Derived.Test.YtnnoflohekmnbaaC7
import Derived.Laws.BitsAllLaws
import Derived.Laws.Externs
import Derived.BigQuiet
import Derived.BigRegion
import Derived.Deep.QuietTactic
import Derived.Deep.RegionWith
import Derived.Deep.RegionHeld3
import Derived.StillTailTactics
import Derived.RegionTactic
import Derived.ChangeAlike
set_option linter.unusedVariables false
namespace Go.Proofs.Ytnnoflohekmnbaa
open Go.RowKit
set_option maxHeartbeats 400000 in
theorem power_any (n : Nat) (hn : n ≤ 63) (w : World) : Calls Try.prog 36 #[.int .i64 n] w fun e w' => e = .returned (.int .u64 ((2 ^ n : Nat) : Int)) ∧ w = w' := by
  obtain ⟨R, hR⟩ : ∃ R : Nat, 2 ^ n = R := ⟨_, rfl⟩
  rw [hR]
  have HR := Lib.hid hR
  clear hR
  go_enter Try.func36, Try.ntmps36
  go_wp2
  go_loop [3, 4] (fun o i => ∃ j X : Nat, j ≤ n ∧ i = .int .i64 j ∧ o = .int .u64 X ∧ Hid (X = 2 ^ j)) (fun _ i => n - (intOf i).toNat)
  case atStart => exact ⟨0, 1, by omega, rfl, rfl, rfl⟩
  case round =>
    obtain ⟨j, X, hj, rfl, rfl, hX⟩ := hrel
    by_cases hlt : j < n
    · have hX2 : 2 * X < 18446744073709551616 := by
        rw [hX.out, ← Nat.pow_succ']
        exact pow_lt64 _ (by omega)
      have e1 : IntKind.u64.wrap ((X : Int) * 2) = ((X * 2 : Nat) : Int) := by rw [IntKind.wrap_u64]; omega
      have HX2 : Hid (X * 2 = 2 ^ (j + 1)) := by show _ = _; rw [hX.out, Nat.pow_succ]
      generalize X * 2 = Y at *
      clear hX2 HR
      go_wp2
      go_round
      case rel => exact ⟨j + 1, Y, by omega, by go_num, rfl, HX2⟩
      case measure => simp [intOf]; omega
    · obtain rfl : j = n := by omega
      have HE : Hid (X = R) := hX.out.trans HR.out
      clear hX HR
      go_wp2
      go_ret
      exact ⟨by rw [HE.out]; rfl, rfl⟩
/-- Which vectors are right, as the document says. -/
def rightB (W : Int) (l : List Nat) : Bool :=
  decide (1 ≤ W) && decide (W ≤ 128) && decide ((l.length : Int) = (W + 63) / 64) && ((W % 64 == 0) || decide (l.getD (l.length - 1) 0 < 2 ^ (W % 64).toNat))
set_option maxHeartbeats 400000 in
theorem refRight_low (V : Value) (W : Int) (w : World) (h : W < 1) : Calls Try.prog 14 #[.agg #[.int .i64 W, V]] w (RetV w (.bool false)) := by
  have d1 : decide (W < 1) = true := decide_eq_true h
  go_enter Try.func14, Try.ntmps14
  go_wp2
  go_ret
  exact ⟨rfl, by repeat (first | exact Below.refl _ _ | refine below_drewN ?_ _ | refine bal ?_ _)⟩
set_option maxHeartbeats 400000 in
theorem refRight_high (V : Value) (W : Int) (w : World) (h : 128 < W) : Calls Try.prog 14 #[.agg #[.int .i64 W, V]] w (RetV w (.bool false)) := by
  have d1 : decide (W < 1) = false := decide_eq_false (by omega)
  have d2 : decide (128 < W) = true := decide_eq_true h
  go_enter Try.func14, Try.ntmps14
  go_wp2
  go_ret
  exact ⟨rfl, by repeat (first | exact Below.refl _ _ | refine below_drewN ?_ _ | refine bal ?_ _)⟩
set_option maxHeartbeats 400000 in
theorem refRight_len (A : Option Addr) (k c : Nat) (W : Int) (w : World) (h1 : 1 ≤ W) (h2 : W ≤ 128) (hk : (k : Int) ≠ (W + 63) / 64) : Calls Try.prog 14 #[.agg #[.int .i64 W, .slice A k c]] w (RetV w (.bool false)) := by
  have d1 : decide (W < 1) = false := decide_eq_false (by omega)
  have d2 : decide (128 < W) = false := decide_eq_false (by omega)
  have d3 : ((k : Int) != (W + 63) / 64) = true := by rw [bne_iff_ne]; exact hk
  clear hk
  go_enter Try.func14, Try.ntmps14
  go_wp2
  go_ret
  exact ⟨rfl, by repeat (first | exact Below.refl _ _ | refine below_drewN ?_ _ | refine bal ?_ _)⟩
set_option maxHeartbeats 400000 in
theorem refRight_full (A : Option Addr) (k c : Nat) (W : Int) (w : World) (h1 : 1 ≤ W) (h2 : W ≤ 128) (hk : (k : Int) = (W + 63) / 64) (h0 : W % 64 = 0) : Calls Try.prog 14 #[.agg #[.int .i64 W, .slice A k c]] w (RetV w (.bool true)) := by
  have d1 : decide (W < 1) = false := decide_eq_false (by omega)
  have d2 : decide (128 < W) = false := decide_eq_false (by omega)
  have d3 : ((k : Int) != (W + 63) / 64) = false := by rw [bne_eq_false_iff_eq]; exact hk
  have d4 : (W % 64 == 0) = true := by rw [beq_iff_eq]; exact h0
  clear hk h0
  go_enter Try.func14, Try.ntmps14
  go_wp2_with fail
  go_quiet (fail)
  go_wp2
  go_ret
  exact ⟨rfl, by repeat (first | exact Below.refl _ _ | refine below_drewN ?_ _ | refine bal ?_ _)⟩
set_option maxHeartbeats 1000000 in
theorem refRight_one (ad : Addr) (c x r : Nat) (W : Int) (R : Bool) (w : World) (h1 : 1 ≤ W) (h2 : W ≤ 64) (hr : W % 64 = (r : Int)) (hr0 : r ≠ 0) (hc : w.cell? ad = some (.int .u64 x)) (hb : ad.block < w.heap.size) (hR : decide (x < 2 ^ r) = R) :
    Calls Try.prog 14 #[.agg #[.int .i64 W, .slice (some ad) 1 c]] w (RetV w (.bool R)) := by
  have d1 : decide (W < 1) = false := decide_eq_false (by omega)
  have d2 : decide (128 < W) = false := decide_eq_false (by omega)
  have d3 : ((1 : Int) != (W + 63) / 64) = false := by rw [bne_eq_false_iff_eq]; omega
  have d4 : (W % 64 == 0) = false := by rw [beq_eq_false_iff_ne]; omega
  have d4' : ((r : Int) == 0) = false := by rw [beq_eq_false_iff_ne]; omega
  have hc' : (w.alloc (.cells #[.int .i64 W, .slice (some ad) 1 c] 24)).cell? ad = some (.int .u64 x) := ((bal (Below.refl w.heap.size w) _).cell hb).trans hc
  have H : Hid (∀ wx, Calls Try.prog 36 #[.int .i64 (r : Int)] wx fun e w' => e = .returned (.int .u64 ((2 ^ r : Nat) : Int)) ∧ w' = wx) := fun wx => (power_any r (by omega) wx).mono fun e w' ⟨he, hw⟩ => ⟨he, hw.symm⟩
  have HRR := Lib.hid hR
  generalize 2 ^ r = P at *
  clear hc hb hR hr0
  go_enter Try.func14, Try.ntmps14
  go_wp2_with fail
  go_quiet ((go_at_call 36; exact Calls.quiet_of_same (H.out _)))
  go_wp2
  go_ret
  exact ⟨by rw [← HRR.out]; simp, by repeat (first | exact Below.refl _ _ | refine below_drewN ?_ _ | refine bal ?_ _)⟩
set_option maxHeartbeats 1000000 in
theorem refRight_two (ad : Addr) (c x r : Nat) (W : Int) (R : Bool) (w : World) (h1 : 65 ≤ W) (h2 : W ≤ 128) (hr : W % 64 = (r : Int)) (hr0 : r ≠ 0) (hc : w.cell? (ad.add 1) = some (.int .u64 x)) (hb : ad.block < w.heap.size) (hR : decide (x < 2 ^ r) = R) :
    Calls Try.prog 14 #[.agg #[.int .i64 W, .slice (some ad) 2 c]] w (RetV w (.bool R)) := by
  have d1 : decide (W < 1) = false := decide_eq_false (by omega)
  have d2 : decide (128 < W) = false := decide_eq_false (by omega)
  have d3 : ((2 : Int) != (W + 63) / 64) = false := by rw [bne_eq_false_iff_eq]; omega
  have d4 : (W % 64 == 0) = false := by rw [beq_eq_false_iff_ne]; omega
  have d4' : ((r : Int) == 0) = false := by rw [beq_eq_false_iff_ne]; omega
  have hc' : (w.alloc (.cells #[.int .i64 W, .slice (some ad) 2 c] 24)).cell? ⟨ad.block, ad.off + 1, none⟩ = some (.int .u64 x) := ((bal (Below.refl w.heap.size w) _).cell (p := ad.add 1) (by rw [block_add]; exact hb)).trans hc
  have H : Hid (∀ wx, Calls Try.prog 36 #[.int .i64 (r : Int)] wx fun e w' => e = .returned (.int .u64 ((2 ^ r : Nat) : Int)) ∧ w' = wx) := fun wx => (power_any r (by omega) wx).mono fun e w' ⟨he, hw⟩ => ⟨he, hw.symm⟩
  have HRR := Lib.hid hR
  generalize 2 ^ r = P at *
  clear hc hb hR hr0
  go_enter Try.func14, Try.ntmps14
  go_wp2_with fail
  go_quiet ((go_at_call 36; exact Calls.quiet_of_same (H.out _)))
  go_wp2
  go_ret
  exact ⟨by rw [← HRR.out]; simp, by repeat (first | exact Below.refl _ _ | refine below_drewN ?_ _ | refine bal ?_ _)⟩
theorem R64.at_ {w : World} {A : Option Addr} {l : List Nat} (h : R64 w w.heap.size A l) (i : Nat) (hi : i < l.length) : ∃ ad, A = some ad ∧ ad.block < w.heap.size ∧ w.cell? (ad.add i) = some (.int .u64 ((l.getD i 0 : Nat) : Int)) := h i hi
theorem refRight_any (A : Option Addr) (c : Nat) (l : List Nat) (W : Int) (w : World) (h : R64 w w.heap.size A l) : Calls Try.prog 14 #[.agg #[.int .i64 W, .slice A l.length c]] w (RetV w (.bool (rightB W l))) := by
  unfold rightB
  by_cases h1 : 1 ≤ W
  · by_cases h2 : W ≤ 128
    · by_cases hk : (l.length : Int) = (W + 63) / 64
      · by_cases h0 : W % 64 = 0
        · have e : (decide (1 ≤ W) && decide (W ≤ 128) && decide ((l.length : Int) = (W + 63) / 64) && ((W % 64 == 0) || decide (l.getD (l.length - 1) 0 < 2 ^ (W % 64).toNat))) = true := by simp [h1, h2, hk, h0]
          rw [e]
          exact refRight_full A l.length c W w h1 h2 hk h0
        · obtain ⟨r, hr⟩ : ∃ r : Nat, W % 64 = (r : Int) := ⟨(W % 64).toNat, by omega⟩
          have e : (decide (1 ≤ W) && decide (W ≤ 128) && decide ((l.length : Int) = (W + 63) / 64) && ((W % 64 == 0) || decide (l.getD (l.length - 1) 0 < 2 ^ (W % 64).toNat))) = decide (l.getD (l.length - 1) 0 < 2 ^ r) := by
            have hb : (W % 64 == 0) = false := by rw [beq_eq_false_iff_ne]; exact h0
            have ht : (W % 64).toNat = r := by omega
            rw [decide_eq_true h1, decide_eq_true h2, decide_eq_true hk, hb, ht]; rfl
          rw [e]
          by_cases h6 : W ≤ 64
          · have hl : l.length = 1 := by omega
            obtain ⟨ad, rfl, hb, hc⟩ := h.at_ 0 (by omega)
            rw [hl]
            rw [add_zero_] at hc
            exact refRight_one ad c _ r W _ w h1 h6 hr (by omega) hc hb rfl
          · have hl : l.length = 2 := by omega
            obtain ⟨ad, rfl, hb, hc⟩ := h.at_ 1 (by omega)
            rw [hl]
            exact refRight_two ad c _ r W _ w (by omega) h2 hr (by omega) hc hb rfl
      · have e : (decide (1 ≤ W) && decide (W ≤ 128) && decide ((l.length : Int) = (W + 63) / 64) && ((W % 64 == 0) || decide (l.getD (l.length - 1) 0 < 2 ^ (W % 64).toNat))) = false := by simp [hk]
        rw [e]
        exact refRight_len A l.length c W w h1 h2 hk
    · have e : (decide (1 ≤ W) && decide (W ≤ 128) && decide ((l.length : Int) = (W + 63) / 64) && ((W % 64 == 0) || decide (l.getD (l.length - 1) 0 < 2 ^ (W % 64).toNat))) = false := by simp [h2]
      rw [e]
      exact refRight_high _ W w (by omega)
  · have e : (decide (1 ≤ W) && decide (W ≤ 128) && decide ((l.length : Int) = (W + 63) / 64) && ((W % 64 == 0) || decide (l.getD (l.length - 1) 0 < 2 ^ (W % 64).toNat))) = false := by simp [h1]
    rw [e]
    exact refRight_low _ W w (by omega)
/-- The number that limbs tell. -/
def numL : List Nat → Nat
  | [] => 0
  | x :: t => x + 18446744073709551616 * numL t
theorem right_vc {w : World} {A : Option Addr} {c : Nat} {l : List Nat} {W : Int} (h : R64 w w.heap.size A l) (hl : ∀ x ∈ l, x < 18446744073709551616) (hc : l.length ≤ c) (hc2 : c ≤ maxLen) (hr : rightB W l = true) :
    ∃ (ad : Addr) (V : Nat), A = some ad ∧ W = (V : Int) ∧ l.length = lm V ∧ Vc w w.heap.size ad c V (numL l) := by
  unfold rightB at hr
  simp only [Bool.and_eq_true, decide_eq_true_eq, Bool.or_eq_true, beq_iff_eq] at hr
  obtain ⟨⟨⟨h1, h2⟩, h3⟩, h4⟩ := hr
  obtain ⟨V, rfl⟩ := Int.eq_ofNat_of_zero_le (show 0 ≤ W by omega)
  have hlm : l.length = lm V := by unfold lm; omega
  obtain ⟨ad, hA, hb, _⟩ := h.at_ 0 (by omega)
  refine ⟨ad, V, hA, rfl, hlm, by omega, by omega, ?_, by omega, hc2, ?_⟩
  · by_cases h6 : V ≤ 64
    · obtain ⟨x, rfl⟩ : ∃ x, l = [x] := by
        match l, (show l.length = 1 by omega) with
        | [x], _ => exact ⟨x, rfl⟩
      have hx := hl x (by simp)
      simp only [numL, Nat.mul_zero, Nat.add_zero]
      rcases h4 with h4 | h4
      · have : V = 64 := by omega
        subst this
        rw [two64]; exact hx
      · have e : ((V : Int) % 64).toNat = V % 64 := by omega
        have e2 : V % 64 = V ∨ V = 64 := by omega
        rcases e2 with e2 | e2
        · rw [e, e2] at h4; simpa using h4
        · subst e2; rw [two64]; exact hx
    · obtain ⟨x, y, rfl⟩ : ∃ x y, l = [x, y] := by
        match l, (show l.length = 2 by omega) with
        | [x, y], _ => exact ⟨x, y, rfl⟩
      have hx := hl x (by simp)
      have hy := hl y (by simp)
      simp only [numL, Nat.mul_zero, Nat.add_zero]
      have e3 : (2 : Nat) ^ V = 18446744073709551616 * 2 ^ (V - 64) := by rw [← two64, ← Nat.pow_add]; congr 1; omega
      have hy2 : y < 2 ^ (V - 64) := by
        rcases h4 with h4 | h4
        · have : V = 128 := by omega
          subst this
          show y < 2 ^ 64
          rw [two64]; exact hy
        · have e : ((V : Int) % 64).toNat = V - 64 ∨ V = 128 := by omega
          rcases e with e | e
          · rw [e] at h4; simpa using h4
          · subst e
            show y < 2 ^ 64
            rw [two64]; exact hy
      rw [e3]
      have : 18446744073709551616 * (y + 1) ≤ 18446744073709551616 * 2 ^ (V - 64) := Nat.mul_le_mul_left _ hy2
      omega
  · have hll : lmL V (numL l) = l := by
      unfold lmL
      by_cases h6 : V ≤ 64
      · obtain ⟨x, rfl⟩ : ∃ x, l = [x] := by
          match l, (show l.length = 1 by omega) with
          | [x], _ => exact ⟨x, rfl⟩
        rw [if_pos h6]; simp [numL]
      · obtain ⟨x, y, rfl⟩ : ∃ x y, l = [x, y] := by
          match l, (show l.length = 2 by omega) with
          | [x, y], _ => exact ⟨x, y, rfl⟩
        have hx := hl x (by simp)
        rw [if_neg h6]
        simp only [numL, Nat.mul_zero, Nat.add_zero]
        congr 1
        · omega
        · congr 1; omega
    rw [hll, ← hA]; exact h
set_option maxHeartbeats 400000 in
theorem sam_one_yes (W : Int) (ad ad' : Addr) (c c' x x' : Nat) (w : World) (h : w.cell? ad = some (.int .u64 x)) (h' : w.cell? ad' = some (.int .u64 x)) (hb : ad.block < w.heap.size) (hb' : ad'.block < w.heap.size) :
    Calls Try.prog 16 #[.agg #[.int .i64 W, .slice (some ad) 1 c], .agg #[.int .i64 W, .slice (some ad') 1 c']] w (RetV w (.bool true)) := by
  have g0 : ((w.alloc (.cells #[.int .i64 W, .slice (some ad) 1 c] 24)).alloc (.cells #[.int .i64 W, .slice (some ad') 1 c'] 24)).cell? ad = some (.int .u64 x) := ((bal (bal (Below.refl w.heap.size w) _) _).cell hb).trans h
  have g0' : ((w.alloc (.cells #[.int .i64 W, .slice (some ad) 1 c] 24)).alloc (.cells #[.int .i64 W, .slice (some ad') 1 c'] 24)).cell? ad' = some (.int .u64 x) := ((bal (bal (Below.refl w.heap.size w) _) _).cell hb').trans h'
  have dW : (W != W) = false := by simp
  clear h h' hb hb'
  go_enter Try.func16, Try.ntmps16
  go_wp2
  refine wp_loop_rounds 2 ?_
  rw [rounds_succ]; go_wp2_with fail
  go_quiet (fail)
  go_wp2
  rw [rounds_succ]; go_wp2
  go_ret
  exact ⟨rfl, by repeat (first | exact Below.refl _ _ | refine below_drewN ?_ _ | refine bal ?_ _)⟩
set_option maxHeartbeats 400000 in
theorem sam_one_no (W : Int) (ad ad' : Addr) (c c' x x' : Nat) (w : World) (h : w.cell? ad = some (.int .u64 x)) (h' : w.cell? ad' = some (.int .u64 x')) (hb : ad.block < w.heap.size) (hb' : ad'.block < w.heap.size) (hx : x ≠ x') :
    Calls Try.prog 16 #[.agg #[.int .i64 W, .slice (some ad) 1 c], .agg #[.int .i64 W, .slice (some ad') 1 c']] w (RetV w (.bool false)) := by
  have g0 : ((w.alloc (.cells #[.int .i64 W, .slice (some ad) 1 c] 24)).alloc (.cells #[.int .i64 W, .slice (some ad') 1 c'] 24)).cell? ad = some (.int .u64 x) := ((bal (bal (Below.refl w.heap.size w) _) _).cell hb).trans h
  have g0' : ((w.alloc (.cells #[.int .i64 W, .slice (some ad) 1 c] 24)).alloc (.cells #[.int .i64 W, .slice (some ad') 1 c'] 24)).cell? ad' = some (.int .u64 x') := ((bal (bal (Below.refl w.heap.size w) _) _).cell hb').trans h'
  have dW : (W != W) = false := by simp
  have d : ((x : Int) != (x' : Int)) = true := by rw [bne_iff_ne]; omega
  have d' : (x != x') = true := by rw [bne_iff_ne]; omega
  clear h h' hb hb'
  go_enter Try.func16, Try.ntmps16
  go_wp2
  refine wp_loop_rounds 2 ?_
  rw [rounds_succ]; go_wp2_with fail
  go_quiet (fail)
  go_wp2
  go_ret
  exact ⟨rfl, by repeat (first | exact Below.refl _ _ | refine below_drewN ?_ _ | refine bal ?_ _)⟩
set_option maxHeartbeats 400000 in
theorem sam_two_yes (W : Int) (ad ad' : Addr) (c c' x y x' y' : Nat) (w : World) (h : w.cell? ad = some (.int .u64 x)) (h1 : w.cell? (ad.add 1) = some (.int .u64 y)) (h' : w.cell? ad' = some (.int .u64 x)) (h1' : w.cell? (ad'.add 1) = some (.int .u64 y)) (hb : ad.block < w.heap.size) (hb' : ad'.block < w.heap.size) :
    Calls Try.prog 16 #[.agg #[.int .i64 W, .slice (some ad) 2 c], .agg #[.int .i64 W, .slice (some ad') 2 c']] w (RetV w (.bool true)) := by
  have g0 : ((w.alloc (.cells #[.int .i64 W, .slice (some ad) 2 c] 24)).alloc (.cells #[.int .i64 W, .slice (some ad') 2 c'] 24)).cell? ad = some (.int .u64 x) := ((bal (bal (Below.refl w.heap.size w) _) _).cell hb).trans h
  have g0' : ((w.alloc (.cells #[.int .i64 W, .slice (some ad) 2 c] 24)).alloc (.cells #[.int .i64 W, .slice (some ad') 2 c'] 24)).cell? ad' = some (.int .u64 x) := ((bal (bal (Below.refl w.heap.size w) _) _).cell hb').trans h'
  have g1 : ((w.alloc (.cells #[.int .i64 W, .slice (some ad) 2 c] 24)).alloc (.cells #[.int .i64 W, .slice (some ad') 2 c'] 24)).cell? ⟨ad.block, ad.off + 1, none⟩ = some (.int .u64 y) := ((bal (bal (Below.refl w.heap.size w) _) _).cell (p := ad.add 1) (by rw [block_add]; exact hb)).trans h1
  have g1' : ((w.alloc (.cells #[.int .i64 W, .slice (some ad) 2 c] 24)).alloc (.cells #[.int .i64 W, .slice (some ad') 2 c'] 24)).cell? ⟨ad'.block, ad'.off + 1, none⟩ = some (.int .u64 y) := ((bal (bal (Below.refl w.heap.size w) _) _).cell (p := ad'.add 1) (by rw [block_add]; exact hb')).trans h1'
  have dW : (W != W) = false := by simp
  clear h h' hb hb' h1 h1'
  go_enter Try.func16, Try.ntmps16
  go_wp2
  refine wp_loop_rounds 3 ?_
  rw [rounds_succ]; go_wp2_with fail
  go_quiet (fail)
  go_wp2
  rw [rounds_succ]; go_wp2_with fail
  go_quiet (fail)
  go_wp2
  rw [rounds_succ]; go_wp2
  go_ret
  exact ⟨rfl, by repeat (first | exact Below.refl _ _ | refine below_drewN ?_ _ | refine bal ?_ _)⟩
set_option maxHeartbeats 400000 in
theorem sam_two_no0 (W : Int) (ad ad' : Addr) (c c' x y x' y' : Nat) (w : World) (h : w.cell? ad = some (.int .u64 x)) (h1 : w.cell? (ad.add 1) = some (.int .u64 y)) (h' : w.cell? ad' = some (.int .u64 x')) (h1' : w.cell? (ad'.add 1) = some (.int .u64 y')) (hb : ad.block < w.heap.size) (hb' : ad'.block < w.heap.size) (hx : x ≠ x') :
    Calls Try.prog 16 #[.agg #[.int .i64 W, .slice (some ad) 2 c], .agg #[.int .i64 W, .slice (some ad') 2 c']] w (RetV w (.bool false)) := by
  have g0 : ((w.alloc (.cells #[.int .i64 W, .slice (some ad) 2 c] 24)).alloc (.cells #[.int .i64 W, .slice (some ad') 2 c'] 24)).cell? ad = some (.int .u64 x) := ((bal (bal (Below.refl w.heap.size w) _) _).cell hb).trans h
  have g0' : ((w.alloc (.cells #[.int .i64 W, .slice (some ad) 2 c] 24)).alloc (.cells #[.int .i64 W, .slice (some ad') 2 c'] 24)).cell? ad' = some (.int .u64 x') := ((bal (bal (Below.refl w.heap.size w) _) _).cell hb').trans h'
  have g1 : ((w.alloc (.cells #[.int .i64 W, .slice (some ad) 2 c] 24)).alloc (.cells #[.int .i64 W, .slice (some ad') 2 c'] 24)).cell? ⟨ad.block, ad.off + 1, none⟩ = some (.int .u64 y) := ((bal (bal (Below.refl w.heap.size w) _) _).cell (p := ad.add 1) (by rw [block_add]; exact hb)).trans h1
  have g1' : ((w.alloc (.cells #[.int .i64 W, .slice (some ad) 2 c] 24)).alloc (.cells #[.int .i64 W, .slice (some ad') 2 c'] 24)).cell? ⟨ad'.block, ad'.off + 1, none⟩ = some (.int .u64 y') := ((bal (bal (Below.refl w.heap.size w) _) _).cell (p := ad'.add 1) (by rw [block_add]; exact hb')).trans h1'
  have dW : (W != W) = false := by simp
  have d : ((x : Int) != (x' : Int)) = true := by rw [bne_iff_ne]; omega
  have d' : (x != x') = true := by rw [bne_iff_ne]; omega
  clear h h' hb hb' h1 h1'
  go_enter Try.func16, Try.ntmps16
  go_wp2
  refine wp_loop_rounds 3 ?_
  rw [rounds_succ]; go_wp2_with fail
  go_quiet (fail)
  go_wp2
  go_ret
  exact ⟨rfl, by repeat (first | exact Below.refl _ _ | refine below_drewN ?_ _ | refine bal ?_ _)⟩
set_option maxHeartbeats 400000 in
theorem sam_two_no1 (W : Int) (ad ad' : Addr) (c c' x y x' y' : Nat) (w : World) (h : w.cell? ad = some (.int .u64 x)) (h1 : w.cell? (ad.add 1) = some (.int .u64 y)) (h' : w.cell? ad' = some (.int .u64 x)) (h1' : w.cell? (ad'.add 1) = some (.int .u64 y')) (hb : ad.block < w.heap.size) (hb' : ad'.block < w.heap.size) (hx : y ≠ y') :
    Calls Try.prog 16 #[.agg #[.int .i64 W, .slice (some ad) 2 c], .agg #[.int .i64 W, .slice (some ad') 2 c']] w (RetV w (.bool false)) := by
  have g0 : ((w.alloc (.cells #[.int .i64 W, .slice (some ad) 2 c] 24)).alloc (.cells #[.int .i64 W, .slice (some ad') 2 c'] 24)).cell? ad = some (.int .u64 x) := ((bal (bal (Below.refl w.heap.size w) _) _).cell hb).trans h
  have g0' : ((w.alloc (.cells #[.int .i64 W, .slice (some ad) 2 c] 24)).alloc (.cells #[.int .i64 W, .slice (some ad') 2 c'] 24)).cell? ad' = some (.int .u64 x) := ((bal (bal (Below.refl w.heap.size w) _) _).cell hb').trans h'
  have g1 : ((w.alloc (.cells #[.int .i64 W, .slice (some ad) 2 c] 24)).alloc (.cells #[.int .i64 W, .slice (some ad') 2 c'] 24)).cell? ⟨ad.block, ad.off + 1, none⟩ = some (.int .u64 y) := ((bal (bal (Below.refl w.heap.size w) _) _).cell (p := ad.add 1) (by rw [block_add]; exact hb)).trans h1
  have g1' : ((w.alloc (.cells #[.int .i64 W, .slice (some ad) 2 c] 24)).alloc (.cells #[.int .i64 W, .slice (some ad') 2 c'] 24)).cell? ⟨ad'.block, ad'.off + 1, none⟩ = some (.int .u64 y') := ((bal (bal (Below.refl w.heap.size w) _) _).cell (p := ad'.add 1) (by rw [block_add]; exact hb')).trans h1'
  have dW : (W != W) = false := by simp
  have d : ((y : Int) != (y' : Int)) = true := by rw [bne_iff_ne]; omega
  have d' : (y != y') = true := by rw [bne_iff_ne]; omega
  clear h h' hb hb' h1 h1'
  go_enter Try.func16, Try.ntmps16
  go_wp2
  refine wp_loop_rounds 3 ?_
  rw [rounds_succ]; go_wp2_with fail
  go_quiet (fail)
  go_wp2
  rw [rounds_succ]; go_wp2_with fail
  go_quiet (fail)
  go_wp2
  go_ret
  exact ⟨rfl, by repeat (first | exact Below.refl _ _ | refine below_drewN ?_ _ | refine bal ?_ _)⟩
set_option maxHeartbeats 400000 in
theorem sam_wide (A A' : Value) (W V : Int) (w : World) (h : W ≠ V) : Calls Try.prog 16 #[.agg #[.int .i64 W, A], .agg #[.int .i64 V, A']] w (RetV w (.bool false)) := by
  have d : (W != V) = true := by rw [bne_iff_ne]; exact h
  go_enter Try.func16, Try.ntmps16
  go_wp2
  go_ret
  exact ⟨rfl, by repeat (first | exact Below.refl _ _ | refine below_drewN ?_ _ | refine bal ?_ _)⟩
set_option maxHeartbeats 400000 in
theorem sam_none (w : World) : Calls Try.prog 16 #[.agg #[.int .i64 0, .slice none 0 0], .agg #[.int .i64 0, .slice none 0 0]] w (RetV w (.bool true)) := by
  go_enter Try.func16, Try.ntmps16
  go_wp2
  refine wp_loop_rounds 1 ?_
  rw [rounds_succ]; go_wp2
  go_ret
  exact ⟨rfl, by repeat (first | exact Below.refl _ _ | refine below_drewN ?_ _ | refine bal ?_ _)⟩
theorem sam_any {w : World} {ad ad' : Addr} {c c' W N K : Nat} (h : Vc w w.heap.size ad c W N) (h' : Vc w w.heap.size ad' c' W K) :
    Calls Try.prog 16 #[.agg #[.int .i64 W, .slice (some ad) (lm W) c], .agg #[.int .i64 W, .slice (some ad') (lm W) c']] w (RetV w (.bool (N == K))) := by
  by_cases hW : W ≤ 64
  · obtain ⟨e, hn, hc, hb⟩ := h.one hW
    obtain ⟨e', hn', hc', hb'⟩ := h'.one hW
    rw [e]
    by_cases hx : N = K
    · subst hx
      have : (N == N) = true := by simp
      rw [this]
      exact sam_one_yes W ad ad' c c' N 0 w hc hc' hb hb'
    · have : (N == K) = false := by simp [hx]
      rw [this]
      exact sam_one_no W ad ad' c c' N K w hc hc' hb hb' hx
  · obtain ⟨e, hc, hc1, hb⟩ := h.two hW
    obtain ⟨e', hc', hc1', hb'⟩ := h'.two hW
    rw [e]
    by_cases hx : N % 18446744073709551616 = K % 18446744073709551616
    · by_cases hy : N / 18446744073709551616 = K / 18446744073709551616
      · have : (N == K) = true := by rw [beq_iff_eq]; omega
        rw [this]
        rw [← hx] at hc'
        rw [← hy] at hc1'
        exact sam_two_yes W ad ad' c c' _ _ 0 0 w hc hc1 hc' hc1' hb hb'
      · have : (N == K) = false := by rw [beq_eq_false_iff_ne]; omega
        rw [this]
        rw [← hx] at hc'
        exact sam_two_no1 W ad ad' c c' _ _ 0 _ w hc hc1 hc' hc1' hb hb' hy
    · have : (N == K) = false := by rw [beq_eq_false_iff_ne]; omega
      rw [this]
      exact sam_two_no0 W ad ad' c c' _ _ _ _ w hc hc1 hc' hc1' hb hb' hx
end Go.Proofs.Ytnnoflohekmnbaa
