/-
  vec.Bit, isHighest and sumFits over the translated program. Nothing is assumed.
-/
import Derived.Test.YtnnoflohekmnbaaProg
import Derived.WalkKit
import Derived.WalkSpells
import Derived.WalkLawsBesides
import Derived.LoopN
import Derived.IntWalk
import Derived.Lib.Hide
import Derived.Test.YtnnoflohekmnbaaB3
import Derived.Laws.BitsAllLaws
import Derived.Laws.Externs
import Derived.BigQuiet
import Derived.BigRegion
import Derived.Deep.QuietTactic
import Derived.Deep.RegionWith
import Derived.Deep.RegionHeld3
import Derived.StillTailTactics
import Derived.RegionTactic
import Derived.ChangeAlike
set_option linter.unusedVariables false
namespace Go.Proofs.Ytnnoflohekmnbaa
open Go.RowKit
/-- Bit i of N, where there is one. -/
def tb (N : Nat) (i : Int) : Bool := if i < 0 then false else N.testBit i.toNat
set_option maxHeartbeats 400000 in
theorem Bit_low (V : Value) (W i : Int) (w : World) (h : i < 0) : Calls Try.prog 17 #[.agg #[.int .i64 W, V], .int .i64 i] w (RetV w (.bool false)) := by
  go_enter Try.func17, Try.ntmps17
  go_wp2
  go_ret
  exact ⟨rfl, bal (Below.refl _ _) _⟩
set_option maxHeartbeats 400000 in
theorem Bit_high (V : Value) (W i : Int) (w : World) (h0 : 0 ≤ i) (h : W ≤ i) : Calls Try.prog 17 #[.agg #[.int .i64 W, V], .int .i64 i] w (RetV w (.bool false)) := by
  have h1 : decide (i < 0) = false := decide_eq_false (by omega)
  have h2 : decide (W ≤ i) = true := decide_eq_true h
  go_enter Try.func17, Try.ntmps17
  go_wp2
  go_ret
  exact ⟨rfl, bal (Below.refl _ _) _⟩
set_option maxHeartbeats 400000 in
theorem Bit_walk (ad : Addr) (k c q r x : Nat) (R : Bool) (W i : Int) (w : World) (h0 : 0 ≤ i) (h1 : i < W) (hW : W ≤ 1000) (hq : i / 64 = (q : Int)) (hr : i % 64 = (r : Int)) (hk : q < k) (hc : w.cell? (ad.add q) = some (.int .u64 x)) (hb : ad.block < w.heap.size)
    (hR : (bits .and .u64 ((x : Int) / 2 ^ r) 1 == 1) = R) : Calls Try.prog 17 #[.agg #[.int .i64 W, .slice (some ad) k c], .int .i64 i] w (RetV w (.bool R)) := by
  have hc' : (w.alloc (.cells #[.int .i64 W, .slice (some ad) k c] 24)).cell? (ad.add q) = some (.int .u64 x) := ((bal (Below.refl w.heap.size w) _).cell (by rw [block_add]; exact hb)).trans hc
  have d1 : decide (i < 0) = false := decide_eq_false (by omega)
  have d2 : decide (W ≤ i) = false := decide_eq_false (by omega)
  have d3 : decide ((k : Int) ≤ (q : Int)) = false := decide_eq_false (by omega)
  have d4 : decide (k ≤ q) = false := decide_eq_false (by omega)
  clear hc hb
  go_enter Try.func17, Try.ntmps17
  go_wp2
  go_ret
  exact ⟨rfl, bal (Below.refl _ _) _⟩
theorem shr_bit (x r : Nat) (hx : x < 18446744073709551616) : (bits .and .u64 ((x : Int) / 2 ^ r) 1 == 1) = x.testBit r := by
  have e2 : (x : Int) / 2 ^ r = ((x / 2 ^ r : Nat) : Int) := by simp
  have e3 := u64_and_nat (x / 2 ^ r) 1 (Nat.lt_of_le_of_lt (Nat.div_le_self _ _) hx) (by omega)
  rw [nat_mask1] at e3
  have e4 : bits .and .u64 ((x / 2 ^ r : Nat) : Int) 1 = ((x / 2 ^ r % 2 : Nat) : Int) := e3
  rw [e2, e4, Nat.testBit_eq_decide_div_mod_eq, Bool.eq_iff_iff, beq_iff_eq, decide_eq_true_eq]
  omega
theorem Vc.limb {w : World} {B : Nat} {ad : Addr} {c W N : Nat} (h : Vc w B ad c W N) (q : Nat) (hq : q < lm W) : ∃ x : Nat, w.cell? (ad.add q) = some (.int .u64 x) ∧ x < 18446744073709551616 ∧ ad.block < B ∧ ∀ r, r < 64 → N.testBit (64 * q + r) = x.testBit r := by
  by_cases hW : W ≤ 64
  · obtain ⟨e, hn, hc, hb⟩ := h.one hW
    obtain rfl : q = 0 := by omega
    exact ⟨N, by rw [add_zero_]; exact hc, hn, hb, fun r _ => by congr 1; omega⟩
  · obtain ⟨e, hc, hc1, hb⟩ := h.two hW
    have hl := Lim.of N h.lt
    have : q = 0 ∨ q = 1 := by omega
    rcases this with rfl | rfl
    · refine ⟨_, by rw [add_zero_]; exact hc, hl.1, hb, fun r hr => ?_⟩
      rw [hl.bit, if_pos (by omega)]; congr 1; omega
    · refine ⟨_, hc1, hl.2.1, hb, fun r hr => ?_⟩
      rw [hl.bit, if_neg (by omega)]; congr 1; omega
theorem Bit_any {w : World} {ad : Addr} {c W N : Nat} (h : Vc w w.heap.size ad c W N) (i : Int) : Calls Try.prog 17 #[.agg #[.int .i64 W, .slice (some ad) (lm W) c], .int .i64 i] w (RetV w (.bool (tb N i))) := by
  unfold tb
  by_cases h0 : i < 0
  · rw [if_pos h0]; exact Bit_low _ _ _ w h0
  · rw [if_neg h0]
    by_cases h1 : (W : Int) ≤ i
    · have : N.testBit i.toNat = false := Nat.testBit_lt_two_pow (Nat.lt_of_lt_of_le h.n (Nat.pow_le_pow_right (by omega) (by omega)))
      rw [this]
      exact Bit_high _ _ _ w (by omega) h1
    · have h2 := h.w2
      obtain ⟨x, hc, hx, hb, ht⟩ := h.limb (i.toNat / 64) (by unfold lm; omega)
      have e : N.testBit i.toNat = x.testBit (i.toNat % 64) := by
        rw [← ht _ (by omega)]; congr 1; omega
      rw [e]
      exact Bit_walk ad (lm W) c (i.toNat / 64) (i.toNat % 64) x _ W i w (by omega) (by omega) (by omega) (by omega) (by omega) (by unfold lm; omega) hc hb (shr_bit x _ hx)
theorem Bit_at {w : World} {ad : Addr} {c W N : Nat} (h : Vc w w.heap.size ad c W N) (V : Int) (hV : V = (W : Int)) (i : Int) : Calls Try.prog 17 #[.agg #[.int .i64 V, .slice (some ad) (lm W) c], .int .i64 i] w (RetV w (.bool (tb N i))) := by
  subst hV; exact Bit_any h i
set_option maxHeartbeats 400000 in
theorem isHighest_any {w : World} {ad : Addr} {c W N : Nat} (h : Vc w w.heap.size ad c W N) : Calls Try.prog 53 #[.agg #[.int .i64 W, .slice (some ad) (lm W) c]] w (RetV w (.bool (N.testBit (W - 1)))) := by
  have h1 := h.w1
  have h2 := h.w2
  have e : tb N ((W : Int) - 1) = N.testBit (W - 1) := by unfold tb; rw [if_neg (by omega)]; congr 1; omega
  have hv := h.nx (bal (Below.refl w.heap.size w) (.cells #[.int .i64 W, .slice (some ad) (lm W) c] 24))
  have H := Lib.hid (Bit_any hv ((W : Int) - 1))
  rw [e] at H
  generalize lm W = k at *
  generalize N.testBit (W - 1) = R at *
  clear h hv e
  go_enter Try.func53, Try.ntmps53
  go_wp2_with fail
  refine H.out.mono ?_
  rintro e w1 ⟨rfl, hb⟩
  have hB : Below w.heap.size w w1 := (bal (Below.refl _ _) _).trans (hb.mono (by simp))
  clear hb H
  go_wp2
  go_ret
  exact ⟨rfl, hB⟩
set_option maxHeartbeats 400000 in
theorem sumFits_any (a b : Int) (w : World) (ha : 0 ≤ a) (ha2 : a ≤ 128) : Calls Try.prog 48 #[.int .i64 a, .int .i64 b] w fun e w' => e = .returned (.bool (decide (b ≤ 128 - a))) ∧ w = w' := by
  go_enter Try.func48, Try.ntmps48
  go_wp2
  go_ret
  exact ⟨rfl, rfl⟩
end Go.Proofs.Ytnnoflohekmnbaa
