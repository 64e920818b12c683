/-
  vec.Right over the translated program. Nothing is assumed.
-/
import Derived.Test.YtnnoflohekmnbaaProg
import Derived.WalkKit
import Derived.WalkSpells
import Derived.WalkLawsBesides
import Derived.LoopN
import Derived.IntWalk
import Derived.Lib.Hide
import Derived.Test.YtnnoflohekmnbaaB4
import Derived.Laws.BitsAllLaws
import Derived.Laws.Externs
import Derived.BigQuiet
import Derived.BigRegion
import Derived.Deep.QuietTactic
import Derived.Deep.RegionWith
import Derived.Deep.RegionHeld3
import Derived.StillTailTactics
import Derived.RegionTactic
import Derived.ChangeAlike
set_option linter.unusedVariables false
namespace Go.Proofs.Ytnnoflohekmnbaa
open Go.RowKit
theorem andNot_mk (x t : Nat) (ht : t ≤ 64) (hx : x < 18446744073709551616) : (x &&& (18446744073709551615 - (2 ^ t - 1)) = 0) ↔ x < 2 ^ t := by
  have hm : 2 ^ t - 1 < 18446744073709551616 := by
    have : 2 ^ t ≤ 2 ^ 64 := Nat.pow_le_pow_right (by omega) ht
    rw [two64] at this
    have : 0 < 2 ^ t := Nat.pow_pos (by omega)
    omega
  have hb : ∀ j, (x &&& (18446744073709551615 - (2 ^ t - 1))).testBit j = (x.testBit j && decide (t ≤ j)) := by
    intro j
    rw [Nat.testBit_and, ← xor_all _ hm, Nat.testBit_xor, Nat.testBit_two_pow_sub_one]
    have e : (18446744073709551615 : Nat) = 2 ^ 64 - 1 := by decide
    rw [e, Nat.testBit_two_pow_sub_one]
    by_cases hj : j < 64
    · by_cases hj2 : j < t
      · have : ¬ t ≤ j := by omega
        simp [hj, hj2]
      · have : t ≤ j := by omega
        simp [hj, hj2, this]
    · simp [bit_ge64 hx j (by omega)]
  constructor
  · intro h
    apply Nat.lt_pow_two_of_testBit
    intro j hj
    have := hb j
    rw [h] at this
    simpa [hj] using this.symm
  · intro h
    apply Nat.eq_of_testBit_eq
    intro j
    rw [hb, Nat.zero_testBit]
    by_cases hj : t ≤ j
    · rw [Nat.testBit_lt_two_pow (Nat.lt_of_lt_of_le h (Nat.pow_le_pow_right (by omega) hj))]; rfl
    · simp [hj]
/-- Is there a bit of limb i from the width on? -/
def ovB (x W i : Nat) : Bool := decide (2 ^ (min 64 (W - 64 * i)) ≤ x)
theorem ov_eq (x W i : Nat) (hx : x < 18446744073709551616) : (bits .andNot .u64 (x : Int) ((mk W i : Nat) : Int) != 0) = ovB x W i := by
  rw [u64_andNot_nat x (mk W i) hx (mk_lt W i)]
  have := andNot_mk x (min 64 (W - 64 * i)) (by omega) hx
  unfold ovB mk
  generalize hX : 2 ^ (min 64 (W - 64 * i)) = X at *
  generalize x &&& (18446744073709551615 - (X - 1)) = Y at *
  rw [Bool.eq_iff_iff, bne_iff_ne, decide_eq_true_eq]
  omega
set_option maxHeartbeats 400000 in
theorem Right_low (V : Value) (W : Int) (w : World) (h : W < 1) : Calls Try.prog 15 #[.agg #[.int .i64 W, V]] w (RetV w (.bool false)) := by
  have d1 : decide (W < 1) = true := decide_eq_true h
  go_enter Try.func15, Try.ntmps15
  go_wp2_with fail
  go_quiet (fail)
  go_wp2
  go_ret
  exact ⟨rfl, below_drewN (bal (Below.refl _ _) _) _⟩
set_option maxHeartbeats 400000 in
theorem Right_high (V : Value) (W : Int) (w : World) (h : 128 < W) : Calls Try.prog 15 #[.agg #[.int .i64 W, V]] w (RetV w (.bool false)) := by
  have d1 : decide (W < 1) = false := decide_eq_false (by omega)
  have d2 : decide (128 < W) = true := decide_eq_true h
  go_enter Try.func15, Try.ntmps15
  go_wp2_with fail
  go_quiet (fail)
  go_wp2
  go_ret
  exact ⟨rfl, below_drewN (bal (Below.refl _ _) _) _⟩
set_option maxHeartbeats 400000 in
theorem Right_len (A : Option Addr) (k c W : Nat) (w : World) (h1 : 1 ≤ W) (h2 : W ≤ 128) (hk : k ≠ lm W) : Calls Try.prog 15 #[.agg #[.int .i64 W, .slice A k c]] w (RetV w (.bool false)) := by
  have d1 : decide ((W : Int) < 1) = false := decide_eq_false (by omega)
  have d2 : decide (128 < (W : Int)) = false := decide_eq_false (by omega)
  have H : Hid (∀ wx, Calls Try.prog 37 #[.int .i64 W] wx fun e w' => e = .returned (.int .i64 ((lm W : Nat) : Int)) ∧ w' = wx) := fun wx => (limbsFor_any W wx (by omega) (by omega)).mono fun e w' ⟨he, hw⟩ => ⟨by rw [he]; unfold lm; congr 2, hw.symm⟩
  have d3 : ((k : Int) != ((lm W : Nat) : Int)) = true := by rw [bne_iff_ne]; omega
  have d4 : (k != lm W) = true := by rw [bne_iff_ne]; omega
  generalize lm W = m at *
  clear hk h1 h2
  go_enter Try.func15, Try.ntmps15
  go_wp2_with fail
  go_quiet ((go_at_call 37; exact Calls.quiet_of_same (H.out _)))
  go_wp2
  go_ret
  exact ⟨rfl, below_drewN (bal (Below.refl _ _) _) _⟩
set_option maxHeartbeats 1000000 in
theorem Right_one_no (ad : Addr) (c W x : Nat) (w : World) (h1 : 1 ≤ W) (h2 : W ≤ 64) (hx : x < 18446744073709551616) (hc0 : w.cell? ad = some (.int .u64 x)) (hb : ad.block < w.heap.size) (ho : ovB x W 0 = true) :
    Calls Try.prog 15 #[.agg #[.int .i64 W, .slice (some ad) 1 c]] w (RetV w (.bool false)) := by
  have d1 : decide ((W : Int) < 1) = false := decide_eq_false (by omega)
  have d2 : decide (128 < (W : Int)) = false := decide_eq_false (by omega)
  have H : Hid (∀ wx, Calls Try.prog 37 #[.int .i64 W] wx fun e w' => e = .returned (.int .i64 1) ∧ w' = wx) := fun wx => (limbsFor_any W wx (by omega) (by omega)).mono fun e w' ⟨he, hw⟩ => ⟨by rw [he]; congr 2; omega, hw.symm⟩
  have M0 : Hid (∀ wx, Calls Try.prog 38 #[.int .i64 W, .int .i64 0] wx fun e w' => e = .returned (.int .u64 ((mk W 0 : Nat) : Int)) ∧ w' = wx) := fun wx => (limbMask_any W 0 wx (by omega) (by omega)).mono fun e w' ⟨he, hw⟩ => ⟨he, hw.symm⟩
  have M1 : Hid (∀ wx, Calls Try.prog 38 #[.int .i64 W, .int .i64 1] wx fun e w' => e = .returned (.int .u64 ((mk W 1 : Nat) : Int)) ∧ w' = wx) := fun wx => (limbMask_any W 1 wx (by omega) (by omega)).mono fun e w' ⟨he, hw⟩ => ⟨he, hw.symm⟩
  have hc0' : (w.alloc (.cells #[.int .i64 W, .slice (some ad) 1 c] 24)).cell? ad = some (.int .u64 x) := ((bal (Below.refl w.heap.size w) _).cell hb).trans hc0
  have o0 := ov_eq x W 0 hx
  rw [ho] at o0
  generalize mk W 0 = m0 at *
  clear hc0 hb ho hx h1 h2 M1
  go_enter Try.func15, Try.ntmps15
  go_wp2_with fail
  go_quiet ((go_at_call 37; exact Calls.quiet_of_same (H.out _)))
  go_wp2
  refine wp_loop_rounds 2 ?_
  rw [rounds_succ]; go_wp2_with fail
  go_quiet ((go_at_call 38; first | exact (M0.out _).mono fun e w' h => ⟨h.1, _, h.2⟩ | exact (M0.out _).mono fun e w' h => ⟨h.1, _, h.2.trans (congrArg _ (Nat.add_assoc _ _ _))⟩))
  go_wp2
  go_ret
  exact ⟨rfl, by repeat (first | exact Below.refl _ _ | refine below_drewN ?_ _ | refine bal ?_ _)⟩
set_option maxHeartbeats 1000000 in
theorem Right_one_yes (ad : Addr) (c W x : Nat) (w : World) (h1 : 1 ≤ W) (h2 : W ≤ 64) (hx : x < 18446744073709551616) (hc0 : w.cell? ad = some (.int .u64 x)) (hb : ad.block < w.heap.size) (ho : ovB x W 0 = false) :
    Calls Try.prog 15 #[.agg #[.int .i64 W, .slice (some ad) 1 c]] w (RetV w (.bool true)) := by
  have d1 : decide ((W : Int) < 1) = false := decide_eq_false (by omega)
  have d2 : decide (128 < (W : Int)) = false := decide_eq_false (by omega)
  have H : Hid (∀ wx, Calls Try.prog 37 #[.int .i64 W] wx fun e w' => e = .returned (.int .i64 1) ∧ w' = wx) := fun wx => (limbsFor_any W wx (by omega) (by omega)).mono fun e w' ⟨he, hw⟩ => ⟨by rw [he]; congr 2; omega, hw.symm⟩
  have M0 : Hid (∀ wx, Calls Try.prog 38 #[.int .i64 W, .int .i64 0] wx fun e w' => e = .returned (.int .u64 ((mk W 0 : Nat) : Int)) ∧ w' = wx) := fun wx => (limbMask_any W 0 wx (by omega) (by omega)).mono fun e w' ⟨he, hw⟩ => ⟨he, hw.symm⟩
  have M1 : Hid (∀ wx, Calls Try.prog 38 #[.int .i64 W, .int .i64 1] wx fun e w' => e = .returned (.int .u64 ((mk W 1 : Nat) : Int)) ∧ w' = wx) := fun wx => (limbMask_any W 1 wx (by omega) (by omega)).mono fun e w' ⟨he, hw⟩ => ⟨he, hw.symm⟩
  have hc0' : (w.alloc (.cells #[.int .i64 W, .slice (some ad) 1 c] 24)).cell? ad = some (.int .u64 x) := ((bal (Below.refl w.heap.size w) _).cell hb).trans hc0
  have o0 := ov_eq x W 0 hx
  rw [ho] at o0
  generalize mk W 0 = m0 at *
  clear hc0 hb ho hx h1 h2 M1
  go_enter Try.func15, Try.ntmps15
  go_wp2_with fail
  go_quiet ((go_at_call 37; exact Calls.quiet_of_same (H.out _)))
  go_wp2
  refine wp_loop_rounds 2 ?_
  rw [rounds_succ]; go_wp2_with fail
  go_quiet ((go_at_call 38; first | exact (M0.out _).mono fun e w' h => ⟨h.1, _, h.2⟩ | exact (M0.out _).mono fun e w' h => ⟨h.1, _, h.2.trans (congrArg _ (Nat.add_assoc _ _ _))⟩))
  go_wp2
  rw [rounds_succ]; go_wp2
  go_ret
  exact ⟨rfl, by repeat (first | exact Below.refl _ _ | refine below_drewN ?_ _ | refine bal ?_ _)⟩
set_option maxHeartbeats 1000000 in
theorem Right_two_no0 (ad : Addr) (c W x y : Nat) (w : World) (h1 : 64 < W) (h2 : W ≤ 128) (hx : x < 18446744073709551616) (hy : y < 18446744073709551616) (hc0 : w.cell? ad = some (.int .u64 x)) (hc1 : w.cell? (ad.add 1) = some (.int .u64 y)) (hb : ad.block < w.heap.size) (ho : ovB x W 0 = true) :
    Calls Try.prog 15 #[.agg #[.int .i64 W, .slice (some ad) 2 c]] w (RetV w (.bool false)) := by
  have d1 : decide ((W : Int) < 1) = false := decide_eq_false (by omega)
  have d2 : decide (128 < (W : Int)) = false := decide_eq_false (by omega)
  have H : Hid (∀ wx, Calls Try.prog 37 #[.int .i64 W] wx fun e w' => e = .returned (.int .i64 2) ∧ w' = wx) := fun wx => (limbsFor_any W wx (by omega) (by omega)).mono fun e w' ⟨he, hw⟩ => ⟨by rw [he]; congr 2; omega, hw.symm⟩
  have M0 : Hid (∀ wx, Calls Try.prog 38 #[.int .i64 W, .int .i64 0] wx fun e w' => e = .returned (.int .u64 ((mk W 0 : Nat) : Int)) ∧ w' = wx) := fun wx => (limbMask_any W 0 wx (by omega) (by omega)).mono fun e w' ⟨he, hw⟩ => ⟨he, hw.symm⟩
  have M1 : Hid (∀ wx, Calls Try.prog 38 #[.int .i64 W, .int .i64 1] wx fun e w' => e = .returned (.int .u64 ((mk W 1 : Nat) : Int)) ∧ w' = wx) := fun wx => (limbMask_any W 1 wx (by omega) (by omega)).mono fun e w' ⟨he, hw⟩ => ⟨he, hw.symm⟩
  have hc0' : (w.alloc (.cells #[.int .i64 W, .slice (some ad) 2 c] 24)).cell? ad = some (.int .u64 x) := ((bal (Below.refl w.heap.size w) _).cell hb).trans hc0
  have hc1' : (w.alloc (.cells #[.int .i64 W, .slice (some ad) 2 c] 24)).cell? ⟨ad.block, ad.off + 1, none⟩ = some (.int .u64 y) := ((bal (Below.refl w.heap.size w) _).cell (p := ad.add 1) (by rw [block_add]; exact hb)).trans hc1
  have o0 := ov_eq x W 0 hx
  rw [ho] at o0
  have o1 := ov_eq y W 1 hy
  generalize mk W 0 = m0 at *
  generalize mk W 1 = m1 at *
  clear o1
  clear hc0 hc1 hb ho hx hy h1 h2
  go_enter Try.func15, Try.ntmps15
  go_wp2_with fail
  go_quiet ((go_at_call 37; exact Calls.quiet_of_same (H.out _)))
  go_wp2
  refine wp_loop_rounds 3 ?_
  rw [rounds_succ]; go_wp2_with fail
  go_quiet ((go_at_call 38; first | exact (M0.out _).mono fun e w' h => ⟨h.1, _, h.2⟩ | exact (M0.out _).mono fun e w' h => ⟨h.1, _, h.2.trans (congrArg _ (Nat.add_assoc _ _ _))⟩))
  go_wp2
  go_ret
  exact ⟨rfl, by repeat (first | exact Below.refl _ _ | refine below_drewN ?_ _ | refine bal ?_ _)⟩
set_option maxHeartbeats 1000000 in
theorem Right_two_no1 (ad : Addr) (c W x y : Nat) (w : World) (h1 : 64 < W) (h2 : W ≤ 128) (hx : x < 18446744073709551616) (hy : y < 18446744073709551616) (hc0 : w.cell? ad = some (.int .u64 x)) (hc1 : w.cell? (ad.add 1) = some (.int .u64 y)) (hb : ad.block < w.heap.size) (ho : ovB x W 0 = false) (ho1 : ovB y W 1 = true) :
    Calls Try.prog 15 #[.agg #[.int .i64 W, .slice (some ad) 2 c]] w (RetV w (.bool false)) := by
  have d1 : decide ((W : Int) < 1) = false := decide_eq_false (by omega)
  have d2 : decide (128 < (W : Int)) = false := decide_eq_false (by omega)
  have H : Hid (∀ wx, Calls Try.prog 37 #[.int .i64 W] wx fun e w' => e = .returned (.int .i64 2) ∧ w' = wx) := fun wx => (limbsFor_any W wx (by omega) (by omega)).mono fun e w' ⟨he, hw⟩ => ⟨by rw [he]; congr 2; omega, hw.symm⟩
  have M0 : Hid (∀ wx, Calls Try.prog 38 #[.int .i64 W, .int .i64 0] wx fun e w' => e = .returned (.int .u64 ((mk W 0 : Nat) : Int)) ∧ w' = wx) := fun wx => (limbMask_any W 0 wx (by omega) (by omega)).mono fun e w' ⟨he, hw⟩ => ⟨he, hw.symm⟩
  have M1 : Hid (∀ wx, Calls Try.prog 38 #[.int .i64 W, .int .i64 1] wx fun e w' => e = .returned (.int .u64 ((mk W 1 : Nat) : Int)) ∧ w' = wx) := fun wx => (limbMask_any W 1 wx (by omega) (by omega)).mono fun e w' ⟨he, hw⟩ => ⟨he, hw.symm⟩
  have hc0' : (w.alloc (.cells #[.int .i64 W, .slice (some ad) 2 c] 24)).cell? ad = some (.int .u64 x) := ((bal (Below.refl w.heap.size w) _).cell hb).trans hc0
  have hc1' : (w.alloc (.cells #[.int .i64 W, .slice (some ad) 2 c] 24)).cell? ⟨ad.block, ad.off + 1, none⟩ = some (.int .u64 y) := ((bal (Below.refl w.heap.size w) _).cell (p := ad.add 1) (by rw [block_add]; exact hb)).trans hc1
  have o0 := ov_eq x W 0 hx
  rw [ho] at o0
  have o1 := ov_eq y W 1 hy
  rw [ho1] at o1
  clear ho1
  generalize mk W 0 = m0 at *
  generalize mk W 1 = m1 at *
  clear hc0 hc1 hb ho hx hy h1 h2
  go_enter Try.func15, Try.ntmps15
  go_wp2_with fail
  go_quiet ((go_at_call 37; exact Calls.quiet_of_same (H.out _)))
  go_wp2
  refine wp_loop_rounds 3 ?_
  rw [rounds_succ]; go_wp2_with fail
  go_quiet ((go_at_call 38; first | exact (M0.out _).mono fun e w' h => ⟨h.1, _, h.2⟩ | exact (M0.out _).mono fun e w' h => ⟨h.1, _, h.2.trans (congrArg _ (Nat.add_assoc _ _ _))⟩))
  go_wp2
  rw [rounds_succ]; go_wp2_with fail
  go_quiet ((go_at_call 38; first | exact (M1.out _).mono fun e w' h => ⟨h.1, _, h.2⟩ | exact (M1.out _).mono fun e w' h => ⟨h.1, _, h.2.trans (congrArg _ (Nat.add_assoc _ _ _))⟩))
  go_wp2
  go_ret
  exact ⟨rfl, by repeat (first | exact Below.refl _ _ | refine below_drewN ?_ _ | refine bal ?_ _)⟩
set_option maxHeartbeats 1000000 in
theorem Right_two_yes (ad : Addr) (c W x y : Nat) (w : World) (h1 : 64 < W) (h2 : W ≤ 128) (hx : x < 18446744073709551616) (hy : y < 18446744073709551616) (hc0 : w.cell? ad = some (.int .u64 x)) (hc1 : w.cell? (ad.add 1) = some (.int .u64 y)) (hb : ad.block < w.heap.size) (ho : ovB x W 0 = false) (ho1 : ovB y W 1 = false) :
    Calls Try.prog 15 #[.agg #[.int .i64 W, .slice (some ad) 2 c]] w (RetV w (.bool true)) := by
  have d1 : decide ((W : Int) < 1) = false := decide_eq_false (by omega)
  have d2 : decide (128 < (W : Int)) = false := decide_eq_false (by omega)
  have H : Hid (∀ wx, Calls Try.prog 37 #[.int .i64 W] wx fun e w' => e = .returned (.int .i64 2) ∧ w' = wx) := fun wx => (limbsFor_any W wx (by omega) (by omega)).mono fun e w' ⟨he, hw⟩ => ⟨by rw [he]; congr 2; omega, hw.symm⟩
  have M0 : Hid (∀ wx, Calls Try.prog 38 #[.int .i64 W, .int .i64 0] wx fun e w' => e = .returned (.int .u64 ((mk W 0 : Nat) : Int)) ∧ w' = wx) := fun wx => (limbMask_any W 0 wx (by omega) (by omega)).mono fun e w' ⟨he, hw⟩ => ⟨he, hw.symm⟩
  have M1 : Hid (∀ wx, Calls Try.prog 38 #[.int .i64 W, .int .i64 1] wx fun e w' => e = .returned (.int .u64 ((mk W 1 : Nat) : Int)) ∧ w' = wx) := fun wx => (limbMask_any W 1 wx (by omega) (by omega)).mono fun e w' ⟨he, hw⟩ => ⟨he, hw.symm⟩
  have hc0' : (w.alloc (.cells #[.int .i64 W, .slice (some ad) 2 c] 24)).cell? ad = some (.int .u64 x) := ((bal (Below.refl w.heap.size w) _).cell hb).trans hc0
  have hc1' : (w.alloc (.cells #[.int .i64 W, .slice (some ad) 2 c] 24)).cell? ⟨ad.block, ad.off + 1, none⟩ = some (.int .u64 y) := ((bal (Below.refl w.heap.size w) _).cell (p := ad.add 1) (by rw [block_add]; exact hb)).trans hc1
  have o0 := ov_eq x W 0 hx
  rw [ho] at o0
  have o1 := ov_eq y W 1 hy
  rw [ho1] at o1
  clear ho1
  generalize mk W 0 = m0 at *
  generalize mk W 1 = m1 at *
  clear hc0 hc1 hb ho hx hy h1 h2
  go_enter Try.func15, Try.ntmps15
  go_wp2_with fail
  go_quiet ((go_at_call 37; exact Calls.quiet_of_same (H.out _)))
  go_wp2
  refine wp_loop_rounds 3 ?_
  rw [rounds_succ]; go_wp2_with fail
  go_quiet ((go_at_call 38; first | exact (M0.out _).mono fun e w' h => ⟨h.1, _, h.2⟩ | exact (M0.out _).mono fun e w' h => ⟨h.1, _, h.2.trans (congrArg _ (Nat.add_assoc _ _ _))⟩))
  go_wp2
  rw [rounds_succ]; go_wp2_with fail
  go_quiet ((go_at_call 38; first | exact (M1.out _).mono fun e w' h => ⟨h.1, _, h.2⟩ | exact (M1.out _).mono fun e w' h => ⟨h.1, _, h.2.trans (congrArg _ (Nat.add_assoc _ _ _))⟩))
  go_wp2
  rw [rounds_succ]; go_wp2
  go_ret
  exact ⟨rfl, by repeat (first | exact Below.refl _ _ | refine below_drewN ?_ _ | refine bal ?_ _)⟩
theorem Right_yes {w : World} {ad : Addr} {c W N : Nat} (h : Vc w w.heap.size ad c W N) : Calls Try.prog 15 #[.agg #[.int .i64 W, .slice (some ad) (lm W) c]] w (RetV w (.bool true)) := by
  have h1 := h.w1
  have h2 := h.w2
  have hn := h.n
  by_cases hW : W ≤ 64
  · obtain ⟨e, hx, hc, hb⟩ := h.one hW
    rw [e]
    refine Right_one_yes ad c W N w h1 hW hx hc hb ?_
    unfold ovB
    have : min 64 (W - 64 * 0) = W := by omega
    rw [this]
    exact decide_eq_false (by omega)
  · obtain ⟨e, hc, hc1, hb⟩ := h.two hW
    have hl := Lim.of N h.lt
    rw [e]
    refine Right_two_yes ad c W _ _ w (by omega) h2 hl.1 hl.2.1 hc hc1 hb ?_ ?_
    · unfold ovB
      have : min 64 (W - 64 * 0) = 64 := by omega
      rw [this, two64]
      exact decide_eq_false (by omega)
    · unfold ovB
      have : min 64 (W - 64 * 1) = W - 64 := by omega
      rw [this]
      refine decide_eq_false ?_
      have e3 : (2 : Nat) ^ W = 18446744073709551616 * 2 ^ (W - 64) := by rw [← two64, ← Nat.pow_add]; congr 1; omega
      rw [e3] at hn
      rw [Nat.not_le]
      exact Nat.div_lt_of_lt_mul hn
end Go.Proofs.Ytnnoflohekmnbaa
