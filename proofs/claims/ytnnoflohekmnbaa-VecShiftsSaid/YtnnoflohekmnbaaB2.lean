/-
  vec.vecOf over the translated program: the right vector of a number's lowest bits. Nothing is assumed.
-/
import Derived.Test.YtnnoflohekmnbaaProg
import Derived.WalkKit
import Derived.WalkSpells
import Derived.WalkLawsBesides
import Derived.LoopN
import Derived.IntWalk
import Derived.Lib.Hide
import Derived.Test.YtnnoflohekmnbaaB1
import Derived.Laws.BitsAllLaws
import Derived.Laws.Externs
import Derived.BigQuiet
import Derived.BigRegion
import Derived.Deep.QuietTactic
import Derived.Deep.RegionWith
import Derived.Deep.RegionHeld3
import Derived.StillTailTactics
import Derived.RegionTactic
import Derived.ChangeAlike
set_option linter.unusedVariables false
namespace Go.Proofs.Ytnnoflohekmnbaa
open Go.RowKit
theorem info60 : (Try.prog.info? 60).map (fun i => (i.zero, i.size, i.bytes)) = some (some (.int .u64 0), 1, 8) := by kernel_rfl
theorem mks1 (w : World) : (Instr.makeSlice 22 (.int .i64 1) (.int .i64 1)).run Try.prog w = .ok (.slice (some ⟨w.heap.size, 0, none⟩) 1 1) (w.alloc (.cells #[.int .u64 0] 60)) := by
  obtain ⟨i0, hi0, hz0, hz1, hz2⟩ := info_parts info60
  rw [run_make w 22 60 i0 _ Try.underlying22 hi0 hz0 .i64 .i64 1 1 (by omega) (by omega) (by rw [hz2]; decide) (by omega), hz1, show madeCells (Value.int .u64 0).cells (Int.toNat 1 * 1) = #[.int .u64 0] by kernel_rfl]
  rfl
theorem mks2 (w : World) : (Instr.makeSlice 22 (.int .i64 2) (.int .i64 2)).run Try.prog w = .ok (.slice (some ⟨w.heap.size, 0, none⟩) 2 2) (w.alloc (.cells #[.int .u64 0, .int .u64 0] 60)) := by
  obtain ⟨i0, hi0, hz0, hz1, hz2⟩ := info_parts info60
  rw [run_make w 22 60 i0 _ Try.underlying22 hi0 hz0 .i64 .i64 2 2 (by omega) (by omega) (by rw [hz2]; decide) (by omega), hz1, show madeCells (Value.int .u64 0).cells (Int.toNat 2 * 1) = #[.int .u64 0, .int .u64 0] by kernel_rfl]
  rfl
/-- What vec.vecOf leaves: one limb, two limbs. -/
def RetL (w0 : World) (W : Int) (l : List Nat) (e : Ending) (w' : World) : Prop := ∃ g, w0.heap.size ≤ g ∧ e = .returned (.agg #[.int .i64 W, .slice (some ⟨g, 0, none⟩) l.length l.length]) ∧ R64 w' w'.heap.size (some ⟨g, 0, none⟩) l ∧ Below w0.heap.size w0 w'
set_option maxRecDepth 100000 in
set_option maxHeartbeats 1000000 in
theorem vecOf_one (W a b m A : Nat) (hA : bits .and .u64 (a : Int) (m : Int) = (A : Int)) (hl : Hid (∀ wx, Calls Try.prog 37 #[.int .i64 W] wx fun e w' => e = .returned (.int .i64 1) ∧ wx = w'))
   (hm : Hid (∀ wx, Calls Try.prog 38 #[.int .i64 W, .int .i64 0] wx fun e w' => e = .returned (.int .u64 (m : Int)) ∧ wx = w')) (w : World) :
    Calls Try.prog 34 #[.int .i64 W, .agg #[.int .u64 a, .int .u64 b]] w (RetL w W [A]) := by
  have hmk := mks1
  go_enter Try.func34, Try.ntmps34
  go_wp2_with fail
  refine (hl.out _).mono ?_; rintro e w' ⟨rfl, rfl⟩
  go_wp2
  refine wp_loop_rounds 2 ?_
  rw [rounds_succ]; go_wp2_with fail
  go_region_held3 (fun w' => w'.cell? ⟨w.heap.size, 0, none⟩ = some (.int .u64 a))
    (first | go_simp)
    (first | (go_at_call 38; refine (hm.out _).mono ?_; rintro e w1 ⟨rfl, rfl⟩))
  go_wp2
  rw [rounds_succ]; go_wp2
  refine bodyPost_ret (v := .agg #[.int .i64 (W : Int), .slice (some ⟨w.heap.size + 1 + 1, 0, none⟩) 1 1]) (by simp [results, Try.results34, go_sem]) rfl ⟨w.heap.size + 1 + 1, by omega, rfl, ?_, ?_⟩
  · intro i hi
    obtain rfl : i = 0 := by simpa using hi
    exact ⟨_, rfl, by simp, by rw [add_zero_]; go_simp⟩
  repeat (first | exact Below.refl _ _ | refine Below.drew ?_ | refine bal ?_ _)
set_option maxRecDepth 100000 in
set_option maxHeartbeats 1000000 in
theorem vecOf_two (W a b m m' A B : Nat) (hA : bits .and .u64 (a : Int) (m : Int) = (A : Int)) (hB : bits .and .u64 (b : Int) (m' : Int) = (B : Int)) (hl : Hid (∀ wx, Calls Try.prog 37 #[.int .i64 W] wx fun e w' => e = .returned (.int .i64 2) ∧ wx = w'))
   (hm : Hid (∀ wx, Calls Try.prog 38 #[.int .i64 W, .int .i64 0] wx fun e w' => e = .returned (.int .u64 (m : Int)) ∧ wx = w'))
   (hm' : Hid (∀ wx, Calls Try.prog 38 #[.int .i64 W, .int .i64 1] wx fun e w' => e = .returned (.int .u64 (m' : Int)) ∧ wx = w')) (w : World) :
    Calls Try.prog 34 #[.int .i64 W, .agg #[.int .u64 a, .int .u64 b]] w (RetL w W [A, B]) := by
  have hmk := mks2
  go_enter Try.func34, Try.ntmps34
  go_wp2_with fail
  refine (hl.out _).mono ?_; rintro e w' ⟨rfl, rfl⟩
  go_wp2
  refine wp_loop_rounds 3 ?_
  rw [rounds_succ]; go_wp2_with fail
  go_region_held3 (fun w' => w'.cell? ⟨w.heap.size, 0, none⟩ = some (.int .u64 a))
    (first | go_simp)
    (first | (go_at_call 38; refine (hm.out _).mono ?_; rintro e w1 ⟨rfl, rfl⟩))
  go_wp2
  rw [rounds_succ]; go_wp2_with fail
  go_region_held3 (fun w' => w'.cell? ⟨w.heap.size, 1, none⟩ = some (.int .u64 b))
    (first | go_simp)
    (first | (go_at_call 38; refine (hm'.out _).mono ?_; rintro e w1 ⟨rfl, rfl⟩))
  go_wp2
  rw [rounds_succ]; go_wp2
  refine bodyPost_ret (v := .agg #[.int .i64 (W : Int), .slice (some ⟨w.heap.size + 1 + 1, 0, none⟩) 2 2]) (by simp [results, Try.results34, go_sem]) rfl ⟨w.heap.size + 1 + 1, by omega, rfl, ?_, ?_⟩
  · intro i hi
    have : i = 0 ∨ i = 1 := by simp at hi; omega
    rcases this with rfl | rfl
    · exact ⟨_, rfl, by simp, by rw [add_zero_]; go_simp⟩
    · exact ⟨_, rfl, by simp, by go_simp⟩
  repeat (first | exact Below.refl _ _ | refine Below.drew ?_ | refine bal ?_ _)
/-- A call that tells a right vector of width W and number N, and changes nothing that was there. -/
def RetVec (w0 : World) (W N : Nat) (e : Ending) (w' : World) : Prop := ∃ ad c, e = .returned (.agg #[.int .i64 W, .slice (some ad) (lm W) c]) ∧ Vc w' w'.heap.size ad c W N ∧ w0.heap.size ≤ ad.block ∧ Below w0.heap.size w0 w'
theorem and_mk (N W : Nat) (hW : W ≤ 128) : N &&& (2 ^ W - 1) = N % 2 ^ W := Nat.and_two_pow_sub_one_eq_mod N W
theorem lim_list {a b N W : Nat} (h : Lim a b N) (hN : N < 2 ^ W) (hW : W ≤ 128) : lmL W N = if W ≤ 64 then [a] else [a, b] := by
  unfold lmL
  obtain ⟨h1, h2⟩ := h.eq
  by_cases hW6 : W ≤ 64
  · rw [if_pos hW6, if_pos hW6]
    have : N < 2 ^ 64 := Nat.lt_of_lt_of_le hN (Nat.pow_le_pow_right (by omega) hW6)
    rw [two64] at this
    rw [h1, Nat.mod_eq_of_lt this]
  · rw [if_neg hW6, if_neg hW6, h1, h2]
theorem vecOf_any {a b N : Nat} (h : Lim a b N) (W : Nat) (h1 : 1 ≤ W) (h2 : W ≤ 128) (w : World) : Calls Try.prog 34 #[.int .i64 W, .agg #[.int .u64 a, .int .u64 b]] w (RetVec w W (N % 2 ^ W)) := by
  have hl := (h.and (Lim.mask W h2))
  rw [and_mk N W h2] at hl
  have hlt : N % 2 ^ W < 2 ^ W := Nat.mod_lt _ (Nat.pow_pos (by omega))
  have hll := lim_list hl hlt h2
  have m0 := fun wx => limbMask_any W 0 wx (by omega) (by omega)
  have m1 := fun wx => limbMask_any W 1 wx (by omega) (by omega)
  have l0 := fun wx => limbsFor_any W wx (by omega) (by omega)
  have k0 := mk_lt W 0
  have k1 := mk_lt W 1
  by_cases hW6 : W ≤ 64
  · rw [if_pos hW6] at hll
    have e : ((W : Int) + 63) / 64 = 1 := by omega
    have el : lm W = 1 := by unfold lm; omega
    rw [e] at l0
    refine (vecOf_one W a b _ _ (u64_and_nat a (mk W 0) h.1 k0) l0 m0 w).mono ?_
    rintro e w' ⟨g, hg, he, hr, hb⟩
    exact ⟨⟨g, 0, none⟩, 1, by rw [he, el]; rfl, ⟨h1, h2, hlt, by rw [el]; exact Nat.le_refl _, by unfold maxLen; omega, by rw [hll]; exact hr⟩, hg, hb⟩
  · rw [if_neg hW6] at hll
    have e : ((W : Int) + 63) / 64 = 2 := by omega
    have el : lm W = 2 := by unfold lm; omega
    rw [e] at l0
    refine (vecOf_two W a b _ _ _ _ (u64_and_nat a (mk W 0) h.1 k0) (u64_and_nat b (mk W 1) h.2.1 k1) l0 m0 m1 w).mono ?_
    rintro e w' ⟨g, hg, he, hr, hb⟩
    exact ⟨⟨g, 0, none⟩, 2, by rw [he, el]; rfl, ⟨h1, h2, hlt, by rw [el]; exact Nat.le_refl _, by unfold maxLen; omega, by rw [hll]; exact hr⟩, hg, hb⟩
end Go.Proofs.Ytnnoflohekmnbaa
