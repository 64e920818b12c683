/-
  vec.up and vec.down over the translated program: what each call returns. Nothing is assumed.
-/
import Derived.Test.YtnnoflohekmnbaaProg
import Derived.WalkKit
import Derived.WalkSpells
import Derived.WalkLawsBesides
import Derived.LoopN
import Derived.IntWalk
import Derived.Lib.Hide
import Derived.Test.YtnnoflohekmnbaaA2
import Derived.Laws.BitsAllLaws
import Derived.Laws.Externs
import Derived.BigQuiet
import Derived.BigRegion
import Derived.Deep.QuietTactic
import Derived.Deep.RegionWith
import Derived.Deep.RegionHeld3
import Derived.StillTailTactics
import Derived.RegionTactic
import Derived.ChangeAlike
set_option linter.unusedVariables false
namespace Go.Proofs.Ytnnoflohekmnbaa
open Go.RowKit
theorem bal {a w : World} (h : Below a.heap.size a w) (o : Obj) : Below a.heap.size a (w.alloc o) := h.alloc h.size o
set_option maxRecDepth 100000 in
set_option maxHeartbeats 2000000 in
theorem up_walk (a b q r A B x1 x2 x3 : Nat) (p : Int) (w : World) (hp0 : 0 ≤ p) (hp1 : p ≤ 128) (hq : p / 64 = (q : Int)) (hr : p % 64 = (r : Int)) (hr6 : r < 64) (hq2 : q ≤ 2)
    (l1 : limbV a b (-(q : Int)) = x1) (l2 : limbV a b (-(q : Int) - 1) = x2) (l3 : limbV a b (1 - (q : Int)) = x3) (l4 : limbV a b (1 - (q : Int) - 1) = x1)
    (hA : bits .or .u64 (IntKind.u64.wrap ((x1 : Int) * 2 ^ r)) ((x2 : Int) / 2 ^ (64 - r)) = (A : Int)) (hB : bits .or .u64 (IntKind.u64.wrap ((x3 : Int) * 2 ^ r)) ((x1 : Int) / 2 ^ (64 - r)) = (B : Int)) :
    Calls Try.prog 75 #[.agg #[.int .u64 a, .int .u64 b], .int .i64 p] w (RetV w (.agg #[.int .u64 (A : Int), .int .u64 (B : Int)])) := by
  have e1 : IntKind.i64.wrap (-(q : Int)) = -(q : Int) := w64 _ (by omega) (by omega)
  have e2 : IntKind.i64.wrap (-(q : Int) - 1) = -(q : Int) - 1 := w64 _ (by omega) (by omega)
  have e3 : IntKind.i64.wrap (1 - (q : Int)) = 1 - (q : Int) := w64 _ (by omega) (by omega)
  have e3' : IntKind.i64.wrap (1 - (q : Int) - 1) = 1 - (q : Int) - 1 := w64 _ (by omega) (by omega)
  have e4 : IntKind.i64.wrap (64 - (r : Int)) = 64 - (r : Int) := w64 _ (by omega) (by omega)
  have e5 : (0 : Int) ≤ 64 - (r : Int) := by omega
  have e6 : (64 - (r : Int)).toNat = 64 - r := by omega
  go_enter Try.func75, Try.ntmps75
  go_wp2
  refine wp_loop_rounds 3 ?_
  rw [rounds_succ]; go_wp2_with fail
  go_region_held3 (fun w' => w'.cell? ⟨w.heap.size, 0, none⟩ = some (.int .u64 a) ∧ w'.cell? ⟨w.heap.size, 1, none⟩ = some (.int .u64 b))
    (first | exact ⟨by go_simp, by go_simp⟩)
    (first | (go_at_call 87; refine (limb_any _ _ _ _).mono ?_; rintro e w1 ⟨rfl, rfl⟩))
  go_wp2
  rw [rounds_succ]; go_wp2_with fail
  go_region_held3 (fun w' => w'.cell? ⟨w.heap.size, 0, none⟩ = some (.int .u64 a) ∧ w'.cell? ⟨w.heap.size, 1, none⟩ = some (.int .u64 b))
    (first | exact ⟨by go_simp, by go_simp⟩)
    (first | (go_at_call 87; refine (limb_any _ _ _ _).mono ?_; rintro e w1 ⟨rfl, rfl⟩))
  go_wp2
  rw [rounds_succ]; go_wp2
  refine bodyPost_ret (v := .agg #[.int .u64 (A : Int), .int .u64 (B : Int)]) (by simp [results, Try.results75, go_sem]) rfl ⟨rfl, ?_⟩
  repeat (first | exact Below.refl _ _ | refine Below.drew ?_ | refine bal ?_ _)
theorem or_shl (x y r : Nat) (hr : r < 64) (hy : y < 18446744073709551616) : bits .or .u64 (IntKind.u64.wrap ((x : Int) * 2 ^ r)) ((y : Int) / 2 ^ (64 - r)) = (((x * 2 ^ r % 18446744073709551616) ||| (y / 2 ^ (64 - r)) : Nat) : Int) := by
  have e1 : IntKind.u64.wrap ((x : Int) * 2 ^ r) = ((x * 2 ^ r % 18446744073709551616 : Nat) : Int) := by
    rw [IntKind.wrap_u64]
    have : ((2 : Int) ^ r) = ((2 ^ r : Nat) : Int) := by simp
    rw [this, ← Int.natCast_mul]
    generalize x * 2 ^ r = X
    omega
  have e2 : (y : Int) / 2 ^ (64 - r) = ((y / 2 ^ (64 - r) : Nat) : Int) := by simp
  rw [e1, e2, u64_or_nat _ _ (Nat.mod_lt _ (by omega)) (Nat.lt_of_le_of_lt (Nat.div_le_self _ _) hy)]
theorem limbV_lt {a b N : Nat} (h : Lim a b N) (i : Int) : limbV a b i < 18446744073709551616 := by
  unfold limbV; split
  · exact h.1
  · split
    · exact h.2.1
    · omega
theorem up_any {a b N : Nat} (h : Lim a b N) (p : Nat) (hp : p ≤ 128) (w : World) : Calls Try.prog 75 #[.agg #[.int .u64 a, .int .u64 b], .int .i64 p] w (RetN w (N * 2 ^ p % 2 ^ 128)) := by
  have hl := h.up (q := p / 64) (r := p % 64) (by omega) (by omega) (by omega)
  have e : 64 * (p / 64) + p % 64 = p := by omega
  rw [e] at hl
  refine (up_walk a b (p / 64) (p % 64) _ _ _ _ _ (p : Int) w (by omega) (by omega) (by omega) (by omega) (by omega) (by omega) rfl rfl rfl ?_ (or_shl _ _ _ (by omega) (limbV_lt h _)) (or_shl _ _ _ (by omega) (limbV_lt h _))).mono fun e w' ⟨he, hb⟩ => ⟨_, _, hl, he, hb⟩
  congr 1; omega
set_option maxRecDepth 100000 in
set_option maxHeartbeats 2000000 in
theorem down_walk (a b q r A B x1 x2 x3 x4 : Nat) (p : Int) (w : World) (hp0 : 0 ≤ p) (hp1 : p ≤ 128) (hq : p / 64 = (q : Int)) (hr : p % 64 = (r : Int)) (hr6 : r < 64) (hq2 : q ≤ 2)
    (l1 : limbV a b (q : Int) = x1) (l2 : limbV a b ((q : Int) + 1) = x2) (l3 : limbV a b (1 + (q : Int)) = x3) (l4 : limbV a b (1 + (q : Int) + 1) = x4)
    (hA : bits .or .u64 ((x1 : Int) / 2 ^ r) (IntKind.u64.wrap ((x2 : Int) * 2 ^ (64 - r))) = (A : Int)) (hB : bits .or .u64 ((x3 : Int) / 2 ^ r) (IntKind.u64.wrap ((x4 : Int) * 2 ^ (64 - r))) = (B : Int)) :
    Calls Try.prog 51 #[.agg #[.int .u64 a, .int .u64 b], .int .i64 p] w (RetV w (.agg #[.int .u64 (A : Int), .int .u64 (B : Int)])) := by
  have e1 : IntKind.i64.wrap (q : Int) = (q : Int) := w64 _ (by omega) (by omega)
  have e2 : IntKind.i64.wrap ((q : Int) + 1) = (q : Int) + 1 := w64 _ (by omega) (by omega)
  have e3 : IntKind.i64.wrap (1 + (q : Int)) = 1 + (q : Int) := w64 _ (by omega) (by omega)
  have e3' : IntKind.i64.wrap (1 + (q : Int) + 1) = 1 + (q : Int) + 1 := w64 _ (by omega) (by omega)
  have e4 : IntKind.i64.wrap (64 - (r : Int)) = 64 - (r : Int) := w64 _ (by omega) (by omega)
  have e5 : (0 : Int) ≤ 64 - (r : Int) := by omega
  have e6 : (64 - (r : Int)).toNat = 64 - r := by omega
  go_enter Try.func51, Try.ntmps51
  go_wp2
  refine wp_loop_rounds 3 ?_
  rw [rounds_succ]; go_wp2_with fail
  go_region_held3 (fun w' => w'.cell? ⟨w.heap.size, 0, none⟩ = some (.int .u64 a) ∧ w'.cell? ⟨w.heap.size, 1, none⟩ = some (.int .u64 b))
    (first | exact ⟨by go_simp, by go_simp⟩)
    (first | (go_at_call 87; refine (limb_any _ _ _ _).mono ?_; rintro e w1 ⟨rfl, rfl⟩))
  go_wp2
  rw [rounds_succ]; go_wp2_with fail
  go_region_held3 (fun w' => w'.cell? ⟨w.heap.size, 0, none⟩ = some (.int .u64 a) ∧ w'.cell? ⟨w.heap.size, 1, none⟩ = some (.int .u64 b))
    (first | exact ⟨by go_simp, by go_simp⟩)
    (first | (go_at_call 87; refine (limb_any _ _ _ _).mono ?_; rintro e w1 ⟨rfl, rfl⟩))
  go_wp2
  rw [rounds_succ]; go_wp2
  refine bodyPost_ret (v := .agg #[.int .u64 (A : Int), .int .u64 (B : Int)]) (by simp [results, Try.results51, go_sem]) rfl ⟨rfl, ?_⟩
  repeat (first | exact Below.refl _ _ | refine Below.drew ?_ | refine bal ?_ _)
theorem or_shr (x y r : Nat) (hx : x < 18446744073709551616) : bits .or .u64 ((x : Int) / 2 ^ r) (IntKind.u64.wrap ((y : Int) * 2 ^ (64 - r))) = (((x / 2 ^ r) ||| (y * 2 ^ (64 - r) % 18446744073709551616) : Nat) : Int) := by
  have e1 : IntKind.u64.wrap ((y : Int) * 2 ^ (64 - r)) = ((y * 2 ^ (64 - r) % 18446744073709551616 : Nat) : Int) := by
    rw [IntKind.wrap_u64]
    have : ((2 : Int) ^ (64 - r)) = ((2 ^ (64 - r) : Nat) : Int) := by simp
    rw [this, ← Int.natCast_mul]
    generalize y * 2 ^ (64 - r) = X
    omega
  have e2 : (x : Int) / 2 ^ r = ((x / 2 ^ r : Nat) : Int) := by simp
  rw [e1, e2, u64_or_nat _ _ (Nat.lt_of_le_of_lt (Nat.div_le_self _ _) hx) (Nat.mod_lt _ (by omega))]
theorem down_any {a b N : Nat} (h : Lim a b N) (p : Nat) (hp : p ≤ 128) (w : World) : Calls Try.prog 51 #[.agg #[.int .u64 a, .int .u64 b], .int .i64 p] w (RetN w (N / 2 ^ p)) := by
  have hl := h.down (q := p / 64) (r := p % 64) (by omega) (by omega) (by omega)
  have e : 64 * (p / 64) + p % 64 = p := by omega
  rw [e] at hl
  exact (down_walk a b (p / 64) (p % 64) _ _ _ _ _ _ (p : Int) w (by omega) (by omega) (by omega) (by omega) (by omega) (by omega) rfl rfl rfl rfl (or_shr _ _ _ (limbV_lt h _)) (or_shr _ _ _ (limbV_lt h _))).mono fun e w' ⟨he, hb⟩ => ⟨_, _, hl, he, hb⟩
end Go.Proofs.Ytnnoflohekmnbaa
