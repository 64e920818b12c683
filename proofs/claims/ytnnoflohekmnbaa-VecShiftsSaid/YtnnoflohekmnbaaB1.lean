/-
  Vectors in memory, and vec.numberOf over the translated program. Nothing is assumed.
-/
import Derived.Test.YtnnoflohekmnbaaProg
import Derived.WalkKit
import Derived.WalkSpells
import Derived.WalkLawsBesides
import Derived.LoopN
import Derived.IntWalk
import Derived.Lib.Hide
import Derived.Laws.IdiomCopy
import Derived.Test.YtnnoflohekmnbaaA7
import Derived.Laws.BitsAllLaws
import Derived.Laws.Externs
import Derived.BigQuiet
import Derived.BigRegion
import Derived.Deep.QuietTactic
import Derived.Deep.RegionWith
import Derived.Deep.RegionHeld3
import Derived.StillTailTactics
import Derived.RegionTactic
import Derived.ChangeAlike
set_option linter.unusedVariables false
namespace Go.Proofs.Ytnnoflohekmnbaa
open Go.RowKit
/-- The slice at A holds the numbers l, in blocks below B. -/
def R64 (w : World) (B : Nat) (A : Option Addr) (l : List Nat) : Prop :=
  ∀ i, i < l.length → ∃ ad, A = some ad ∧ ad.block < B ∧ w.cell? (ad.add i) = some (.int .u64 ((l.getD i 0 : Nat) : Int))
theorem R64.below {w w' : World} {B : Nat} {A : Option Addr} {l : List Nat} (h : R64 w B A l) (hb : Below B w w') : R64 w' B A l := by
  intro i hi
  obtain ⟨ad, e, hlt, hc⟩ := h i hi
  exact ⟨ad, e, hlt, (hb.cell (by show (ad.add i).block < B; unfold Addr.add; split <;> exact hlt)).trans hc⟩
theorem R64.mono {w : World} {B B' : Nat} {A : Option Addr} {l : List Nat} (h : R64 w B A l) (hB : B ≤ B') : R64 w B' A l := by
  intro i hi
  obtain ⟨ad, e, hlt, hc⟩ := h i hi
  exact ⟨ad, e, by omega, hc⟩
theorem add_zero_ (ad : Addr) : ad.add 0 = ad := by unfold Addr.add; simp
theorem block_add (a : Addr) (n : Nat) : (a.add n).block = a.block := by unfold Addr.add; split <;> rfl
/-- How many limbs a width takes. -/
def lm (W : Nat) : Nat := (W + 63) / 64
/-- The limbs of N, a number of W bits. -/
def lmL (W N : Nat) : List Nat := if W ≤ 64 then [N] else [N % 18446744073709551616, N / 18446744073709551616]
/-- A right vector of width W and number N lies at ad. -/
structure Vc (w : World) (B : Nat) (ad : Addr) (c W N : Nat) : Prop where
  w1 : 1 ≤ W
  w2 : W ≤ 128
  n : N < 2 ^ W
  c1 : lm W ≤ c
  c2 : c ≤ maxLen
  rd : R64 w B (some ad) (lmL W N)
theorem Vc.below {w w' : World} {B : Nat} {ad : Addr} {c W N : Nat} (h : Vc w B ad c W N) (hb : Below B w w') : Vc w' B ad c W N := ⟨h.w1, h.w2, h.n, h.c1, h.c2, h.rd.below hb⟩
theorem Vc.mono {w : World} {B B' : Nat} {ad : Addr} {c W N : Nat} (h : Vc w B ad c W N) (hB : B ≤ B') : Vc w B' ad c W N := ⟨h.w1, h.w2, h.n, h.c1, h.c2, h.rd.mono hB⟩
theorem Vc.lt {w : World} {B : Nat} {ad : Addr} {c W N : Nat} (h : Vc w B ad c W N) : N < 2 ^ 128 := Nat.lt_of_lt_of_le h.n (Nat.pow_le_pow_right (by omega) h.w2)
theorem Vc.one {w : World} {B : Nat} {ad : Addr} {c W N : Nat} (h : Vc w B ad c W N) (hW : W ≤ 64) : lm W = 1 ∧ N < 18446744073709551616 ∧ w.cell? ad = some (.int .u64 N) ∧ ad.block < B := by
  have h1 := h.w1
  have hn : N < 2 ^ 64 := Nat.lt_of_lt_of_le h.n (Nat.pow_le_pow_right (by omega) hW)
  rw [two64] at hn
  obtain ⟨a', e, hb, hc⟩ := h.rd 0 (by unfold lmL; rw [if_pos hW]; simp)
  injection e with e; subst e
  unfold lmL at hc
  rw [if_pos hW, add_zero_] at hc
  exact ⟨by unfold lm; omega, hn, hc, hb⟩
theorem Vc.two {w : World} {B : Nat} {ad : Addr} {c W N : Nat} (h : Vc w B ad c W N) (hW : ¬ W ≤ 64) : lm W = 2 ∧ w.cell? ad = some (.int .u64 ((N % 18446744073709551616 : Nat) : Int)) ∧ w.cell? (ad.add 1) = some (.int .u64 ((N / 18446744073709551616 : Nat) : Int)) ∧ ad.block < B := by
  have h2 := h.w2
  obtain ⟨a', e, hb, hc⟩ := h.rd 0 (by unfold lmL; rw [if_neg hW]; simp)
  injection e with e; subst e
  obtain ⟨a', e, hb', hc'⟩ := h.rd 1 (by unfold lmL; rw [if_neg hW]; simp)
  injection e with e; subst e
  unfold lmL at hc hc'
  rw [if_neg hW, add_zero_] at hc
  rw [if_neg hW] at hc'
  exact ⟨by unfold lm; omega, hc, hc', hb⟩
theorem size60 : (Try.prog.info? 60).map (·.size) = some 1 := by kernel_rfl
theorem copy_one (W : World) (b c x : Nat) (ad : Addr) (h : W.cell? ad = some (.int .u64 x)) (hc : (W.cell? ⟨b, 0, none⟩).isSome = true) (hf : W.frozen? ⟨b, 0, none⟩ = false) :
    (Builtin.copy_ #[22, 22] 3 #[.slice (some ⟨b, 0, none⟩) 2 2, .slice (some ad) 1 c]).run Try.prog W = .ok (.int .i64 1) (W.setCell ⟨b, 0, none⟩ (.int .u64 x)) :=
  run_copy_cells W 22 22 3 60 b 0 2 2 ad 1 c [.int .u64 x] Try.underlying22 size60 rfl
    (fun j v hj => by
      rcases j with _ | j
      · simp at hj; subst hj; rw [add_zero_]; exact h
      · simp at hj)
    (fun j hj => by simp at hj; subst hj; exact hc) (fun j hj => by simp at hj; subst hj; exact hf) (fun v hv => by simp at hv; subst hv; rfl)
theorem copy_two (W : World) (b c x y : Nat) (ad : Addr) (h : W.cell? ad = some (.int .u64 x)) (h1 : W.cell? (ad.add 1) = some (.int .u64 y)) (hc : (W.cell? ⟨b, 0, none⟩).isSome = true) (hc1 : (W.cell? ⟨b, 1, none⟩).isSome = true) (hf : W.frozen? ⟨b, 0, none⟩ = false) (hf1 : W.frozen? ⟨b, 1, none⟩ = false) :
    (Builtin.copy_ #[22, 22] 3 #[.slice (some ⟨b, 0, none⟩) 2 2, .slice (some ad) 2 c]).run Try.prog W = .ok (.int .i64 2) ((W.setCell ⟨b, 0, none⟩ (.int .u64 x)).setCell ⟨b, 1, none⟩ (.int .u64 y)) :=
  run_copy_cells W 22 22 3 60 b 0 2 2 ad 2 c [.int .u64 x, .int .u64 y] Try.underlying22 size60 rfl
    (fun j v hj => by
      rcases j with _ | _ | j
      · simp at hj; subst hj; rw [add_zero_]; exact h
      · simp at hj; subst hj; exact h1
      · simp at hj)
    (fun j hj => by simp at hj; rcases j with _ | _ | j; exact hc; exact hc1; omega) (fun j hj => by simp at hj; rcases j with _ | _ | j; exact hf; exact hf1; omega) (fun v hv => by simp at hv; rcases hv with rfl | rfl <;> rfl)
set_option maxHeartbeats 400000 in
theorem numberOf_one (W : Int) (ad : Addr) (c x : Nat) (w : World) (h : w.cell? ad = some (.int .u64 x)) (hb : ad.block < w.heap.size) :
    Calls Try.prog 52 #[.agg #[.int .i64 W, .slice (some ad) 1 c]] w (RetV w (.agg #[.int .u64 x, .int .u64 0])) := by
  have hcp := copy_one (((w.alloc (Obj.cells #[Value.int IntKind.i64 W, Value.slice (some ad) 1 c] 24)).alloc (Obj.cells #[Value.int IntKind.u64 0, Value.int IntKind.u64 0] 62)).alloc (Obj.cells #[Value.int IntKind.u64 0, Value.int IntKind.u64 0] 62)).drew (w.heap.size + 1 + 1) c x ad
    (((bal (bal (bal (Below.refl w.heap.size w) _) _) _).drew.cell hb).trans h) (by go_simp) (by go_simp)
  clear h hb
  go_enter Try.func52, Try.ntmps52
  go_wp2
  go_region
  go_wp2
  refine bodyPost_ret (v := .agg #[.int .u64 (x : Int), .int .u64 0]) (by simp [results, Try.results52, go_sem]) rfl ⟨rfl, ?_⟩
  repeat (first | exact Below.refl _ _ | refine Below.drew ?_ | refine bal ?_ _)
set_option maxHeartbeats 400000 in
theorem numberOf_two (W : Int) (ad : Addr) (c x y : Nat) (w : World) (h : w.cell? ad = some (.int .u64 x)) (h1 : w.cell? (ad.add 1) = some (.int .u64 y)) (hb : ad.block < w.heap.size) :
    Calls Try.prog 52 #[.agg #[.int .i64 W, .slice (some ad) 2 c]] w (RetV w (.agg #[.int .u64 x, .int .u64 y])) := by
  have hcp := copy_two (((w.alloc (Obj.cells #[Value.int IntKind.i64 W, Value.slice (some ad) 2 c] 24)).alloc (Obj.cells #[Value.int IntKind.u64 0, Value.int IntKind.u64 0] 62)).alloc (Obj.cells #[Value.int IntKind.u64 0, Value.int IntKind.u64 0] 62)).drew (w.heap.size + 1 + 1) c x y ad
    (((bal (bal (bal (Below.refl w.heap.size w) _) _) _).drew.cell hb).trans h) (((bal (bal (bal (Below.refl w.heap.size w) _) _) _).drew.cell (by rw [block_add]; exact hb)).trans h1) (by go_simp) (by go_simp) (by go_simp) (by go_simp)
  clear h hb h1
  go_enter Try.func52, Try.ntmps52
  go_wp2
  go_region
  go_wp2
  refine bodyPost_ret (v := .agg #[.int .u64 (x : Int), .int .u64 (y : Int)]) (by simp [results, Try.results52, go_sem]) rfl ⟨rfl, ?_⟩
  repeat (first | exact Below.refl _ _ | refine Below.drew ?_ | refine bal ?_ _)
theorem numberOf_any {w : World} {ad : Addr} {c W N : Nat} (h : Vc w w.heap.size ad c W N) : Calls Try.prog 52 #[.agg #[.int .i64 W, .slice (some ad) (lm W) c]] w (RetN w N) := by
  by_cases hW : W ≤ 64
  · obtain ⟨e, hn, hc, hb⟩ := h.one hW
    rw [e]
    exact (numberOf_one W ad c N w hc hb).mono fun e w' ⟨he, hb⟩ => ⟨N, 0, Lim.small N hn, he, hb⟩
  · obtain ⟨e, hc, hc1, hb⟩ := h.two hW
    rw [e]
    exact (numberOf_two W ad c _ _ w hc hc1 hb).mono fun e w' ⟨he, hb⟩ => ⟨_, _, Lim.of N h.lt, he, hb⟩
end Go.Proofs.Ytnnoflohekmnbaa
