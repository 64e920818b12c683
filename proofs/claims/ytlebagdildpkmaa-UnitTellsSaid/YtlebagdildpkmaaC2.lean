/-
  The document's example.
-/
import Derived.Test.YtlebagdildpkmaaProg
import Derived.WalkKit
import Derived.WalkSpells
import Derived.WalkLawsBesides
import Derived.Lib.Hide
import Derived.BigQuiet
import Derived.Deep.QuietTactic
import Derived.Deep.RegionWith
import Derived.Deep.RegionHeld3
import Derived.Test.YtlebagdildpkmaaC1
import Derived.Test.YtlebagdildpkmaaB7
set_option linter.unusedVariables false
namespace Go.Proofs.Ytlebagdildpkmaa
open Go.RowKit
theorem lit_own (W : World) (base : Nat) (hb : base ≤ W.heap.size) (l : List Int) (hl : l.length ≤ 1000) : OwnI (W.alloc (.cells (l.map (Value.int .i64)).toArray 3)) base (.slice (some ⟨W.heap.size, 0, none⟩) l.length l.length) l := by
  unfold OwnI
  have := World.ownsRow_lit (size := 1) (e := 3) (base := base) W (l.map (Value.int .i64)).toArray l.length hb (by unfold maxLen; omega) (by simp)
  simpa using this
theorem lit_ri (W : World) (l : List Int) (hl : l.length ≤ 1000) : RI (W.alloc (.cells (l.map (Value.int .i64)).toArray 3)) (W.alloc (.cells (l.map (Value.int .i64)).toArray 3)).heap.size (some ⟨W.heap.size, 0, none⟩) l := by
  obtain ⟨A, c, e, h, _⟩ := (lit_own W 0 (Nat.zero_le _) l hl).val
  injection e with e1 _ _
  subst e1
  exact h
/-- The document's clauses. -/
def L0 : List (List Int) := [[1, 2], [-1, 3]]
theorem f0a : Forced L0 [-2] (-2) := .given _ (by simp)
theorem f0b : Forced L0 [-2] 1 := .unit [1, 2] 1 (by simp [L0]) (by simp) (by intro y hy hne; simp at hy; rcases hy with rfl | rfl; exact absurd rfl hne; exact f0a)
theorem f0c : Forced L0 [-2] 3 := .unit [-1, 3] 3 (by simp [L0]) (by simp) (by intro y hy hne; simp at hy; rcases hy with rfl | rfl; exact f0b; exact absurd rfl hne)
theorem cl0 : Closed L0 [-2] [1, -2, 3] := by
  refine ⟨?_, by simp, ?_, ?_⟩
  · intro z hz; simp at hz; rcases hz with rfl | rfl | rfl
    · exact f0b
    · exact f0a
    · exact f0c
  · intro z hz; simp at hz; rcases hz with rfl | rfl | rfl <;> decide
  · intro c hc; simp [L0] at hc; rcases hc with rfl | rfl
    · exact .inl ⟨1, by simp, by simp⟩
    · exact .inl ⟨3, by simp, by simp⟩
theorem g0a : Forced L0 [-2, -3] (-2) := .given _ (by simp)
theorem g0b : Forced L0 [-2, -3] 1 := .unit [1, 2] 1 (by simp [L0]) (by simp) (by intro y hy hne; simp at hy; rcases hy with rfl | rfl; exact absurd rfl hne; exact g0a)
theorem g0c : Forced L0 [-2, -3] (-3) := .given _ (by simp)
theorem cl1 : Clash L0 [-2, -3] := .inr ⟨[-1, 3], by simp [L0], by intro y hy; simp at hy; rcases hy with rfl | rfl; exact g0b; exact g0c⟩
theorem varF_small {x : Int} (h0 : -4611686018427387904 ≤ x) (h1 : x ≤ 4611686018427387904) : varF x = (x.natAbs : Int) := by
  unfold varF
  split
  · simp only [IntKind.wrap, IntKind.signed, IntKind.bits]; simp; omega
  · simp only [IntKind.wrap, IntKind.signed, IntKind.bits]; simp; omega
theorem ltP_small {x y : Int} (h0 : -100000 ≤ x) (h1 : x ≤ 100000) (h2 : -100000 ≤ y) (h3 : y ≤ 100000) : ltP x y ↔ (x.natAbs < y.natAbs ∨ (x.natAbs = y.natAbs ∧ x < y)) := by
  unfold ltP
  rw [varF_small (by omega) (by omega), varF_small (by omega) (by omega)]
  omega
theorem sort0 : sortF [1, -2, 3] = [1, -2, 3] := by
  refine sorted_uniq _ _ (sortF_lt _) ?_ (sortF_mem _)
  simp [ltP_small]
theorem sort1 : sortF [2, -1, 2, 1] = [-1, 1, 2] := by
  refine sorted_uniq _ _ (sortF_lt _) ?_ (fun x => ?_)
  · simp [ltP_small]
  · rw [sortF_mem]; simp; omega
theorem close0 : closeL L0 [-2] = [1, -2, 3] := by rw [cl0.eq, sort0]
theorem clash0 : clashB L0 [-2] = false := cl0.no
theorem clash1 : clashB L0 [-2, -3] = true := (clashB_iff _ _).2 cl1
theorem may0 {A : List Int} (h : A.all (fun x => decide (x ≠ 0) && decide (-3 ≤ x) && decide (x ≤ 3)) = true) (hl : A.length ≤ 10) : May L0 A := by
  have ha : Lits A := by
    intro y hy
    have := List.all_eq_true.1 h y hy
    simp only [Bool.and_eq_true, decide_eq_true_eq] at this
    omega
  refine ⟨?_, ha, by decide, by decide, ?_, by omega⟩
  · intro c hc y hy; simp [L0] at hc; rcases hc with rfl | rfl <;> simp at hy <;> omega
  · intro c hc; simp [L0] at hc; rcases hc with rfl | rfl <;> simp
theorem lits0 (w : World) : RCk (((w.alloc (.cells #[.int .i64 1, .int .i64 2] 3)).alloc (.cells #[.int .i64 (-1), .int .i64 3] 3)).alloc (.cells #[.slice (some ⟨w.heap.size, 0, none⟩) 2 2, .slice (some ⟨w.heap.size + 1, 0, none⟩) 2 2] 23)) (w.heap.size + 3) (some ⟨w.heap.size + 1 + 1, 0, none⟩) L0 := by
  intro i hi
  have r1 := lit_ri w [1, 2] (by simp)
  have r2 := lit_ri (w.alloc (.cells #[.int .i64 1, .int .i64 2] 3)) [-1, 3] (by simp)
  have b1 : Below (w.alloc (.cells #[.int .i64 1, .int .i64 2] 3)).heap.size (w.alloc (.cells #[.int .i64 1, .int .i64 2] 3)) (((w.alloc (.cells #[.int .i64 1, .int .i64 2] 3)).alloc (.cells #[.int .i64 (-1), .int .i64 3] 3)).alloc (.cells #[.slice (some ⟨w.heap.size, 0, none⟩) 2 2, .slice (some ⟨w.heap.size + 1, 0, none⟩) 2 2] 23)) := bal (bal (Below.refl _ _) _) _
  have b2 : Below ((w.alloc (.cells #[.int .i64 1, .int .i64 2] 3)).alloc (.cells #[.int .i64 (-1), .int .i64 3] 3)).heap.size ((w.alloc (.cells #[.int .i64 1, .int .i64 2] 3)).alloc (.cells #[.int .i64 (-1), .int .i64 3] 3)) (((w.alloc (.cells #[.int .i64 1, .int .i64 2] 3)).alloc (.cells #[.int .i64 (-1), .int .i64 3] 3)).alloc (.cells #[.slice (some ⟨w.heap.size, 0, none⟩) 2 2, .slice (some ⟨w.heap.size + 1, 0, none⟩) 2 2] 23)) := bal (Below.refl _ _) _
  have s1 : (w.alloc (.cells #[.int .i64 1, .int .i64 2] 3)).heap.size = w.heap.size + 1 := by simp
  have s2 : ((w.alloc (.cells #[.int .i64 1, .int .i64 2] 3)).alloc (.cells #[.int .i64 (-1), .int .i64 3] 3)).heap.size = w.heap.size + 2 := by simp
  have hi' : i = 0 ∨ i = 1 := by simp [L0] at hi; omega
  rcases hi' with rfl | rfl
  · refine ⟨_, some ⟨w.heap.size, 0, none⟩, 2, rfl, by simp, by rw [add_loc]; go_simp; rfl, ?_, by simp [L0], by simp [maxLen]⟩
    exact (r1.below b1).mono (by show (w.alloc (.cells #[.int .i64 1, .int .i64 2] 3)).heap.size ≤ _; omega)
  · refine ⟨_, some ⟨w.heap.size + 1, 0, none⟩, 2, rfl, by simp, by rw [add_loc]; go_simp; rfl, ?_, by simp [L0], by simp [maxLen]⟩
    have hx := (r2.below b2).mono (B' := w.heap.size + 3) (by show ((w.alloc (.cells #[.int .i64 1, .int .i64 2] 3)).alloc (.cells #[.int .i64 (-1), .int .i64 3] 3)).heap.size ≤ _; omega)
    rw [s1] at hx
    exact hx
end Go.Proofs.Ytlebagdildpkmaa
