/-
  Slices of slices.
-/
import Derived.Test.YtlebagdildpkmaaProg
import Derived.WalkKit
import Derived.WalkSpells
import Derived.WalkLawsBesides
import Derived.Lib.Hide
import Derived.BigQuiet
import Derived.Deep.QuietTactic
import Derived.Deep.RegionWith
import Derived.Deep.RegionHeld3
import Derived.Test.YtlebagdildpkmaaA5
set_option linter.unusedVariables false
namespace Go.Proofs.Ytlebagdildpkmaa
open Go.RowKit
def cutA (A : Option Addr) (c k : Nat) : Option Addr := if c = k then A else A.map (·.add k)
theorem RI.cut {w : World} {B : Nat} {A : Option Addr} {l : List Int} (h : RI w B A l) {k c : Nat} (hc : l.length ≤ c) : RI w B (cutA A c k) (l.drop k) := by
  intro i hi
  simp only [List.length_drop] at hi
  obtain ⟨ad, rfl, hb, hcell⟩ := h (k + i) (by omega)
  refine ⟨ad.add k, by simp [cutA]; omega, by rw [block_add]; exact hb, ?_⟩
  rw [add_add_, hcell]
  have e : (l.drop k).getD i 0 = l.getD (k + i) 0 := by
    simp only [List.getD_eq_getElem?_getD, List.getElem?_drop]
  rw [e]
/-- The clauses' slices have room for what they hold. -/
def RK (w : World) (B : Nat) (A : Option Addr) (L : List (List Int)) : Prop :=
  ∀ i, i < L.length → ∃ ad A' c', A = some ad ∧ ad.block < B ∧ w.cell? (ad.add i) = some (.slice A' (L.getD i []).length c') ∧ (L.getD i []).length ≤ c' ∧ c' ≤ maxLen
theorem RK.below {w w' : World} {B : Nat} {A : Option Addr} {L : List (List Int)} (h : RK w B A L) (hb : Below B w w') : RK w' B A L := by
  intro i hi
  obtain ⟨ad, A', c', e, hlt, hc, hr⟩ := h i hi
  exact ⟨ad, A', c', e, hlt, (hb.cell (by rw [block_add]; exact hlt)).trans hc, hr⟩
theorem RK.mono {w : World} {B B' : Nat} {A : Option Addr} {L : List (List Int)} (h : RK w B A L) (hB : B ≤ B') : RK w B' A L := by
  intro i hi
  obtain ⟨ad, A', c', e, hlt, hc, hr⟩ := h i hi
  exact ⟨ad, A', c', e, by omega, hc, hr⟩
theorem RK.nx {w w' : World} {A : Option Addr} {L : List (List Int)} (h : RK w w.heap.size A L) (hb : Below w.heap.size w w') : RK w' w'.heap.size A L := (h.below hb).mono hb.size
theorem el23 : Try.prog.elem 23 = 3 := by kernel_rfl
theorem run_size3 (w : World) : (sizeOf 3).run Try.prog w = .ok 1 w := by kernel_rfl
theorem slice_l (A : Option Addr) (n c k : Nat) (h0 : k ≤ n) (w : World) :
    (Instr.slice 23 (.slice A n c) (some (.int .i64 k)) none none).run Try.prog w = .ok (.slice (cutA A c k) (n - k) (c - k)) w := by
  rw [run_slice_l w 23 A n c Try.underlying23 .i64 k (by omega) (by omega), el23, run_size3]
  simp [Result.andThen, sliced, cutA]
end Go.Proofs.Ytlebagdildpkmaa
