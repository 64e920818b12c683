/-
  The frame of every statement of this seat: how arguments are opened. Nothing is assumed.
-/
import Derived.Test.YtlebagdildpkmaaProg
import Derived.WalkKit
import Derived.WalkSpells
import Derived.WalkLawsBesides
import Derived.Lib.Hide
import Derived.BigQuiet
import Derived.Deep.QuietTactic
import Derived.Deep.RegionWith
import Derived.Deep.RegionHeld3
import Derived.Test.YtlebagdildpkmaaRows
import Derived.Test.YtlebagdildpkmaaA6
import Derived.ProofKit
import Derived.OpenShut
import Derived.PinnedBridge
import Derived.Lib.LaidIn
import Derived.Lib.SmallJoins
import Derived.Deep.Slices
import Derived.Deep.DeepHandedRow
import Derived.Deep.DeepWitnessRowRef
import Derived.SizedLaws
set_option linter.unusedVariables false
namespace Go.Proofs.Ytlebagdildpkmaa
open Go.RowKit
open Go.Shelf Go.ChangeShapes Go.WideShapes Go.ChangeAt Go.RowKit Go.Lib Go.Joins
theorem own : ownKnob Try.prog.godebug = none := by kernel_rfl
theorem laidOut : laidOutB Try.prog = true := by kernel_rfl
theorem cells3 : Try.prog.cellsOf 3 = 1 := by kernel_rfl
theorem cells4 : Try.prog.cellsOf 4 = 1 := by kernel_rfl
theorem cells23 : Try.prog.cellsOf 23 = 1 := by kernel_rfl
theorem block_lt {w : World} {a : Addr} {v : Value} (h : w.cell? a = some v) : a.block < w.heap.size := by
  rcases Nat.lt_or_ge a.block w.heap.size with h' | h'
  · exact h'
  · simp [World.cell?, Array.getElem?_eq_none h'] at h
/-- A slice of numbers that came in. -/
theorem opened23 {H : Type} {enc : TypeId × Value → H} {W : World} {fuel : Nat} {v : Value} {y : DataW H × List MemPlace} (h : DataW.trod enc Try.prog W 0 (fun _ => true) true fuel 23 [v] = some y) :
    ∃ (A : Option Addr) (c : Nat) (l : List Int), v = .slice A l.length c ∧ RI W W.heap.size A l ∧ l.length ≤ c ∧ c ≤ maxLen ∧ (A = none → c = 0) := by
  rcases open_ints Try.underlying23 Try.underlying3 cells3 h with ⟨hcs, _⟩ | ⟨a, len, cap, zs, hcs, _, hl, hm, hz, _, hcell, hwz⟩
  · simp at hcs
    subst hcs
    exact ⟨none, 0, [], rfl, RI.nil _ _ _, by simp, by unfold maxLen; omega, fun _ => rfl⟩
  · simp at hcs hz
    subst hcs
    have hlen : (zs.take len).length = len := by simp; omega
    refine ⟨some a, cap, zs.take len, by rw [hlen], fun i hi => ?_, by rw [hlen]; exact hl, hm, fun e => by cases e⟩
    rw [hlen] at hi
    have hc := hcell i (by omega)
    refine ⟨a, rfl, by have := block_lt hc; rwa [block_add] at this, ?_⟩
    rw [hc]
    have e2 : (zs.take len).getD i 0 = zs.getD i 0 := by
      simp only [List.getD_eq_getElem?_getD, List.getElem?_take]; rw [if_pos hi]
    rw [e2]
/-- A slice of flags that came in. -/
theorem opened30 {H : Type} {enc : TypeId × Value → H} {W : World} {fuel : Nat} {v : Value} {y : DataW H × List MemPlace} (h : DataW.trod enc Try.prog W 0 (fun _ => true) true fuel 30 [v] = some y) :
    ∃ (A : Option Addr) (c : Nat) (l : List Bool), v = .slice A l.length c ∧ RB W W.heap.size A l ∧ l.length ≤ c ∧ c ≤ maxLen ∧ (A = none → c = 0) := by
  rcases Go.Deep.open_slice1 Try.underlying30 cells4 h with ⟨hcs, _⟩ | ⟨a, len, cap, m, n, V, D, Pl, hcs, _, hl, hm, hmm, _, hx⟩
  · simp at hcs
    subst hcs
    exact ⟨none, 0, [], rfl, fun i hi => absurd hi (by simp), by simp, by unfold maxLen; omega, fun _ => rfl⟩
  · simp at hcs
    subst hcs
    have hle : len ≤ m := by rw [hmm]; split <;> omega
    have hV : ∀ i, i < len → ∃ b, V i = .bool b := by
      intro i hi
      obtain ⟨_, h2⟩ := hx i (by omega)
      obtain ⟨b, hb, _⟩ := DataW.trod_bool Try.underlying4 h2
      exact ⟨b, by simpa using hb⟩
    have hlen : ((List.range len).map fun i => match V i with | .bool b => b | _ => false).length = len := by simp
    refine ⟨some a, cap, (List.range len).map fun i => match V i with | .bool b => b | _ => false, by rw [hlen], fun i hi => ?_, by rw [hlen]; exact hl, hm, fun e => by cases e⟩
    rw [hlen] at hi
    obtain ⟨hc, _⟩ := hx i (by omega)
    obtain ⟨b, hb⟩ := hV i hi
    refine ⟨a, rfl, by have := block_lt hc; rwa [block_add] at this, ?_⟩
    rw [hc, hb]
    simp [List.getD_eq_getElem?_getD, hi, hb]
/-- A slice of clauses that came in. -/
theorem opened22 {H : Type} {enc : TypeId × Value → H} {W : World} {fuel : Nat} {v : Value} {y : DataW H × List MemPlace} (h : DataW.trod enc Try.prog W 0 (fun _ => true) true fuel 22 [v] = some y) :
    ∃ (A : Option Addr) (c : Nat) (L : List (List Int)), v = .slice A L.length c ∧ RCk W W.heap.size A L ∧ L.length ≤ c ∧ c ≤ maxLen ∧ (A = none → c = 0) := by
  rcases Go.Deep.open_slice1 Try.underlying22 cells23 h with ⟨hcs, _⟩ | ⟨a, len, cap, m, n, V, D, Pl, hcs, _, hl, hm, hmm, _, hx⟩
  · simp at hcs
    subst hcs
    exact ⟨none, 0, [], rfl, fun i hi => absurd hi (by simp), by simp, by unfold maxLen; omega, fun _ => rfl⟩
  · simp at hcs
    subst hcs
    have hle : len ≤ m := by rw [hmm]; split <;> omega
    have hV : ∀ i, i < len → ∃ (A : Option Addr) (c : Nat) (l : List Int), V i = .slice A l.length c ∧ RI W W.heap.size A l ∧ l.length ≤ c ∧ c ≤ maxLen := by
      intro i hi
      obtain ⟨_, h2⟩ := hx i (by omega)
      obtain ⟨A, c, l, h3, h4, h5, h6, _⟩ := opened23 h2
      exact ⟨A, c, l, h3, h4, h5, h6⟩
    obtain ⟨F, hF⟩ : ∃ F : Nat → List Int, ∀ i, i < len → ∃ (A : Option Addr) (c : Nat), V i = .slice A (F i).length c ∧ RI W W.heap.size A (F i) ∧ (F i).length ≤ c ∧ c ≤ maxLen := by
      refine ⟨fun i => if h : i < len then Classical.choose (Classical.choose_spec (Classical.choose_spec (hV i h))) else [], fun i hi => ?_⟩
      simp only [dif_pos hi]
      exact ⟨_, _, Classical.choose_spec (Classical.choose_spec (Classical.choose_spec (hV i hi)))⟩
    have hlen : ((List.range len).map F).length = len := by simp
    refine ⟨some a, cap, (List.range len).map F, by rw [hlen], fun i hi => ?_, by rw [hlen]; exact hl, hm, fun e => by cases e⟩
    rw [hlen] at hi
    obtain ⟨hc, _⟩ := hx i (by omega)
    obtain ⟨A', c', h1, h2, h3⟩ := hF i hi
    have e : ((List.range len).map F).getD i [] = F i := by simp [List.getD_eq_getElem?_getD, hi]
    rw [e]
    exact ⟨a, A', c', rfl, by have := block_lt hc; rwa [block_add] at this, by rw [hc, h1], h2, h3⟩
/-- A first world, for the witness. -/
noncomputable def firstWorld (os : Os) : World := World.holding Try.prog os ⟨#[], #[], []⟩
theorem none_met (w : World) : laidMet Try.prog [] w := ⟨[], by first | exact ⟨rfl⟩ | exact rfl | exact trivial | constructor, List.nodup_nil, fun b off h => by cases h⟩
end Go.Proofs.Ytlebagdildpkmaa
