/-
  arguments opened
-/
import Derived.Test.YtnnoflohekmnbaaRows
import Derived.Test.YtnnoflohekmnbaaE4
import Derived.ProofKit
import Derived.OpenShut
import Derived.PinnedBridge
import Derived.Lib.LaidIn
import Derived.Lib.SmallJoins
import Derived.Deep.DeepHandedRow
import Derived.Deep.DeepWitnessRowRef
import Derived.SizedLaws
set_option linter.unusedVariables false
namespace Go.Proofs.Ytnnoflohekmnbaa
open Go.Shelf Go.ChangeShapes Go.WideShapes Go.ChangeAt Go.RowKit Go.Lib Go.Joins
theorem own : ownKnob Try.prog.godebug = none := by kernel_rfl
theorem laidOut : laidOutB Try.prog = true := by kernel_rfl
theorem cellsX60 : Try.prog.cellsOf 60 = 1 := by kernel_rfl
theorem block_ltX {w : World} {a : Addr} {v : Value} (h : w.cell? a = some v) : a.block < w.heap.size := by
  rcases Nat.lt_or_ge a.block w.heap.size with h' | h'
  · exact h'
  · simp [World.cell?, Array.getElem?_eq_none h'] at h
/-- A slice of numbers that came in. -/
theorem opened {H : Type} {enc : TypeId × Value → H} {W : World} {fuel : Nat} {v : Value} {y : DataW H × List MemPlace} (h : DataW.trod enc Try.prog W 0 (fun _ => true) true fuel 22 [v] = some y) :
    ∃ (A : Option Addr) (c : Nat) (l : List Nat), v = .slice A l.length c ∧ R64 W W.heap.size A l ∧ (∀ x ∈ l, x < 18446744073709551616) ∧ l.length ≤ c ∧ c ≤ maxLen := by
  rcases open_ints Try.underlying22 Try.underlying60 cellsX60 h with ⟨hcs, _⟩ | ⟨a, len, cap, zs, hcs, _, hl, hm, hz, _, hcell, hwz⟩
  · simp at hcs
    subst hcs
    exact ⟨none, 0, [], rfl, fun i hi => by simp at hi, by simp, by simp, by unfold maxLen; omega⟩
  · simp at hcs hz
    subst hcs
    have hlen : ((zs.take len).map fun z => z.toNat).length = len := by simp; omega
    refine ⟨some a, cap, (zs.take len).map fun z => z.toNat, by rw [hlen], fun i hi => ?_, ?_, by rw [hlen]; exact hl, hm⟩
    · rw [hlen] at hi
      have hc := hcell i (by omega)
      refine ⟨a, rfl, by have := block_ltX hc; rwa [block_add] at this, ?_⟩
      rw [hc]
      have hi2 : i < zs.length := by omega
      have hw := hwz zs[i] (List.getElem_mem hi2)
      have hb := bounds_u64 hw
      have e1 : zs.getD i 0 = zs[i] := by simp [List.getD_eq_getElem?_getD, hi2]
      have e2 : ((zs.take len).map fun z => z.toNat).getD i 0 = zs[i].toNat := by
        simp [List.getD_eq_getElem?_getD, hi, hi2]
      rw [e1, e2]
      congr 2
      omega
    · intro x hx
      rw [List.mem_map] at hx
      obtain ⟨z, hz1, rfl⟩ := hx
      have hb := bounds_u64 (hwz z (List.mem_of_mem_take hz1))
      omega
set_option maxRecDepth 100000 in
/-- A vector that came in, right or not. -/
theorem opened_vec {H : Type} {enc : TypeId × Value → H} {W : World} {r : Reach} {b0 : Nat} {v : Value} {d : DataW H} {p : List MemPlace} (hv : Value.okWide Try.prog W r b0 24 v) (h : DataW.Trod enc Try.prog W 0 (fun _ => true) true 24 v d p) :
    ∃ (V : Int) (A : Option Addr) (c : Nat) (l : List Nat), v = .agg #[.int .i64 V, .slice A l.length c] ∧ R64 W W.heap.size A l ∧ (∀ x ∈ l, x < 18446744073709551616) ∧ l.length ≤ c ∧ c ≤ maxLen := by
  obtain ⟨v0, v1, y0, y1, n, rfl, hd, hp, h0, h1⟩ := open_agg2 Try.underlying24 (by kernel_rfl) (by kernel_rfl) hv h
  obtain ⟨k, e1, _, wk⟩ := DataW.trod_int Try.underlying3 h0
  obtain ⟨A, c, l, rfl, hrd, hlt, hn, hc⟩ := opened h1
  simp at e1
  subst e1
  exact ⟨k, A, c, l, rfl, hrd, hlt, hn, hc⟩
/-- A first world, for the witness. -/
noncomputable def firstWorld (os : Os) : World := World.holding Try.prog os ⟨#[], #[], []⟩
theorem none_met (w : World) : laidMet Try.prog [] w := ⟨[], by first | exact ⟨rfl⟩ | exact rfl | exact trivial | constructor, List.nodup_nil, fun b off h => by cases h⟩
end Go.Proofs.Ytnnoflohekmnbaa
