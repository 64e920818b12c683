/-
  VecParts' argument opened
-/
import Derived.Test.YtnnoflohekmnbaaRows
import Derived.Test.YtnnoflohekmnbaaX0
import Derived.ProofKit
import Derived.OpenShut
import Derived.PinnedBridge
import Derived.Lib.LaidIn
import Derived.Lib.SmallJoins
import Derived.Deep.DeepHandedRow
import Derived.Deep.DeepWitnessRowRef
import Derived.SizedLaws
set_option linter.unusedVariables false
namespace Go.Proofs.Ytnnoflohekmnbaa
open Go.Shelf Go.ChangeShapes Go.WideShapes Go.ChangeAt Go.RowKit Go.Lib Go.Joins
theorem array6 {α : Type} {a : Array α} (h : a.size = 6) : ∃ x0 x1 x2 x3 x4 x5, a = #[x0, x1, x2, x3, x4, x5] := by
  match a, h with
  | ⟨[x0, x1, x2, x3, x4, x5]⟩, _ => exact ⟨x0, x1, x2, x3, x4, x5, rfl⟩
set_option maxRecDepth 100000 in
/-- A vector's two cells that came in. -/
theorem opened_two {H : Type} {enc : TypeId × Value → H} {W : World} {fuel : Nat} {v0 v1 : Value} {y : DataW H × List MemPlace} (h : DataW.trod enc Try.prog W 0 (fun _ => true) true fuel 24 [v0, v1] = some y) :
    ∃ (V : Int) (A : Option Addr) (c : Nat) (l : List Nat), v0 = .int .i64 V ∧ v1 = .slice A l.length c ∧ R64 W W.heap.size A l ∧ (∀ x ∈ l, x < 18446744073709551616) ∧ l.length ≤ c ∧ c ≤ maxLen := by
  obtain ⟨y0, y1, n, hx, _, h0, h1⟩ := trod_struct2 Try.underlying24 h
  have h0' : DataW.trod enc Try.prog W 0 (fun _ => true) true n 3 [v0] = some y0 := h0
  have h1' : DataW.trod enc Try.prog W 0 (fun _ => true) true n 22 [v1] = some y1 := h1
  obtain ⟨k, e1, _, wk⟩ := DataW.trod_int Try.underlying3 h0'
  obtain ⟨A, c, l, rfl, hrd, hlt, hn, hc⟩ := opened h1'
  simp at e1
  subst e1
  exact ⟨k, A, c, l, rfl, rfl, hrd, hlt, hn, hc⟩
set_option maxRecDepth 100000 in
/-- VecParts' argument. -/
theorem opened58 {H : Type} {enc : TypeId × Value → H} {W : World} {r : Reach} {b0 : Nat} {v : Value} {d : DataW H} {p : List MemPlace} (hv : Value.okWide Try.prog W r b0 58 v) (h : DataW.Trod enc Try.prog W 0 (fun _ => true) true 58 v d p) :
    ∃ (V : Int) (A : Option Addr) (c : Nat) (l : List Nat) (V' : Int) (A' : Option Addr) (c' : Nat) (l' : List Nat) (i n : Int), v = .agg #[.int .i64 V, .slice A l.length c, .int .i64 V', .slice A' l'.length c', .int .i64 i, .int .i64 n] ∧
      R64 W W.heap.size A l ∧ (∀ x ∈ l, x < 18446744073709551616) ∧ l.length ≤ c ∧ c ≤ maxLen ∧ R64 W W.heap.size A' l' ∧ (∀ x ∈ l', x < 18446744073709551616) ∧ l'.length ≤ c' ∧ c' ≤ maxLen ∧
      (-9223372036854775808 ≤ i ∧ i ≤ 9223372036854775807) ∧ (-9223372036854775808 ≤ n ∧ n ≤ 9223372036854775807) := by
  obtain ⟨cs, rfl, hsz⟩ := okWide_struct Try.underlying58 hv
  obtain ⟨x0, x1, x2, x3, x4, x5, rfl⟩ := array6 (hsz.trans (by kernel_rfl))
  obtain ⟨fuel, hf⟩ := h
  obtain ⟨y0, y1, y2, y3, n, hx, _, h0, h1, h2, h3⟩ := trod_struct4 Try.underlying58 hf
  have h0' : DataW.trod enc Try.prog W 0 (fun _ => true) true n 24 [x0, x1] = some y0 := h0
  have h1' : DataW.trod enc Try.prog W 0 (fun _ => true) true n 24 [x2, x3] = some y1 := h1
  have h2' : DataW.trod enc Try.prog W 0 (fun _ => true) true n 3 [x4] = some y2 := h2
  have h3' : DataW.trod enc Try.prog W 0 (fun _ => true) true n 3 [x5] = some y3 := h3
  obtain ⟨V, A, c, l, rfl, rfl, a1, a2, a3, a4⟩ := opened_two h0'
  obtain ⟨V', A', c', l', rfl, rfl, b1, b2, b3, b4⟩ := opened_two h1'
  obtain ⟨i, e1, _, w1⟩ := DataW.trod_int Try.underlying3 h2'
  obtain ⟨m, e2, _, w2⟩ := DataW.trod_int Try.underlying3 h3'
  simp at e1 e2
  subst e1 e2
  exact ⟨V, A, c, l, V', A', c', l', i, m, rfl, a1, a2, a3, a4, b1, b2, b3, b4, bounds_i64 w1, bounds_i64 w2⟩
end Go.Proofs.Ytnnoflohekmnbaa
