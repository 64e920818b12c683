/-
  Structs that came in.
-/
import Derived.Test.YtplcabecbofjpaaDoorX0
import Derived.ChangeSame
import Derived.ProofKit
import Derived.OpenShut
import Derived.PinnedBridge
import Derived.Lib.LaidIn
import Derived.Lib.LaidTab
import Derived.Lib.LaidU8
import Derived.Lib.SmallJoins
import Derived.Deep.Slices
import Derived.Deep.DeepHandedRow
import Derived.Deep.DeepWitnessRowRef
import Derived.SizedLaws
set_option linter.unusedVariables false
namespace Go.Proofs.YtplcabecbofjpaaDoor
open Go.Shelf Go.ChangeShapes Go.WideShapes Go.ChangeAt Go.RowKit Go.Lib Go.Joins
theorem cells24 : Tryd.prog.cellsOf 24 = 2 := by kernel_rfl
theorem cells40 : Tryd.prog.cellsOf 40 = 1 := by kernel_rfl
theorem cells25 : Tryd.prog.cellsOf 25 = 1 := by kernel_rfl
set_option maxRecDepth 100000 in
/-- A formula within a struct. -/
theorem inner24 {H : Type} {enc : TypeId × Value → H} {W : World} {fuel : Nat} {v0 v1 : Value} {y : DataW H × List MemPlace} (h : DataW.trod enc Tryd.prog W 0 (fun _ => true) true fuel 24 [v0, v1] = some y) :
    ∃ (N : Int) (A : Option Addr) (c : Nat) (L : List (List Int)), v0 = .int .i64 N ∧ v1 = .slice A L.length c ∧ RC W W.heap.size A L ∧ L.length ≤ c ∧ c ≤ maxLen ∧ (A = none → c = 0) := by
  obtain ⟨y0, y1, n, _, _, h0, h1⟩ := trod_struct2 Tryd.underlying24 h
  have h0' : DataW.trod enc Tryd.prog W 0 (fun _ => true) true n 3 [v0] = some y0 := h0
  have h1' : DataW.trod enc Tryd.prog W 0 (fun _ => true) true n 22 [v1] = some y1 := h1
  obtain ⟨k, e1, _, wk⟩ := DataW.trod_int Tryd.underlying3 h0'
  obtain ⟨A, c, l, rfl, hrd, hn, hc, hA⟩ := opened22 h1'
  simp at e1
  exact ⟨k, A, c, l, e1, rfl, hrd, hn, hc, hA⟩
set_option maxRecDepth 100000 in
theorem opened58 {H : Type} {enc : TypeId × Value → H} {W : World} {r : Reach} {b0 : Nat} {v : Value} {d : DataW H} {p : List MemPlace} (hv : Value.okWide Tryd.prog W r b0 58 v) (h : DataW.Trod enc Tryd.prog W 0 (fun _ => true) true 58 v d p) :
    ∃ (N N' : Int) (A A' Am An : Option Addr) (c c' cm cn : Nat) (L L' : List (List Int)) (m n : List Bool), v = .agg #[.int .i64 N, .slice A L.length c, .int .i64 N', .slice A' L'.length c', .slice Am m.length cm, .slice An n.length cn] ∧ RC W W.heap.size A L ∧ RC W W.heap.size A' L' ∧ RB W W.heap.size Am m ∧ RB W W.heap.size An n ∧ L.length ≤ maxLen ∧ L'.length ≤ maxLen ∧ m.length ≤ maxLen ∧ n.length ≤ maxLen := by
  obtain ⟨cs, rfl, hsz⟩ := okWide_struct Tryd.underlying58 hv
  obtain ⟨l⟩ := cs
  match l, hsz.trans (show Tryd.prog.cellsOf 58 = 6 by kernel_rfl) with
  | [c0, c1, c2, c3, c4, c5], _ =>
    obtain ⟨fuel, hf⟩ := h
    obtain ⟨y0, y1, y2, y3, n, hx, _, h0, h1, h2, h3⟩ := trod_struct4 Tryd.underlying58 hf
    simp only [cells24, cells40, Value.cells] at h0 h1 h2 h3
    have h0' : DataW.trod enc Tryd.prog W 0 (fun _ => true) true n 24 [c0, c1] = some y0 := h0
    have h1' : DataW.trod enc Tryd.prog W 0 (fun _ => true) true n 24 [c2, c3] = some y1 := h1
    have h2' : DataW.trod enc Tryd.prog W 0 (fun _ => true) true n 40 [c4] = some y2 := h2
    have h3' : DataW.trod enc Tryd.prog W 0 (fun _ => true) true n 40 [c5] = some y3 := h3
    obtain ⟨N, A, c, L, rfl, rfl, r1, n1, m1, _⟩ := inner24 h0'
    obtain ⟨N', A', c', L', rfl, rfl, r2, n2, m2, _⟩ := inner24 h1'
    obtain ⟨Am, cm, m, rfl, r3, n3, m3, _⟩ := opened40 h2'
    obtain ⟨An, cn, k, rfl, r4, n4, m4, _⟩ := opened40 h3'
    exact ⟨N, N', A, A', Am, An, c, c', cm, cn, L, L', m, k, rfl, r1, r2, r3, r4, by omega, by omega, by omega, by omega⟩
set_option maxRecDepth 100000 in
theorem opened55 {H : Type} {enc : TypeId × Value → H} {W : World} {r : Reach} {b0 : Nat} {v : Value} {d : DataW H} {p : List MemPlace} (hv : Value.okWide Tryd.prog W r b0 55 v) (h : DataW.Trod enc Tryd.prog W 0 (fun _ => true) true 55 v d p) :
    ∃ (N x : Int) (A Am Ac : Option Addr) (c cm cc : Nat) (L : List (List Int)) (m : List Bool) (k : List Int), v = .agg #[.int .i64 N, .slice A L.length c, .slice Am m.length cm, .slice Ac k.length cc, .int .i64 x] ∧ RC W W.heap.size A L ∧ RB W W.heap.size Am m ∧ RI W W.heap.size Ac k ∧ L.length ≤ c ∧ c ≤ maxLen ∧ m.length ≤ maxLen ∧ k.length ≤ cc ∧ cc ≤ maxLen ∧ (A = none → c = 0) ∧ (Ac = none → cc = 0) := by
  obtain ⟨cs, rfl, hsz⟩ := okWide_struct Tryd.underlying55 hv
  obtain ⟨l⟩ := cs
  match l, hsz.trans (show Tryd.prog.cellsOf 55 = 5 by kernel_rfl) with
  | [c0, c1, c2, c3, c4], _ =>
    obtain ⟨fuel, hf⟩ := h
    obtain ⟨y0, y1, y2, y3, n, hx, _, h0, h1, h2, h3⟩ := trod_struct4 Tryd.underlying55 hf
    simp only [cells24, cells40, cells50, cells3, Value.cells] at h0 h1 h2 h3
    have h0' : DataW.trod enc Tryd.prog W 0 (fun _ => true) true n 24 [c0, c1] = some y0 := h0
    have h1' : DataW.trod enc Tryd.prog W 0 (fun _ => true) true n 40 [c2] = some y1 := h1
    have h2' : DataW.trod enc Tryd.prog W 0 (fun _ => true) true n 50 [c3] = some y2 := h2
    have h3' : DataW.trod enc Tryd.prog W 0 (fun _ => true) true n 3 [c4] = some y3 := h3
    obtain ⟨N, A, c, L, rfl, rfl, r1, n1, m1, a1⟩ := inner24 h0'
    obtain ⟨Am, cm, m, rfl, r3, n3, m3, _⟩ := opened40 h1'
    obtain ⟨Ac, cc, k, rfl, r4, n4, m4, a4⟩ := opened50 h2'
    obtain ⟨x, e1, _, wk⟩ := DataW.trod_int Tryd.underlying3 h3'
    simp at e1
    subst e1
    exact ⟨N, x, A, Am, Ac, c, cm, cc, L, m, k, rfl, r1, r3, r4, n1, m1, by omega, n4, m4, a1, a4⟩
end Go.Proofs.YtplcabecbofjpaaDoor
