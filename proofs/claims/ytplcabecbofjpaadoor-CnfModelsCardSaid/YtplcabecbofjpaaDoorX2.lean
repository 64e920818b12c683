/-
  A struct that came in.
-/
import Derived.Test.YtplcabecbofjpaaDoorX1
import Derived.ProofKit
import Derived.OpenShut
import Derived.PinnedBridge
import Derived.Lib.LaidIn
import Derived.Lib.LaidTab
import Derived.Lib.LaidU8
import Derived.Lib.SmallJoins
import Derived.Deep.Slices
import Derived.Deep.DeepHandedRow
import Derived.Deep.DeepWitnessRowRef
import Derived.SizedLaws
set_option linter.unusedVariables false
namespace Go.Proofs.YtplcabecbofjpaaDoor
open Go.Shelf Go.ChangeShapes Go.WideShapes Go.ChangeAt Go.RowKit Go.Lib Go.Joins
set_option maxRecDepth 100000 in
theorem opened42 {H : Type} {enc : TypeId × Value → H} {W : World} {r : Reach} {b0 : Nat} {v : Value} {d : DataW H} {p : List MemPlace} (hv : Value.okWide Tryd.prog W r b0 42 v) (h : DataW.Trod enc Tryd.prog W 0 (fun _ => true) true 42 v d p) :
    ∃ (N x : Int) (A Am Ab : Option Addr) (c cm cb : Nat) (L : List (List Int)) (m : List Bool) (l : List UInt8), v = .agg #[.slice Am m.length cm, .slice Ab l.length cb, .int .i64 x, .int .i64 N, .slice A L.length c] ∧ RC W W.heap.size A L ∧ RB W W.heap.size Am m ∧ Rd W W.heap.size Ab l ∧ L.length ≤ maxLen ∧ m.length ≤ maxLen ∧ l.length ≤ cb ∧ cb ≤ maxLen := by
  obtain ⟨cs, rfl, hsz⟩ := okWide_struct Tryd.underlying42 hv
  obtain ⟨l⟩ := cs
  match l, hsz.trans (show Tryd.prog.cellsOf 42 = 5 by kernel_rfl) with
  | [c0, c1, c2, c3, c4], _ =>
    obtain ⟨fuel, hf⟩ := h
    obtain ⟨y0, y1, y2, y3, n, hx, _, h0, h1, h2, h3⟩ := trod_struct4 Tryd.underlying42 hf
    simp only [cells24, cells40, cells25, cells3, Value.cells] at h0 h1 h2 h3
    have h0' : DataW.trod enc Tryd.prog W 0 (fun _ => true) true n 40 [c0] = some y0 := h0
    have h1' : DataW.trod enc Tryd.prog W 0 (fun _ => true) true n 25 [c1] = some y1 := h1
    have h2' : DataW.trod enc Tryd.prog W 0 (fun _ => true) true n 3 [c2] = some y2 := h2
    have h3' : DataW.trod enc Tryd.prog W 0 (fun _ => true) true n 24 [c3, c4] = some y3 := h3
    obtain ⟨N, A, c, L, rfl, rfl, r1, n1, m1, _⟩ := inner24 h3'
    obtain ⟨Am, cm, m, rfl, r3, n3, m3, _⟩ := opened40 h0'
    obtain ⟨Ab, cb, k, rfl, r4, n4, m4, _⟩ := opened25 h1'
    obtain ⟨x, e1, _, wk⟩ := DataW.trod_int Tryd.underlying3 h2'
    simp at e1
    subst e1
    exact ⟨N, x, A, Am, Ab, c, cm, cb, L, m, k, rfl, r1, r3, r4, by omega, by omega, n4, m4⟩
end Go.Proofs.YtplcabecbofjpaaDoor
