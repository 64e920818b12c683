/-
  How the argument of SimTells is opened.
-/
import Derived.Test.YtkdocjcpehmljaaProg
import Derived.WalkKit
import Derived.WalkSpells
import Derived.WalkLawsBesides
import Derived.Lib.Hide
import Derived.BigQuiet
import Derived.Deep.QuietTactic
import Derived.Deep.RegionWith
import Derived.Deep.RegionHeld3
import Derived.Test.YtkdocjcpehmljaaQ15
set_option linter.unusedVariables false
namespace Go.Proofs.Ytkdocjcpehmljaa
open Go.RowKit
open Go.Shelf Go.ChangeShapes Go.WideShapes Go.ChangeAt Go.RowKit Go.Lib Go.Joins
theorem cells31 : Try.prog.cellsOf 31 = 10 := by kernel_rfl
set_option maxRecDepth 100000 in
theorem opened31 {H : Type} {enc : TypeId × Value → H} {W : World} {fuel : Nat} {cs : Array Value} {y : DataW H × List MemPlace} (hsz : cs.size = Try.prog.cellsOf 31) (h : DataW.trod enc Try.prog W 0 (fun _ => true) true fuel 31 (Value.agg cs).cells.toList = some y) :
    ∃ (I : Int) (AL AG AO AB AC AN : Option Addr) (cL cG cO cB cC cN : Nat) (L G : List Pr) (O D C : List Int) (N : List Nm), ∃ (AS AI : Option Addr) (ks ki : Nat) (st : List Bool) (ins : List (List Bool)) (l : Int), cs = #[.int .i64 I, .slice AL L.length cL, .slice AG G.length cG, .slice AO O.length cO, .slice AB D.length cB, .slice AC C.length cC, .slice AN N.length cN, .slice AS st.length ks, .slice AI ins.length ki, .int .i64 l] ∧ RA W W.heap.size AL AG AO AB AC AN L G O D C N ∧ (O.length ≤ maxLen ∧ D.length ≤ maxLen ∧ C.length ≤ maxLen ∧ N.length ≤ maxLen) ∧
      (RB W W.heap.size AS st ∧ st.length ≤ ks ∧ ks ≤ maxLen ∧ (AS = none → ks = 0)) ∧ (RR W W.heap.size AI ins ∧ ins.length ≤ ki ∧ ki ≤ maxLen ∧ (AI = none → ki = 0)) ∧ -9223372036854775808 ≤ l ∧ l ≤ 9223372036854775807 := by
  obtain ⟨l⟩ := cs
  match l, hsz.trans cells31 with
  | [v0, v1, v2, v3, v4, v5, v6, v7, v8, v9], _ =>
    obtain ⟨xs, k, hk, hxy, _, hxl, hf⟩ := DataW.trod_struct Try.underlying31 h
    match xs, hxl with
    | [y0, y1, y2, y3], _ =>
      have g0 := hf 0 _ rfl
      have g1 := hf 1 _ rfl
      have g2 := hf 2 _ rfl
      have g3 := hf 3 _ rfl
      simp [cells3, cells27, cells28, cells29, Value.cells] at g0 g1 g2 g3
      obtain ⟨I, AL, AG, AO, AB, AC, AN, cL, cG, cO, cB, cC, cN, L, G, O, D, C, N, e, hRA, ⟨nL, nG, nO, nD, nC, nN⟩, ⟨mL, mG, mO, mD, mC, mN⟩, zG, zO, zB, zC⟩ := opened_aig g0
      obtain ⟨AS, cS, S, rfl, r1, n1, m1, z1⟩ := opened28 g1
      obtain ⟨AI, cI, S2, rfl, r2, n2, m2, z2⟩ := opened29 g2
      obtain ⟨i, e3, _, w3⟩ := DataW.trod_int Try.underlying3 g3
      have hb := bounds_i64 w3
      simp at e e3
      obtain ⟨rfl, rfl, rfl, rfl, rfl, rfl, rfl⟩ := e
      subst e3
      exact ⟨I, AL, AG, AO, AB, AC, AN, cL, cG, cO, cB, cC, cN, L, G, O, D, C, N, AS, AI, cS, cI, S, S2, i, rfl, hRA, ⟨by omega, by omega, by omega, by omega⟩, ⟨r1, n1, m1, z1⟩, ⟨r2, n2, m2, z2⟩, hb⟩
end Go.Proofs.Ytkdocjcpehmljaa
