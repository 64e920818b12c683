/-
  VecTells: how its argument is opened.
-/
import Derived.Test.YtnnoflohekmnbaaProg
import Derived.WalkKit
import Derived.WalkSpells
import Derived.WalkLawsBesides
import Derived.LoopN
import Derived.IntWalk
import Derived.Lib.Hide
import Derived.Laws.BitsAllLaws
import Derived.Laws.Externs
import Derived.BigQuiet
import Derived.BigRegion
import Derived.Deep.QuietTactic
import Derived.Deep.RegionWith
import Derived.Deep.RegionHeld3
import Derived.StillTailTactics
import Derived.RegionTactic
import Derived.ChangeAlike
import Derived.Test.YtnnoflohekmnbaaX1
set_option linter.unusedVariables false
namespace Go.Proofs.Ytnnoflohekmnbaa
open Go.RowKit
open Go.Shelf Go.ChangeShapes Go.WideShapes Go.ChangeAt Go.RowKit Go.Lib Go.Joins
theorem cells26 : Try.prog.cellsOf 26 = 6 := by kernel_rfl
theorem cells24 : Try.prog.cellsOf 24 = 2 := by kernel_rfl
theorem cells3 : Try.prog.cellsOf 3 = 1 := by kernel_rfl
theorem cells9 : Try.prog.cellsOf 9 = 1 := by kernel_rfl
set_option maxRecDepth 100000 in
/-- VecTells' argument. -/
theorem opened26 {H : Type} {enc : TypeId × Value → H} {W : World} {r : Reach} {b0 : Nat} {v : Value} {d : DataW H} {p : List MemPlace} (hv : Value.okWide Try.prog W r b0 26 v) (h : DataW.Trod enc Try.prog W 0 (fun _ => true) true 26 v d p) :
    ∃ (Wa : Int) (Aa : Option Addr) (ca : Nat) (la : List Nat) (Wb : Int) (Ab : Option Addr) (cb : Nat) (lb : List Nat) (i : Int) (S : ByteArray), v = .agg #[.int .i64 Wa, .slice Aa la.length ca, .int .i64 Wb, .slice Ab lb.length cb, .int .i64 i, .string S] ∧
      (R64 W W.heap.size Aa la ∧ (∀ x ∈ la, x < 18446744073709551616) ∧ la.length ≤ ca ∧ ca ≤ maxLen) ∧ (R64 W W.heap.size Ab lb ∧ (∀ x ∈ lb, x < 18446744073709551616) ∧ lb.length ≤ cb ∧ cb ≤ maxLen) := by
  obtain ⟨cs, rfl, hsz⟩ := okWide_struct Try.underlying26 hv
  obtain ⟨fuel, hf⟩ := h
  obtain ⟨l⟩ := cs
  match l, hsz.trans cells26 with
  | [v0, v1, v2, v3, v4, v5], _ =>
    obtain ⟨xs, k, hk, hxy, _, hxl, hfs⟩ := DataW.trod_struct Try.underlying26 hf
    match xs, hxl with
    | [y0, y1, y2, y3], _ =>
      have g0 := hfs 0 _ rfl
      have g1 := hfs 1 _ rfl
      have g2 := hfs 2 _ rfl
      have g3 := hfs 3 _ rfl
      simp [cells24, cells3, cells9, Value.cells] at g0 g1 g2 g3
      obtain ⟨V, A, c, l, rfl, rfl, a1, a2, a3, a4⟩ := opened_two g0
      obtain ⟨V', A', c', l', rfl, rfl, b1, b2, b3, b4⟩ := opened_two g1
      obtain ⟨i, e2, _, _⟩ := DataW.trod_int Try.underlying3 g2
      obtain ⟨S, e3, _, _⟩ := DataW.trod_string Try.underlying9 g3
      simp at e2 e3
      subst e2 e3
      exact ⟨V, A, c, l, V', A', c', l', i, S, rfl, ⟨a1, a2, a3, a4⟩, ⟨b1, b2, b3, b4⟩⟩
end Go.Proofs.Ytnnoflohekmnbaa
