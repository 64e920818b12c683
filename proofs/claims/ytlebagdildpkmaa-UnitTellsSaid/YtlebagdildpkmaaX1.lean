/-
  Arguments that are structs, opened. Nothing is assumed.
-/
import Derived.Test.YtlebagdildpkmaaProg
import Derived.WalkKit
import Derived.WalkSpells
import Derived.WalkLawsBesides
import Derived.Lib.Hide
import Derived.BigQuiet
import Derived.Deep.QuietTactic
import Derived.Deep.RegionWith
import Derived.Deep.RegionHeld3
import Derived.Test.YtlebagdildpkmaaX0
set_option linter.unusedVariables false
namespace Go.Proofs.Ytlebagdildpkmaa
open Go.RowKit
open Go.Shelf Go.ChangeShapes Go.WideShapes Go.ChangeAt Go.RowKit Go.Lib Go.Joins
set_option maxRecDepth 100000 in
theorem opened32 {H : Type} {enc : TypeId × Value → H} {W : World} {r : Reach} {b0 : Nat} {v : Value} {d : DataW H} {p : List MemPlace} (hv : Value.okWide Try.prog W r b0 32 v) (h : DataW.Trod enc Try.prog W 0 (fun _ => true) true 32 v d p) :
    ∃ (N : Int) (A B : Option Addr) (k k' : Nat) (L : List (List Int)) (c : List Int) (M : Option Addr) (km : Nat) (m : List Bool), v = .agg #[.int .i64 N, .slice A L.length k, .slice B c.length k', .slice M m.length km] ∧ RCk W W.heap.size A L ∧ RI W W.heap.size B c ∧ L.length ≤ maxLen ∧ c.length ≤ maxLen ∧ (A = none → k = 0) ∧ (B = none → k' = 0) ∧ RB W W.heap.size M m ∧ m.length ≤ maxLen := by
  obtain ⟨v0, v1, v2, v3, y0, y1, y2, y3, n, rfl, hd, hp, h0, h1, h2, h3⟩ := open_agg4 Try.underlying32 (by kernel_rfl) (by kernel_rfl) hv h
  obtain ⟨N, e1, _, wk⟩ := DataW.trod_int Try.underlying3 h0
  simp at e1
  subst e1
  obtain ⟨A, k, L, rfl, r1, n1, m1, z1⟩ := opened22 h1
  obtain ⟨B, k', c, rfl, r2, n2, m2, z2⟩ := opened23 h2
  obtain ⟨M, km, m, rfl, r3, n3, m3, _⟩ := opened30 h3
  exact ⟨N, A, B, k, k', L, c, M, km, m, rfl, r1, r2, by omega, by omega, z1, z2, r3, by omega⟩
set_option maxRecDepth 100000 in
theorem opened39 {H : Type} {enc : TypeId × Value → H} {W : World} {r : Reach} {b0 : Nat} {v : Value} {d : DataW H} {p : List MemPlace} (hv : Value.okWide Try.prog W r b0 39 v) (h : DataW.Trod enc Try.prog W 0 (fun _ => true) true 39 v d p) :
    ∃ (N : Int) (A B : Option Addr) (k k' : Nat) (L : List (List Int)) (c : List Int) (M : Option Addr) (km : Nat) (m : List Int), v = .agg #[.int .i64 N, .slice A L.length k, .slice B c.length k', .slice M m.length km] ∧ RCk W W.heap.size A L ∧ RI W W.heap.size B c ∧ L.length ≤ maxLen ∧ c.length ≤ maxLen ∧ (A = none → k = 0) ∧ (B = none → k' = 0) ∧ RI W W.heap.size M m ∧ m.length ≤ maxLen ∧ (M = none → km = 0) ∧ m.length ≤ km ∧ km ≤ maxLen := by
  obtain ⟨v0, v1, v2, v3, y0, y1, y2, y3, n, rfl, hd, hp, h0, h1, h2, h3⟩ := open_agg4 Try.underlying39 (by kernel_rfl) (by kernel_rfl) hv h
  obtain ⟨N, e1, _, wk⟩ := DataW.trod_int Try.underlying3 h0
  simp at e1
  subst e1
  obtain ⟨A, k, L, rfl, r1, n1, m1, z1⟩ := opened22 h1
  obtain ⟨B, k', c, rfl, r2, n2, m2, z2⟩ := opened23 h2
  obtain ⟨M, km, m, rfl, r3, n3, m3, z3⟩ := opened23 h3
  exact ⟨N, A, B, k, k', L, c, M, km, m, rfl, r1, r2, by omega, by omega, z1, z2, r3, by omega, z3, n3, m3⟩
set_option maxRecDepth 100000 in
theorem opened45 {H : Type} {enc : TypeId × Value → H} {W : World} {r : Reach} {b0 : Nat} {v : Value} {d : DataW H} {p : List MemPlace} (hv : Value.okWide Try.prog W r b0 45 v) (h : DataW.Trod enc Try.prog W 0 (fun _ => true) true 45 v d p) :
    ∃ (N : Int) (A B : Option Addr) (k k' : Nat) (L : List (List Int)) (c : List Int) (M : Option Addr) (km : Nat) (m : List Int), v = .agg #[.int .i64 N, .slice A L.length k, .slice B c.length k', .slice M m.length km] ∧ RCk W W.heap.size A L ∧ RI W W.heap.size B c ∧ L.length ≤ maxLen ∧ c.length ≤ maxLen ∧ (A = none → k = 0) ∧ (B = none → k' = 0) ∧ RI W W.heap.size M m ∧ m.length ≤ maxLen ∧ (M = none → km = 0) ∧ m.length ≤ km ∧ km ≤ maxLen := by
  obtain ⟨v0, v1, v2, v3, y0, y1, y2, y3, n, rfl, hd, hp, h0, h1, h2, h3⟩ := open_agg4 Try.underlying45 (by kernel_rfl) (by kernel_rfl) hv h
  obtain ⟨N, e1, _, wk⟩ := DataW.trod_int Try.underlying3 h0
  simp at e1
  subst e1
  obtain ⟨A, k, L, rfl, r1, n1, m1, z1⟩ := opened22 h1
  obtain ⟨B, k', c, rfl, r2, n2, m2, z2⟩ := opened23 h2
  obtain ⟨M, km, m, rfl, r3, n3, m3, z3⟩ := opened23 h3
  exact ⟨N, A, B, k, k', L, c, M, km, m, rfl, r1, r2, by omega, by omega, z1, z2, r3, by omega, z3, n3, m3⟩
set_option maxRecDepth 100000 in
theorem opened43 {H : Type} {enc : TypeId × Value → H} {W : World} {r : Reach} {b0 : Nat} {v : Value} {d : DataW H} {p : List MemPlace} (hv : Value.okWide Try.prog W r b0 43 v) (h : DataW.Trod enc Try.prog W 0 (fun _ => true) true 43 v d p) :
    ∃ (N : Int) (A B : Option Addr) (k k' : Nat) (L : List (List Int)) (c : List Int) (V : Int), v = .agg #[.int .i64 N, .slice A L.length k, .slice B c.length k', .int .i64 V] ∧ RCk W W.heap.size A L ∧ RI W W.heap.size B c ∧ L.length ≤ maxLen ∧ c.length ≤ maxLen ∧ (A = none → k = 0) ∧ (B = none → k' = 0) ∧ (-9223372036854775808 ≤ V ∧ V ≤ 9223372036854775807) := by
  obtain ⟨v0, v1, v2, v3, y0, y1, y2, y3, n, rfl, hd, hp, h0, h1, h2, h3⟩ := open_agg4 Try.underlying43 (by kernel_rfl) (by kernel_rfl) hv h
  obtain ⟨N, e1, _, wk⟩ := DataW.trod_int Try.underlying3 h0
  simp at e1
  subst e1
  obtain ⟨A, k, L, rfl, r1, n1, m1, z1⟩ := opened22 h1
  obtain ⟨B, k', c, rfl, r2, n2, m2, z2⟩ := opened23 h2
  obtain ⟨V, e3, _, wv⟩ := DataW.trod_int Try.underlying3 h3
  simp at e3
  subst e3
  exact ⟨N, A, B, k, k', L, c, V, rfl, r1, r2, by omega, by omega, z1, z2, by simpa [Lit.wf, i64_min, i64_max] using wv⟩
end Go.Proofs.Ytlebagdildpkmaa
