/-
  Slices of numbers, flags and clauses as they are read; the closures of package cnf.
-/
import Derived.Test.YtplcabecbofjpaaDoorProg
import Derived.WalkKit
import Derived.WalkSpells
import Derived.WalkLawsBesides
import Derived.Lib.Hide
import Derived.BigQuiet
import Derived.Deep.QuietTactic
import Derived.Deep.RegionWith
import Derived.Deep.RegionHeld3
import Derived.Test.YtplcabecbofjpaaDoorW3
set_option linter.unusedVariables false
namespace Go.Proofs.YtplcabecbofjpaaDoor
open Go.RowKit
/-- The slice at A holds the numbers l, in a block below B. -/
def RI (w : World) (B : Nat) (A : Option Addr) (l : List Int) : Prop :=
  ∀ i, i < l.length → ∃ ad, A = some ad ∧ ad.block < B ∧ w.cell? (ad.add i) = some (.int .i64 (l.getD i 0))
theorem RI.below {w w' : World} {B : Nat} {A : Option Addr} {l : List Int} (h : RI w B A l) (hb : Below B w w') : RI w' B A l := by
  intro i hi
  obtain ⟨ad, e, hlt, hc⟩ := h i hi
  exact ⟨ad, e, hlt, (hb.cell (by rw [block_add]; exact hlt)).trans hc⟩
theorem RI.mono {w : World} {B B' : Nat} {A : Option Addr} {l : List Int} (h : RI w B A l) (hB : B ≤ B') : RI w B' A l := by
  intro i hi
  obtain ⟨ad, e, hlt, hc⟩ := h i hi
  exact ⟨ad, e, by omega, hc⟩
theorem RI.nx {w w' : World} {A : Option Addr} {l : List Int} (h : RI w w.heap.size A l) (hb : Below w.heap.size w w') : RI w' w'.heap.size A l := (h.below hb).mono hb.size
theorem RI.nil (w : World) (B : Nat) (A : Option Addr) : RI w B A [] := fun i hi => absurd hi (by simp)
/-- The slice at A holds the flags l, in a block below B. -/
def RB (w : World) (B : Nat) (A : Option Addr) (l : List Bool) : Prop :=
  ∀ i, i < l.length → ∃ ad, A = some ad ∧ ad.block < B ∧ w.cell? (ad.add i) = some (.bool (l.getD i false))
theorem RB.below {w w' : World} {B : Nat} {A : Option Addr} {l : List Bool} (h : RB w B A l) (hb : Below B w w') : RB w' B A l := by
  intro i hi
  obtain ⟨ad, e, hlt, hc⟩ := h i hi
  exact ⟨ad, e, hlt, (hb.cell (by rw [block_add]; exact hlt)).trans hc⟩
theorem RB.mono {w : World} {B B' : Nat} {A : Option Addr} {l : List Bool} (h : RB w B A l) (hB : B ≤ B') : RB w B' A l := by
  intro i hi
  obtain ⟨ad, e, hlt, hc⟩ := h i hi
  exact ⟨ad, e, by omega, hc⟩
theorem RB.nx {w w' : World} {A : Option Addr} {l : List Bool} (h : RB w w.heap.size A l) (hb : Below w.heap.size w w') : RB w' w'.heap.size A l := (h.below hb).mono hb.size
/-- The slice at A holds the clauses L, all in blocks below B. -/
def RC (w : World) (B : Nat) (A : Option Addr) (L : List (List Int)) : Prop :=
  ∀ i, i < L.length → ∃ ad A' c', A = some ad ∧ ad.block < B ∧ w.cell? (ad.add i) = some (.slice A' (L.getD i []).length c') ∧ RI w B A' (L.getD i []) ∧ (L.getD i []).length ≤ maxLen
theorem RC.below {w w' : World} {B : Nat} {A : Option Addr} {L : List (List Int)} (h : RC w B A L) (hb : Below B w w') : RC w' B A L := by
  intro i hi
  obtain ⟨ad, A', c', e, hlt, hc, hr, hm⟩ := h i hi
  exact ⟨ad, A', c', e, hlt, (hb.cell (by rw [block_add]; exact hlt)).trans hc, hr.below hb, hm⟩
theorem RC.mono {w : World} {B B' : Nat} {A : Option Addr} {L : List (List Int)} (h : RC w B A L) (hB : B ≤ B') : RC w B' A L := by
  intro i hi
  obtain ⟨ad, A', c', e, hlt, hc, hr, hm⟩ := h i hi
  exact ⟨ad, A', c', e, by omega, hc, hr.mono hB, hm⟩
theorem RC.nx {w w' : World} {A : Option Addr} {L : List (List Int)} (h : RC w w.heap.size A L) (hb : Below w.heap.size w w') : RC w' w'.heap.size A L := (h.below hb).mono hb.size
theorem bnx {a w w1 : World} (h : Below a.heap.size a w) (hb : Below w.heap.size w w1) : Below a.heap.size a w1 := h.trans (hb.mono h.size)
theorem bal {a w : World} (h : Below a.heap.size a w) (o : Obj) : Below a.heap.size a (w.alloc o) := h.alloc h.size o
theorem dropI (l : List Int) (k : Nat) (h : k < l.length) : l.drop k = l.getD k 0 :: l.drop (k + 1) := by
  rw [List.drop_eq_getElem_cons h]; simp [List.getD, h]
theorem dropB (l : List Bool) (k : Nat) (h : k < l.length) : l.drop k = l.getD k false :: l.drop (k + 1) := by
  rw [List.drop_eq_getElem_cons h]; simp [List.getD, h]
theorem dropC (l : List (List Int)) (k : Nat) (h : k < l.length) : l.drop k = l.getD k [] :: l.drop (k + 1) := by
  rw [List.drop_eq_getElem_cons h]; simp [List.getD, h]
/-- A call that tells a value, and leaves all as it was. -/
def RetS (w0 : World) (v : Value) (e : Ending) (w' : World) : Prop := e = .returned v ∧ w0 = w'
/-- A call that tells a value, and changes nothing that was there. -/
def RetV (w0 : World) (v : Value) (e : Ending) (w' : World) : Prop := e = .returned v ∧ Below w0.heap.size w0 w'
/-- A call that tells whether there is a place. -/
def RetIdx (w0 : World) (b : Bool) (e : Ending) (w' : World) : Prop := ∃ r : Int, decide (0 ≤ r) = b ∧ e = .returned (.int .i64 r) ∧ w0 = w'
/-- Is a literal true? -/
def litT (m : List Bool) (x : Int) : Bool :=
  if 0 < x then decide (x ≤ m.length) && m.getD (x - 1).toNat false else decide (x < 0) && decide (-(m.length : Int) ≤ x) && !m.getD (-x - 1).toNat false
def clT (c : List Int) (m : List Bool) : Bool := c.any (litT m)
def hoT (L : List (List Int)) (m : List Bool) : Bool := L.all (fun c => clT c m)
/-- Is it no literal of n variables? -/
def badL (n x : Int) : Bool := x == 0 || decide (x < -n) || decide (n < x)
set_option maxHeartbeats 400000 in
theorem bad_any (g : Nat) (n x : Int) (w : World) (h : w.cell? ⟨g, 0, none⟩ = some (.int .i64 n)) (h0 : 0 ≤ n) (h1 : n ≤ 100000) :
    Calls Tryd.prog 59 #[.int .i64 x, .pointer (some ⟨g, 0, none⟩)] w (RetS w (.bool (badL n x))) := by
  unfold badL
  have c : (x == 0) = true ∨ ((x == 0) = false ∧ decide (x < -n) = true) ∨ ((x == 0) = false ∧ decide (x < -n) = false ∧ decide (n < x) = true) ∨ ((x == 0) = false ∧ decide (x < -n) = false ∧ decide (n < x) = false) := by
    cases (x == 0) <;> cases decide (x < -n) <;> cases decide (n < x) <;> simp
  rcases c with c1 | ⟨c1, c2⟩ | ⟨c1, c2, c3⟩ | ⟨c1, c2, c3⟩
  all_goals
    simp only [*, Bool.true_or, Bool.or_true, Bool.false_or]
    go_enter Tryd.func59, Tryd.ntmps59
    go_wp2
    go_ret
    exact ⟨rfl, rfl⟩
end Go.Proofs.YtplcabecbofjpaaDoor
