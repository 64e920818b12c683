/-
  Slices of numbers, flags and clauses as they are read; rows of a call's own.
-/
import Derived.Test.YtlebagdildpkmaaProg
import Derived.WalkKit
import Derived.WalkSpells
import Derived.WalkLawsBesides
import Derived.Lib.Hide
import Derived.BigQuiet
import Derived.Deep.QuietTactic
import Derived.Deep.RegionWith
import Derived.Deep.RegionHeld3
import Derived.Laws.AppendOwnNone
import Derived.Maps.AppendAt
set_option linter.unusedVariables false
namespace Go.Proofs.Ytlebagdildpkmaa
open Go.RowKit
theorem block_add (a : Addr) (n : Nat) : (a.add n).block = a.block := by unfold Addr.add; split <;> rfl
theorem add_add_ (a : Addr) (i j : Nat) : (a.add i).add j = a.add (i + j) := by
  unfold Addr.add
  by_cases hi : i = 0 <;> by_cases hj : j = 0 <;> simp [hi, hj, Nat.add_assoc]
theorem drw {w : World} (n : Nat) : Below w.heap.size w (w.drewN n) := below_drewN (Below.refl _ _) n
theorem box_cells (w : World) (x y : Value) (t : TypeId) : (w.alloc (.cells #[x, y] t)).cell? ⟨w.heap.size, 0, none⟩ = some x ∧ (w.alloc (.cells #[x, y] t)).cell? ⟨w.heap.size, 1, none⟩ = some y := by constructor <;> go_simp
/-- The slice at A holds the numbers l, in a block below B. -/
def RI (w : World) (B : Nat) (A : Option Addr) (l : List Int) : Prop :=
  ∀ i, i < l.length → ∃ ad, A = some ad ∧ ad.block < B ∧ w.cell? (ad.add i) = some (.int .i64 (l.getD i 0))
theorem RI.below {w w' : World} {B : Nat} {A : Option Addr} {l : List Int} (h : RI w B A l) (hb : Below B w w') : RI w' B A l := by
  intro i hi
  obtain ⟨ad, e, hlt, hc⟩ := h i hi
  exact ⟨ad, e, hlt, (hb.cell (by rw [block_add]; exact hlt)).trans hc⟩
theorem RI.mono {w : World} {B B' : Nat} {A : Option Addr} {l : List Int} (h : RI w B A l) (hB : B ≤ B') : RI w B' A l := by
  intro i hi
  obtain ⟨ad, e, hlt, hc⟩ := h i hi
  exact ⟨ad, e, by omega, hc⟩
theorem RI.nx {w w' : World} {A : Option Addr} {l : List Int} (h : RI w w.heap.size A l) (hb : Below w.heap.size w w') : RI w' w'.heap.size A l := (h.below hb).mono hb.size
theorem RI.nil (w : World) (B : Nat) (A : Option Addr) : RI w B A [] := fun i hi => absurd hi (by simp)
/-- The slice at A holds the flags l, in a block below B. -/
def RB (w : World) (B : Nat) (A : Option Addr) (l : List Bool) : Prop :=
  ∀ i, i < l.length → ∃ ad, A = some ad ∧ ad.block < B ∧ w.cell? (ad.add i) = some (.bool (l.getD i false))
theorem RB.below {w w' : World} {B : Nat} {A : Option Addr} {l : List Bool} (h : RB w B A l) (hb : Below B w w') : RB w' B A l := by
  intro i hi
  obtain ⟨ad, e, hlt, hc⟩ := h i hi
  exact ⟨ad, e, hlt, (hb.cell (by rw [block_add]; exact hlt)).trans hc⟩
theorem RB.mono {w : World} {B B' : Nat} {A : Option Addr} {l : List Bool} (h : RB w B A l) (hB : B ≤ B') : RB w B' A l := by
  intro i hi
  obtain ⟨ad, e, hlt, hc⟩ := h i hi
  exact ⟨ad, e, by omega, hc⟩
theorem RB.nx {w w' : World} {A : Option Addr} {l : List Bool} (h : RB w w.heap.size A l) (hb : Below w.heap.size w w') : RB w' w'.heap.size A l := (h.below hb).mono hb.size
/-- The slice at A holds the clauses L, all in blocks below B. -/
def RC (w : World) (B : Nat) (A : Option Addr) (L : List (List Int)) : Prop :=
  ∀ i, i < L.length → ∃ ad A' c', A = some ad ∧ ad.block < B ∧ w.cell? (ad.add i) = some (.slice A' (L.getD i []).length c') ∧ RI w B A' (L.getD i []) ∧ (L.getD i []).length ≤ maxLen
theorem RC.below {w w' : World} {B : Nat} {A : Option Addr} {L : List (List Int)} (h : RC w B A L) (hb : Below B w w') : RC w' B A L := by
  intro i hi
  obtain ⟨ad, A', c', e, hlt, hc, hr, hm⟩ := h i hi
  exact ⟨ad, A', c', e, hlt, (hb.cell (by rw [block_add]; exact hlt)).trans hc, hr.below hb, hm⟩
theorem RC.mono {w : World} {B B' : Nat} {A : Option Addr} {L : List (List Int)} (h : RC w B A L) (hB : B ≤ B') : RC w B' A L := by
  intro i hi
  obtain ⟨ad, A', c', e, hlt, hc, hr, hm⟩ := h i hi
  exact ⟨ad, A', c', e, by omega, hc, hr.mono hB, hm⟩
theorem RC.nx {w w' : World} {A : Option Addr} {L : List (List Int)} (h : RC w w.heap.size A L) (hb : Below w.heap.size w w') : RC w' w'.heap.size A L := (h.below hb).mono hb.size
theorem bnx {a w w1 : World} (h : Below a.heap.size a w) (hb : Below w.heap.size w w1) : Below a.heap.size a w1 := h.trans (hb.mono h.size)
theorem bal {a w : World} (h : Below a.heap.size a w) (o : Obj) : Below a.heap.size a (w.alloc o) := h.alloc h.size o
theorem dropI (l : List Int) (k : Nat) (h : k < l.length) : l.drop k = l.getD k 0 :: l.drop (k + 1) := by
  rw [List.drop_eq_getElem_cons h]; simp [List.getD, h]
theorem dropB (l : List Bool) (k : Nat) (h : k < l.length) : l.drop k = l.getD k false :: l.drop (k + 1) := by
  rw [List.drop_eq_getElem_cons h]; simp [List.getD, h]
theorem dropC (l : List (List Int)) (k : Nat) (h : k < l.length) : l.drop k = l.getD k [] :: l.drop (k + 1) := by
  rw [List.drop_eq_getElem_cons h]; simp [List.getD, h]
/-- A call that tells a value, and leaves all as it was. -/
def RetS (w0 : World) (v : Value) (e : Ending) (w' : World) : Prop := e = .returned v ∧ w0 = w'
/-- A call that tells a value, and changes nothing that was there. -/
def RetV (w0 : World) (v : Value) (e : Ending) (w' : World) : Prop := e = .returned v ∧ Below w0.heap.size w0 w'
/-- A call that tells whether there is a place. -/
def RetIdx (w0 : World) (b : Bool) (e : Ending) (w' : World) : Prop := ∃ r : Int, decide (0 ≤ r) = b ∧ e = .returned (.int .i64 r) ∧ w0 = w'
/-- Is a literal true? -/
def litT (m : List Bool) (x : Int) : Bool :=
  if 0 < x then decide (x ≤ m.length) && m.getD (x - 1).toNat false else decide (x < 0) && decide (-(m.length : Int) ≤ x) && !m.getD (-x - 1).toNat false
def clT (c : List Int) (m : List Bool) : Bool := c.any (litT m)
def hoT (L : List (List Int)) (m : List Bool) : Bool := L.all (fun c => clT c m)
/-- Is it no literal of n variables? -/
def badL (n x : Int) : Bool := x == 0 || decide (x < -n) || decide (n < x)
theorem int_info : (Try.prog.info? 3).map (fun i => (i.zero, i.size, i.bytes)) = some (some (.int .i64 0), 1, 8) := by kernel_rfl
/-- A row of numbers that a call made for itself. -/
def OwnI (w : World) (base : Nat) (v : Value) (l : List Int) : Prop := w.ownsRow base 3 1 v l.length (l.map (Value.int .i64))
theorem OwnI.nil (w : World) (base : Nat) : OwnI w base (.slice none 0 0) [] := World.ownsRow_nil _ _ _ _
theorem add_loc (g i : Nat) : (⟨g, 0, none⟩ : Addr).add i = ⟨g, i, none⟩ := by unfold Addr.add; split <;> simp_all
theorem OwnI.val {w : World} {base : Nat} {v : Value} {l : List Int} (h : OwnI w base v l) : ∃ (A : Option Addr) (c : Nat), v = .slice A l.length c ∧ RI w w.heap.size A l ∧ (A = none → c = 0) ∧ l.length ≤ c ∧ c ≤ maxLen := by
  rcases h.2 with ⟨rfl, h0⟩ | ⟨g, cap, cur, rfl, hg, hh, h1, h2, h3, h4⟩
  · have : l = [] := List.eq_nil_of_length_eq_zero h0
    subst this
    exact ⟨none, 0, rfl, RI.nil _ _ _, fun _ => rfl, by simp, by unfold maxLen; omega⟩
  · refine ⟨_, cap, rfl, fun i hi => ⟨_, rfl, (World.ownsRow.lt h g rfl).2, ?_⟩, (fun e => by cases e), h1, h2⟩
    rw [add_loc, World.ownsRow.cellAt h i (by omega)]
    simp [List.getD_eq_getElem?_getD, hi]
theorem OwnI.old {w w' : World} {base : Nat} {v : Value} {l : List Int} (h : OwnI w base v l) (hb : Below w.heap.size w w') : OwnI w' base v l := by
  refine World.ownsRow.kept h (row := none) ?_ ?_
  · exact ⟨hb.os, hb.tape, hb.output, hb.size, fun k hk _ => hb.block k hk⟩
  · cases hv : v.ownBlock with
    | none => exact .inl rfl
    | some k => exact .inr (by simp)
theorem OwnI.base {w : World} {B B' : Nat} {v : Value} {l : List Int} (h : OwnI w B v l) (hB : B' ≤ B) : OwnI w B' v l := by
  unfold OwnI at *
  refine ⟨h.1, ?_⟩
  rcases h.2 with h' | ⟨g, cap, cur, hv, hg, r⟩
  · exact .inl h'
  · exact .inr ⟨g, cap, cur, hv, Nat.le_trans hB hg, r⟩
/-- 'append(s, x)'. -/
theorem wpI1 {z w : World} {ops : Array Oper} {rest : List Oper} {o : Oper} {a : Act} {Q : Exit → Act → World → Prop} (hgd : o.guard = none) (s x : Operand)
    (ho : o.op = .call { callee := .builtin .append, args := #[s, x], argTypes := #[23, 23] })
    (v : Value) (l : List Int) (hs : a.eval s = v) (hown : OwnI w z.heap.size v l) (y : Int) (hx : a.eval x = .slice (some ⟨w.heap.size, 0, none⟩) 1 1) (hb : Below z.heap.size z w)
    (hsz : l.length ≤ 100000)
    (h : ∀ v' w', OwnI w' z.heap.size v' (l ++ [y]) → Below z.heap.size z w' → wpList Try.prog ops Q rest (a.put o.dst v') w') : wpList Try.prog ops Q (o :: rest) a (w.alloc (.cells #[.int .i64 y] 3)) := by
  obtain ⟨i0, hi0, hz0, hz1, hz2⟩ := info_parts int_info
  have hbs := hb.size
  refine wpList_append_own _ hgd s x 23 ho z.heap.size 3 i0 (.int .i64 0) 1 8 Try.underlying23 hi0 hz0 hz1 hz2 rfl (by omega) v l.length (l.map (Value.int .i64)) hs (World.ownsRow.alloc hown _) ⟨w.heap.size, 0, none⟩ 1 1 [.int .i64 y] hx rfl (cell_one_new _ _ _) ?_ (by unfold maxLen; omega) (by omega) (by simp; omega) ?_
  · intro u hu; simp at hu; subst hu; rfl
  · intro v' w' hown' hg _
    refine h v' w' ?_ ((hb.alloc hbs _).grown hg (by simp; omega) (fun k hk => ((World.ownsRow.lt hown) k hk).1))
    unfold OwnI
    simpa using hown'
end Go.Proofs.Ytlebagdildpkmaa
