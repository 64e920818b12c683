/-
  Slices of numbers, flags, pairs, names and rows as they are read; rows of a call's own.
  A literal's value; the last variable.
  Making rows of flags, and cutting them.
-/
import Derived.Test.YtkdocjcpehmljaaProg
import Derived.WalkKit
import Derived.WalkSpells
import Derived.WalkLawsBesides
import Derived.Lib.Hide
import Derived.BigQuiet
import Derived.Deep.QuietTactic
import Derived.Deep.RegionWith
import Derived.Deep.RegionHeld3
import Derived.Laws.AppendOwnNone
import Derived.Maps.AppendAt
import Derived.Laws.OwnMore
import Derived.Laws.CopyOwn
set_option linter.unusedVariables false
/- Slices of numbers, flags, pairs, names and rows as they are read; rows of a call's own. -/
namespace Go.Proofs.Ytkdocjcpehmljaa
open Go.RowKit
theorem block_add (a : Addr) (n : Nat) : (a.add n).block = a.block := by unfold Addr.add; split <;> rfl
theorem add_add_ (a : Addr) (i j : Nat) : (a.add i).add j = a.add (i + j) := by
  unfold Addr.add
  by_cases hi : i = 0 <;> by_cases hj : j = 0 <;> simp [hi, hj, Nat.add_assoc]
theorem drw {w : World} (n : Nat) : Below w.heap.size w (w.drewN n) := below_drewN (Below.refl _ _) n
theorem box_cells (w : World) (x y : Value) (t : TypeId) : (w.alloc (.cells #[x, y] t)).cell? ⟨w.heap.size, 0, none⟩ = some x ∧ (w.alloc (.cells #[x, y] t)).cell? ⟨w.heap.size, 1, none⟩ = some y := by constructor <;> go_simp
/-- The slice at A holds the numbers l, in a block below B. -/
def RI (w : World) (B : Nat) (A : Option Addr) (l : List Int) : Prop :=
  ∀ i, i < l.length → ∃ ad, A = some ad ∧ ad.block < B ∧ w.cell? (ad.add i) = some (.int .i64 (l.getD i 0))
theorem RI.below {w w' : World} {B : Nat} {A : Option Addr} {l : List Int} (h : RI w B A l) (hb : Below B w w') : RI w' B A l := by
  intro i hi
  obtain ⟨ad, e, hlt, hc⟩ := h i hi
  exact ⟨ad, e, hlt, (hb.cell (by rw [block_add]; exact hlt)).trans hc⟩
theorem RI.mono {w : World} {B B' : Nat} {A : Option Addr} {l : List Int} (h : RI w B A l) (hB : B ≤ B') : RI w B' A l := by
  intro i hi
  obtain ⟨ad, e, hlt, hc⟩ := h i hi
  exact ⟨ad, e, by omega, hc⟩
theorem RI.nx {w w' : World} {A : Option Addr} {l : List Int} (h : RI w w.heap.size A l) (hb : Below w.heap.size w w') : RI w' w'.heap.size A l := (h.below hb).mono hb.size
theorem RI.nil (w : World) (B : Nat) (A : Option Addr) : RI w B A [] := fun i hi => absurd hi (by simp)
/-- The slice at A holds the flags l, in a block below B. -/
def RB (w : World) (B : Nat) (A : Option Addr) (l : List Bool) : Prop :=
  ∀ i, i < l.length → ∃ ad, A = some ad ∧ ad.block < B ∧ w.cell? (ad.add i) = some (.bool (l.getD i false))
theorem RB.below {w w' : World} {B : Nat} {A : Option Addr} {l : List Bool} (h : RB w B A l) (hb : Below B w w') : RB w' B A l := by
  intro i hi
  obtain ⟨ad, e, hlt, hc⟩ := h i hi
  exact ⟨ad, e, hlt, (hb.cell (by rw [block_add]; exact hlt)).trans hc⟩
theorem RB.mono {w : World} {B B' : Nat} {A : Option Addr} {l : List Bool} (h : RB w B A l) (hB : B ≤ B') : RB w B' A l := by
  intro i hi
  obtain ⟨ad, e, hlt, hc⟩ := h i hi
  exact ⟨ad, e, by omega, hc⟩
theorem RB.nx {w w' : World} {A : Option Addr} {l : List Bool} (h : RB w w.heap.size A l) (hb : Below w.heap.size w w') : RB w' w'.heap.size A l := (h.below hb).mono hb.size
/-- The slice at A holds the clauses L, all in blocks below B. -/
def RC (w : World) (B : Nat) (A : Option Addr) (L : List (List Int)) : Prop :=
  ∀ i, i < L.length → ∃ ad A' c', A = some ad ∧ ad.block < B ∧ w.cell? (ad.add i) = some (.slice A' (L.getD i []).length c') ∧ RI w B A' (L.getD i []) ∧ (L.getD i []).length ≤ maxLen
theorem RC.below {w w' : World} {B : Nat} {A : Option Addr} {L : List (List Int)} (h : RC w B A L) (hb : Below B w w') : RC w' B A L := by
  intro i hi
  obtain ⟨ad, A', c', e, hlt, hc, hr, hm⟩ := h i hi
  exact ⟨ad, A', c', e, hlt, (hb.cell (by rw [block_add]; exact hlt)).trans hc, hr.below hb, hm⟩
theorem RC.mono {w : World} {B B' : Nat} {A : Option Addr} {L : List (List Int)} (h : RC w B A L) (hB : B ≤ B') : RC w B' A L := by
  intro i hi
  obtain ⟨ad, A', c', e, hlt, hc, hr, hm⟩ := h i hi
  exact ⟨ad, A', c', e, by omega, hc, hr.mono hB, hm⟩
theorem RC.nx {w w' : World} {A : Option Addr} {L : List (List Int)} (h : RC w w.heap.size A L) (hb : Below w.heap.size w w') : RC w' w'.heap.size A L := (h.below hb).mono hb.size
theorem bnx {a w w1 : World} (h : Below a.heap.size a w) (hb : Below w.heap.size w w1) : Below a.heap.size a w1 := h.trans (hb.mono h.size)
theorem bal {a w : World} (h : Below a.heap.size a w) (o : Obj) : Below a.heap.size a (w.alloc o) := h.alloc h.size o
theorem dropI (l : List Int) (k : Nat) (h : k < l.length) : l.drop k = l.getD k 0 :: l.drop (k + 1) := by
  rw [List.drop_eq_getElem_cons h]; simp [List.getD, h]
theorem dropB (l : List Bool) (k : Nat) (h : k < l.length) : l.drop k = l.getD k false :: l.drop (k + 1) := by
  rw [List.drop_eq_getElem_cons h]; simp [List.getD, h]
theorem dropC (l : List (List Int)) (k : Nat) (h : k < l.length) : l.drop k = l.getD k [] :: l.drop (k + 1) := by
  rw [List.drop_eq_getElem_cons h]; simp [List.getD, h]
/-- A call that tells a value, and leaves all as it was. -/
def RetS (w0 : World) (v : Value) (e : Ending) (w' : World) : Prop := e = .returned v ∧ w0 = w'
/-- A call that tells a value, and changes nothing that was there. -/
def RetV (w0 : World) (v : Value) (e : Ending) (w' : World) : Prop := e = .returned v ∧ Below w0.heap.size w0 w'
theorem int_info : (Try.prog.info? 3).map (fun i => (i.zero, i.size, i.bytes)) = some (some (.int .i64 0), 1, 8) := by kernel_rfl
/-- A row of numbers that a call made for itself. -/
def OwnI (w : World) (base : Nat) (v : Value) (l : List Int) : Prop := w.ownsRow base 3 1 v l.length (l.map (Value.int .i64))
theorem OwnI.nil (w : World) (base : Nat) : OwnI w base (.slice none 0 0) [] := World.ownsRow_nil _ _ _ _
theorem add_loc (g i : Nat) : (⟨g, 0, none⟩ : Addr).add i = ⟨g, i, none⟩ := by unfold Addr.add; split <;> simp_all
theorem OwnI.val {w : World} {base : Nat} {v : Value} {l : List Int} (h : OwnI w base v l) : ∃ (A : Option Addr) (c : Nat), v = .slice A l.length c ∧ RI w w.heap.size A l ∧ (A = none → c = 0) ∧ l.length ≤ c ∧ c ≤ maxLen := by
  rcases h.2 with ⟨rfl, h0⟩ | ⟨g, cap, cur, rfl, hg, hh, h1, h2, h3, h4⟩
  · have : l = [] := List.eq_nil_of_length_eq_zero h0
    subst this
    exact ⟨none, 0, rfl, RI.nil _ _ _, fun _ => rfl, by simp, by unfold maxLen; omega⟩
  · refine ⟨_, cap, rfl, fun i hi => ⟨_, rfl, (World.ownsRow.lt h g rfl).2, ?_⟩, (fun e => by cases e), h1, h2⟩
    rw [add_loc, World.ownsRow.cellAt h i (by omega)]
    simp [List.getD_eq_getElem?_getD, hi]
theorem OwnI.old {w w' : World} {base : Nat} {v : Value} {l : List Int} (h : OwnI w base v l) (hb : Below w.heap.size w w') : OwnI w' base v l := by
  refine World.ownsRow.kept h (row := none) ?_ ?_
  · exact ⟨hb.os, hb.tape, hb.output, hb.size, fun k hk _ => hb.block k hk⟩
  · cases hv : v.ownBlock with
    | none => exact .inl rfl
    | some k => exact .inr (by simp)
theorem OwnI.base {w : World} {B B' : Nat} {v : Value} {l : List Int} (h : OwnI w B v l) (hB : B' ≤ B) : OwnI w B' v l := by
  unfold OwnI at *
  refine ⟨h.1, ?_⟩
  rcases h.2 with h' | ⟨g, cap, cur, hv, hg, r⟩
  · exact .inl h'
  · exact .inr ⟨g, cap, cur, hv, Nat.le_trans hB hg, r⟩
/-- 'append(s, x)'. -/
theorem wpI1 {z w : World} {ops : Array Oper} {rest : List Oper} {o : Oper} {a : Act} {Q : Exit → Act → World → Prop} (hgd : o.guard = none) (s x : Operand)
    (ho : o.op = .call { callee := .builtin .append, args := #[s, x], argTypes := #[24, 24] })
    (v : Value) (l : List Int) (hs : a.eval s = v) (hown : OwnI w z.heap.size v l) (y : Int) (hx : a.eval x = .slice (some ⟨w.heap.size, 0, none⟩) 1 1) (hb : Below z.heap.size z w)
    (hsz : l.length ≤ 3000000000)
    (h : ∀ v' w', OwnI w' z.heap.size v' (l ++ [y]) → Below z.heap.size z w' → wpList Try.prog ops Q rest (a.put o.dst v') w') : wpList Try.prog ops Q (o :: rest) a (w.alloc (.cells #[.int .i64 y] 3)) := by
  obtain ⟨i0, hi0, hz0, hz1, hz2⟩ := info_parts int_info
  have hbs := hb.size
  refine wpList_append_own _ hgd s x 24 ho z.heap.size 3 i0 (.int .i64 0) 1 8 Try.underlying24 hi0 hz0 hz1 hz2 rfl (by omega) v l.length (l.map (Value.int .i64)) hs (World.ownsRow.alloc hown _) ⟨w.heap.size, 0, none⟩ 1 1 [.int .i64 y] hx rfl (cell_one_new _ _ _) ?_ (by unfold maxLen; omega) (by omega) (by simp; omega) ?_
  · intro u hu; simp at hu; subst hu; rfl
  · intro v' w' hown' hg _
    refine h v' w' ?_ ((hb.alloc hbs _).grown hg (by simp; omega) (fun k hk => ((World.ownsRow.lt hown) k hk).1))
    unfold OwnI
    simpa using hown'
/-- Pairs of numbers. -/
abbrev Pr := Int × Int
/-- The slice at A holds the pairs L, in a block below B. -/
def RP (w : World) (B : Nat) (A : Option Addr) (L : List Pr) : Prop :=
  ∀ i, i < L.length → ∃ ad, A = some ad ∧ ad.block < B ∧ w.cell? (ad.add (i * 2)) = some (.int .i64 (L.getD i (0, 0)).1) ∧ w.cell? ⟨(ad.add (i * 2)).block, (ad.add (i * 2)).off + 1, none⟩ = some (.int .i64 (L.getD i (0, 0)).2)
theorem RP.below {w w' : World} {B : Nat} {A : Option Addr} {L : List Pr} (h : RP w B A L) (hb : Below B w w') : RP w' B A L := by
  intro i hi
  obtain ⟨ad, e, hlt, h0, h1⟩ := h i hi
  exact ⟨ad, e, hlt, (hb.cell (by rw [block_add]; exact hlt)).trans h0, (hb.cell (by show (ad.add (i * 2)).block < B; rw [block_add]; exact hlt)).trans h1⟩
theorem RP.mono {w : World} {B B' : Nat} {A : Option Addr} {L : List Pr} (h : RP w B A L) (hB : B ≤ B') : RP w B' A L := by
  intro i hi
  obtain ⟨ad, e, hlt, h0, h1⟩ := h i hi
  exact ⟨ad, e, by omega, h0, h1⟩
theorem RP.nx {w w' : World} {A : Option Addr} {L : List Pr} (h : RP w w.heap.size A L) (hb : Below w.heap.size w w') : RP w' w'.heap.size A L := (h.below hb).mono hb.size
theorem RB.nil (w : World) (B : Nat) (A : Option Addr) : RB w B A [] := fun i hi => absurd hi (by simp)
theorem RP.nil (w : World) (B : Nat) (A : Option Addr) : RP w B A [] := fun i hi => absurd hi (by simp)
/-- A name: its kind, its place, its text. -/
structure Nm where
  k : UInt8
  at_ : Int
  s : ByteArray
def nm0 : Nm := ⟨0, 0, ⟨#[]⟩⟩
def RN (w : World) (B : Nat) (A : Option Addr) (L : List Nm) : Prop :=
  ∀ i, i < L.length → ∃ ad, A = some ad ∧ ad.block < B ∧ w.cell? (ad.add (i * 3)) = some (.int .u8 ((L.getD i nm0).k.toNat : Int)) ∧ w.cell? ⟨(ad.add (i * 3)).block, (ad.add (i * 3)).off + 1, none⟩ = some (.int .i64 (L.getD i nm0).at_) ∧ w.cell? ⟨(ad.add (i * 3)).block, (ad.add (i * 3)).off + 2, none⟩ = some (.string (L.getD i nm0).s) ∧ (L.getD i nm0).s.size ≤ maxLen
theorem RN.below {w w' : World} {B : Nat} {A : Option Addr} {L : List Nm} (h : RN w B A L) (hb : Below B w w') : RN w' B A L := by
  intro i hi
  obtain ⟨ad, e, hlt, h0, h1, h2, h3⟩ := h i hi
  exact ⟨ad, e, hlt, (hb.cell (by rw [block_add]; exact hlt)).trans h0, (hb.cell (by show (ad.add (i * 3)).block < B; rw [block_add]; exact hlt)).trans h1, (hb.cell (by show (ad.add (i * 3)).block < B; rw [block_add]; exact hlt)).trans h2, h3⟩
theorem RN.mono {w : World} {B B' : Nat} {A : Option Addr} {L : List Nm} (h : RN w B A L) (hB : B ≤ B') : RN w B' A L := by
  intro i hi
  obtain ⟨ad, e, hlt, h0⟩ := h i hi
  exact ⟨ad, e, by omega, h0⟩
theorem RN.nil (w : World) (B : Nat) (A : Option Addr) : RN w B A [] := fun i hi => absurd hi (by simp)
/-- The slice at A holds the rows of flags L, all in blocks below B. -/
def RR (w : World) (B : Nat) (A : Option Addr) (L : List (List Bool)) : Prop :=
  ∀ i, i < L.length → ∃ ad A' c', A = some ad ∧ ad.block < B ∧ w.cell? (ad.add i) = some (.slice A' (L.getD i []).length c') ∧ RB w B A' (L.getD i []) ∧ (L.getD i []).length ≤ c' ∧ c' ≤ maxLen ∧ (A' = none → c' = 0)
theorem RR.below {w w' : World} {B : Nat} {A : Option Addr} {L : List (List Bool)} (h : RR w B A L) (hb : Below B w w') : RR w' B A L := by
  intro i hi
  obtain ⟨ad, A', c', e, hlt, hc, hr, hm⟩ := h i hi
  exact ⟨ad, A', c', e, hlt, (hb.cell (by rw [block_add]; exact hlt)).trans hc, hr.below hb, hm⟩
theorem RR.mono {w : World} {B B' : Nat} {A : Option Addr} {L : List (List Bool)} (h : RR w B A L) (hB : B ≤ B') : RR w B' A L := by
  intro i hi
  obtain ⟨ad, A', c', e, hlt, hc, hr, hm⟩ := h i hi
  exact ⟨ad, A', c', e, by omega, hc, hr.mono hB, hm⟩
theorem RR.nx {w w' : World} {A : Option Addr} {L : List (List Bool)} (h : RR w w.heap.size A L) (hb : Below w.heap.size w w') : RR w' w'.heap.size A L := (h.below hb).mono hb.size
theorem RR.nil (w : World) (B : Nat) (A : Option Addr) : RR w B A [] := fun i hi => absurd hi (by simp)
theorem bool_info : (Try.prog.info? 4).map (fun i => (i.zero, i.size, i.bytes)) = some (some (.bool false), 1, 1) := by kernel_rfl
/-- A row of flags that a call made for itself. -/
def OwnB (w : World) (base : Nat) (v : Value) (l : List Bool) : Prop := w.ownsRow base 4 1 v l.length (l.map Value.bool)
theorem OwnB.nil (w : World) (base : Nat) : OwnB w base (.slice none 0 0) [] := World.ownsRow_nil _ _ _ _
theorem OwnB.val {w : World} {base : Nat} {v : Value} {l : List Bool} (h : OwnB w base v l) : ∃ (A : Option Addr) (c : Nat), v = .slice A l.length c ∧ RB w w.heap.size A l ∧ (A = none → c = 0) ∧ l.length ≤ c ∧ c ≤ maxLen := by
  rcases h.2 with ⟨rfl, h0⟩ | ⟨g, cap, cur, rfl, hg, hh, h1, h2, h3, h4⟩
  · have : l = [] := List.eq_nil_of_length_eq_zero h0
    subst this
    exact ⟨none, 0, rfl, RB.nil _ _ _, fun _ => rfl, by simp, by unfold maxLen; omega⟩
  · refine ⟨_, cap, rfl, fun i hi => ⟨_, rfl, (World.ownsRow.lt h g rfl).2, ?_⟩, (fun e => by cases e), h1, h2⟩
    rw [add_loc, World.ownsRow.cellAt h i (by omega)]
    simp [List.getD_eq_getElem?_getD, hi]
theorem OwnB.old {w w' : World} {base : Nat} {v : Value} {l : List Bool} (h : OwnB w base v l) (hb : Below w.heap.size w w') : OwnB w' base v l := by
  refine World.ownsRow.kept h (row := none) ?_ ?_
  · exact ⟨hb.os, hb.tape, hb.output, hb.size, fun k hk _ => hb.block k hk⟩
  · cases hv : v.ownBlock with
    | none => exact .inl rfl
    | some k => exact .inr (by simp)
/-- 'append(s, b)'. -/
theorem wpB1 {z w : World} {ops : Array Oper} {rest : List Oper} {o : Oper} {a : Act} {Q : Exit → Act → World → Prop} (hgd : o.guard = none) (s x : Operand)
    (ho : o.op = .call { callee := .builtin .append, args := #[s, x], argTypes := #[28, 28] })
    (v : Value) (l : List Bool) (hs : a.eval s = v) (hown : OwnB w z.heap.size v l) (y : Bool) (hx : a.eval x = .slice (some ⟨w.heap.size, 0, none⟩) 1 1) (hb : Below z.heap.size z w)
    (hsz : l.length ≤ 3000000000)
    (h : ∀ v' w', OwnB w' z.heap.size v' (l ++ [y]) → Below z.heap.size z w' → wpList Try.prog ops Q rest (a.put o.dst v') w') : wpList Try.prog ops Q (o :: rest) a (w.alloc (.cells #[.bool y] 4)) := by
  obtain ⟨i0, hi0, hz0, hz1, hz2⟩ := info_parts bool_info
  have hbs := hb.size
  refine wpList_append_own _ hgd s x 28 ho z.heap.size 4 i0 (.bool false) 1 1 Try.underlying28 hi0 hz0 hz1 hz2 rfl (by omega) v l.length (l.map Value.bool) hs (World.ownsRow.alloc hown _) ⟨w.heap.size, 0, none⟩ 1 1 [.bool y] hx rfl (cell_one_new _ _ _) ?_ (by unfold maxLen; omega) (by omega) (by simp; omega) ?_
  · intro u hu; simp at hu; subst hu; rfl
  · intro v' w' hown' hg _
    refine h v' w' ?_ ((hb.alloc hbs _).grown hg (by simp; omega) (fun k hk => ((World.ownsRow.lt hown) k hk).1))
    unfold OwnB
    simpa using hown'
/-- 'append(s, l...)', behind other memory of the call's own. -/
theorem wpBs {z w : World} {ops : Array Oper} {rest : List Oper} {o : Oper} {a : Act} {Q : Exit → Act → World → Prop} (hgd : o.guard = none) (s x : Operand)
    (ho : o.op = .call { callee := .builtin .append, args := #[s, x], argTypes := #[28, 28] })
    (base : Nat) (v : Value) (l : List Bool) (hs : a.eval s = v) (hown : OwnB w base v l) (A : Option Addr) (c : Nat) (m : List Bool) (hx : a.eval x = .slice A m.length c) (hr : RB w w.heap.size A m) (hbase : base ≤ w.heap.size) (hz : z.heap.size ≤ base) (hb : Below z.heap.size z w)
    (hn : l.length + m.length ≤ 3000000000) (hA : A = none → c = 0)
    (h : ∀ v' w', OwnB w' base v' (l ++ m) → Below base w w' → wpList Try.prog ops Q rest (a.put o.dst v') w') : wpList Try.prog ops Q (o :: rest) a w := by
  obtain ⟨i0, hi0, hz0, hz1, hz2⟩ := info_parts bool_info
  cases A with
  | none =>
    have h0 : m = [] := by
      cases m with
      | nil => rfl
      | cons x l => obtain ⟨ad, e, _⟩ := hr 0 (by simp); cases e
    subst h0
    obtain rfl := hA rfl
    refine wpList_append_own_none hgd s x 28 ho base 4 i0 1 Try.underlying28 hi0 v l.length (l.map Value.bool) hs hown hx ?_
    have := h v w (by simpa using hown) (Below.refl _ _)
    exact this
  | some ad =>
    refine wpList_append_own _ hgd s x 28 ho base 4 i0 (.bool false) 1 1 Try.underlying28 hi0 hz0 hz1 hz2 rfl (by omega) v l.length (l.map Value.bool) hs hown ad m.length c (m.map Value.bool) hx (by simp) ?_ ?_ (by unfold maxLen; omega) (by omega) hbase ?_
    · intro j u hj
      have hjl : j < m.length := by
        have := (List.getElem?_eq_some_iff.1 hj).1
        simpa using this
      obtain ⟨ad', e, _, hc⟩ := hr j hjl
      cases e
      rw [hc]
      simp [hjl] at hj
      rw [← hj]
      simp [List.getD_eq_getElem?_getD, hjl]
    · intro u hu; obtain ⟨x, _, rfl⟩ := List.mem_map.1 hu; rfl
    · intro v' w' hown' hg _
      refine h v' w' ?_ ((Below.refl base w).grown hg hbase (fun k hk => ((World.ownsRow.lt hown) k hk).1))
      unfold OwnB
      simpa using hown'
/-- A block of flags. -/
def BB (w : World) (g : Nat) (M : List Bool) : Prop := w.heap[g]? = some (.cells (M.map Value.bool).toArray 4 (0, 0))
theorem BB.cell {w : World} {g : Nat} {M : List Bool} (h : BB w g M) (j : Nat) (hj : j < M.length) : w.cell? ⟨g, j, none⟩ = some (.bool (M.getD j false)) := by
  rw [cell_of_row w g j _ _ _ h]
  simp [List.getD_eq_getElem?_getD, hj]
theorem BB.frozen {w : World} {g : Nat} {M : List Bool} (h : BB w g M) (j : Nat) : w.frozen? ⟨g, j, none⟩ = false := frozen_of_row w g j _ _ h
theorem BB.lt {w : World} {g : Nat} {M : List Bool} (h : BB w g M) : g < w.heap.size := (Array.getElem?_eq_some_iff.1 h).1
theorem BB.store {w : World} {g : Nat} {M : List Bool} (h : BB w g M) (j : Nat) (b : Bool) : BB (w.setCell ⟨g, j, none⟩ (.bool b)) g (M.set j b) := by
  have := heap_setCell_same w g j _ 4 (.bool b) h
  unfold BB
  rw [this]
  simp [List.map_set]
theorem BB.below {w w' : World} {B g : Nat} {M : List Bool} (h : BB w g M) (hb : Below B w w') (hg : g < B) : BB w' g M := (hb.block g hg).trans h
theorem BB.rb {w : World} {g : Nat} {M : List Bool} (h : BB w g M) : RB w w.heap.size (some ⟨g, 0, none⟩) M := fun i hi => ⟨_, rfl, h.lt, by rw [add_loc]; exact h.cell i hi⟩
/-- A call that tells a row of flags. -/
def RetB (w0 : World) (l : List Bool) (e : Ending) (w' : World) : Prop := ∃ A c, e = .returned (.slice A l.length c) ∧ RB w' w'.heap.size A l ∧ (A = none → c = 0) ∧ l.length ≤ c ∧ c ≤ maxLen ∧ Below w0.heap.size w0 w'
/-- A call that tells a row of flags, and no error. -/
def RetB0 (w0 : World) (l : List Bool) (x : Int) (e : Ending) (w' : World) : Prop := ∃ A c, e = .returned (.tuple #[.slice A l.length c, .int .i64 x]) ∧ RB w' w'.heap.size A l ∧ (A = none → c = 0) ∧ l.length ≤ c ∧ c ≤ maxLen ∧ Below w0.heap.size w0 w'
/-- Is a literal true? -/
def lt (v : List Bool) (l : Int) : Bool := if l < 0 ∨ (v.length : Int) ≤ l / 2 then false else (v.getD (l / 2).toNat false != (l % 2 == 1))
/-- Gates' values behind others. -/
def vals : List Bool → List Pr → List Bool
  | b, [] => b
  | b, g :: G => vals (b ++ [lt b g.1 && lt b g.2]) G
theorem vals_length (b : List Bool) (G : List Pr) : (vals b G).length = b.length + G.length := by
  induction G generalizing b with
  | nil => simp [vals]
  | cons g G ih => rw [vals, ih]; simp; omega
end Go.Proofs.Ytkdocjcpehmljaa
/- A literal's value; the last variable. -/
namespace Go.Proofs.Ytkdocjcpehmljaa
open Go.RowKit
theorem lt_neg (v : List Bool) {l : Int} (h : l < 0) : lt v l = false := by unfold lt; rw [if_pos (.inl h)]
theorem lt_far (v : List Bool) {l : Int} (h : (v.length : Int) ≤ l / 2) : lt v l = false := by unfold lt; rw [if_pos (.inr h)]
theorem lt_in (v : List Bool) {l : Int} (h0 : 0 ≤ l) (h : l / 2 < (v.length : Int)) : lt v l = (v.getD (l / 2).toNat false != (l % 2 == 1)) := by unfold lt; rw [if_neg (by omega)]
theorem lit_parts (v : List Bool) (l : Int) (h0 : 0 ≤ l) (h : l / 2 < (v.length : Int)) : ∃ j : Nat, j < v.length ∧ (j : Int) < v.length ∧ l.tdiv 2 = (j : Int) ∧ l / 2 = (j : Int) ∧ l.tmod 2 = l % 2 ∧ lt v l = (v.getD j false != (l % 2 == 1)) := by
  have e1 : l.tdiv 2 = l / 2 := by rw [Int.tdiv_eq_ediv_of_nonneg h0]
  have e2 : l.tmod 2 = l % 2 := by rw [Int.tmod_eq_emod_of_nonneg h0]
  refine ⟨(l / 2).toNat, by omega, by omega, by omega, by omega, e2, lt_in v h0 h⟩
set_option maxHeartbeats 800000 in
theorem refLit_any (A : Option Addr) (c : Nat) (v : List Bool) (l : Int) (w : World) (h : RB w w.heap.size A v) (hn : v.length ≤ maxLen) (b0 : -9223372036854775808 ≤ l) (b1 : l ≤ 9223372036854775807) :
    Calls Try.prog 24 #[.slice A v.length c, .int .i64 l] w (RetS w (.bool (lt v l))) := by
  unfold maxLen at hn
  by_cases h0 : l < 0
  · rw [lt_neg v h0]
    have d0 : decide (l < 0) = true := decide_eq_true h0
    clear h
    go_enter Try.func24, Try.ntmps24
    go_wp2
    go_ret
    exact ⟨rfl, rfl⟩
  · have d0 : decide (l < 0) = false := decide_eq_false h0
    by_cases h1 : (v.length : Int) ≤ l / 2
    · rw [lt_far v h1]
      have e1 : l.tdiv 2 = l / 2 := by rw [Int.tdiv_eq_ediv_of_nonneg (by omega)]
      have d1 : decide ((v.length : Int) ≤ l / 2) = true := decide_eq_true h1
      clear h
      go_enter Try.func24, Try.ntmps24
      go_wp2
      go_ret
      exact ⟨rfl, rfl⟩
    · obtain ⟨j, hj, hj', e1, e2, e3, e4⟩ := lit_parts v l (by omega) (by omega)
      obtain ⟨ad, rfl, _, hc⟩ := h j hj
      have d1 : decide (v.length ≤ j) = false := decide_eq_false (by omega)
      have d2 : decide ((v.length : Int) ≤ (j : Int)) = false := decide_eq_false (by omega)
      rw [e4]
      clear h e4 h1
      generalize v.getD j false = u at *
      by_cases hm : l % 2 = 1
      · have d3 : decide (l % 2 = 1) = true := decide_eq_true hm
        have d4 : (l % 2 == 1) = true := by simpa using hm
        rw [d4]
        go_enter Try.func24, Try.ntmps24
        go_wp2
        go_ret
        cases u <;> exact ⟨rfl, rfl⟩
      · have d3 : decide (l % 2 = 1) = false := decide_eq_false hm
        have d4 : (l % 2 == 1) = false := by simpa using hm
        rw [d4]
        go_enter Try.func24, Try.ntmps24
        go_wp2
        go_ret
        cases u <;> exact ⟨rfl, rfl⟩
set_option maxHeartbeats 800000 in
theorem isTrue_any (A : Option Addr) (c : Nat) (v : List Bool) (l : Int) (w : World) (h : RB w w.heap.size A v) (hn : v.length ≤ maxLen) (b0 : -9223372036854775808 ≤ l) (b1 : l ≤ 9223372036854775807) :
    Calls Try.prog 28 #[.slice A v.length c, .int .i64 l] w (RetS w (.bool (lt v l))) := by
  unfold maxLen at hn
  by_cases h0 : l < 0
  · rw [lt_neg v h0]
    have d0 : decide (l < 0) = true := decide_eq_true h0
    clear h
    go_enter Try.func28, Try.ntmps28
    go_wp2
    go_ret
    exact ⟨rfl, rfl⟩
  · have d0 : decide (l < 0) = false := decide_eq_false h0
    by_cases h1 : (v.length : Int) ≤ l / 2
    · rw [lt_far v h1]
      have e1 : l.tdiv 2 = l / 2 := by rw [Int.tdiv_eq_ediv_of_nonneg (by omega)]
      have d1 : decide ((v.length : Int) ≤ l / 2) = true := decide_eq_true h1
      clear h
      go_enter Try.func28, Try.ntmps28
      go_wp2
      go_ret
      exact ⟨rfl, rfl⟩
    · obtain ⟨j, hj, hj', e1, e2, e3, e4⟩ := lit_parts v l (by omega) (by omega)
      obtain ⟨ad, rfl, _, hc⟩ := h j hj
      have d1 : decide (v.length ≤ j) = false := decide_eq_false (by omega)
      have d2 : decide ((v.length : Int) ≤ (j : Int)) = false := decide_eq_false (by omega)
      rw [e4]
      clear h e4 h1
      generalize v.getD j false = u at *
      by_cases hm : l % 2 = 1
      · have d3 : decide (l % 2 = 1) = true := decide_eq_true hm
        have d4 : (l % 2 == 1) = true := by simpa using hm
        rw [d4]
        go_enter Try.func28, Try.ntmps28
        go_wp2
        go_ret
        cases u <;> exact ⟨rfl, rfl⟩
      · have d3 : decide (l % 2 = 1) = false := decide_eq_false hm
        have d4 : (l % 2 == 1) = false := by simpa using hm
        rw [d4]
        go_enter Try.func28, Try.ntmps28
        go_wp2
        go_ret
        cases u <;> exact ⟨rfl, rfl⟩
set_option maxHeartbeats 800000 in
theorem Lit_any (A : Option Addr) (c : Nat) (v : List Bool) (l : Int) (w : World) (h : RB w w.heap.size A v) (hn : v.length ≤ maxLen) (b0 : -9223372036854775808 ≤ l) (b1 : l ≤ 9223372036854775807) :
    Calls Try.prog 23 #[.slice A v.length c, .int .i64 l] w (RetS w (.bool (lt v l))) := by
  have C := isTrue_any A c v l w h hn b0 b1
  clear h
  go_enter Try.func23, Try.ntmps23
  go_wp2_with fail
  refine C.mono ?_; rintro e w' ⟨rfl, rfl⟩
  go_wp2
  go_ret
  exact ⟨rfl, rfl⟩
end Go.Proofs.Ytkdocjcpehmljaa
/- Making rows of flags, and cutting them. -/
namespace Go.Proofs.Ytkdocjcpehmljaa
open Go.RowKit
/-- Where a piece from k on begins. -/
def cutA (A : Option Addr) (c k : Nat) : Option Addr := if c = k then A else A.map (·.add k)
theorem size4 : (Try.prog.info? 4).map (·.size) = some 1 := by kernel_rfl
theorem run_size4a (w : World) : (sizeOf (Try.prog.elem 71)).run Try.prog w = .ok 1 w := by
  have e : Try.prog.elem 71 = 4 := by kernel_rfl
  rw [e]
  obtain ⟨i, hi, hs⟩ := Option.map_eq_some_iff.1 size4
  simp [sizeOf, typeInfo, hi, hs]
theorem run_size4b (w : World) : (sizeOf (Try.prog.elem 28)).run Try.prog w = .ok 1 w := by
  have e : Try.prog.elem 28 = 4 := by kernel_rfl
  rw [e]
  obtain ⟨i, hi, hs⟩ := Option.map_eq_some_iff.1 size4
  simp [sizeOf, typeInfo, hi, hs]
theorem run_size28 (w : World) : (sizeOf (Try.prog.elem 29)).run Try.prog w = .ok 1 w := by
  have e : Try.prog.elem 29 = 28 := by kernel_rfl
  rw [e]
  obtain ⟨i, hi, hs⟩ := Option.map_eq_some_iff.1 (show (Try.prog.info? 28).map (·.size) = some 1 by kernel_rfl)
  simp [sizeOf, typeInfo, hi, hs]
theorem u71 : Try.prog.underlying 71 = some (.slice (Try.prog.elem 71)) := by kernel_rfl
theorem u28 : Try.prog.underlying 28 = some (.slice (Try.prog.elem 28)) := by kernel_rfl
theorem u29 : Try.prog.underlying 29 = some (.slice (Try.prog.elem 29)) := by kernel_rfl
theorem slice71_l (A : Option Addr) (n c k : Nat) (K : Int) (hK : K = (k : Int)) (h0 : k ≤ n) (w : World) :
    (Instr.slice 71 (.slice A n c) (some (.int .i64 K)) none none).run Try.prog w = .ok (.slice (cutA A c k) (n - k) (c - k)) w := by
  subst hK
  rw [run_slice_l w 71 A n c u71 .i64 k (by omega) (by omega), run_size4a]
  simp [Result.andThen, sliced, cutA]
theorem slice28_l (A : Option Addr) (n c k : Nat) (K : Int) (hK : K = (k : Int)) (h0 : k ≤ n) (w : World) :
    (Instr.slice 28 (.slice A n c) (some (.int .i64 K)) none none).run Try.prog w = .ok (.slice (cutA A c k) (n - k) (c - k)) w := by
  subst hK
  rw [run_slice_l w 28 A n c u28 .i64 k (by omega) (by omega), run_size4b]
  simp [Result.andThen, sliced, cutA]
theorem slice28_h (A : Option Addr) (n c k : Nat) (K : Int) (hK : K = (k : Int)) (h0 : k ≤ c) (w : World) :
    (Instr.slice 28 (.slice A n c) none (some (.int .i64 K)) none).run Try.prog w = .ok (.slice (cutA A c 0) k c) w := by
  subst hK
  rw [run_slice_h w 28 A n c u28 .i64 k (by omega) (by omega), run_size4b]
  simp [Result.andThen, sliced, cutA]
theorem slice29_h (A : Option Addr) (n c k : Nat) (K : Int) (hK : K = (k : Int)) (h0 : k ≤ c) (w : World) :
    (Instr.slice 29 (.slice A n c) none (some (.int .i64 K)) none).run Try.prog w = .ok (.slice (cutA A c 0) k c) w := by
  subst hK
  rw [run_slice_h w 29 A n c u29 .i64 k (by omega) (by omega), run_size28]
  simp [Result.andThen, sliced, cutA]
theorem slice28_lh (A : Option Addr) (n c k m : Nat) (K H : Int) (hK : K = (k : Int)) (hH : H = (k : Int) + m) (h1 : k + m ≤ c) (w : World) :
    (Instr.slice 28 (.slice A n c) (some (.int .i64 K)) (some (.int .i64 H)) none).run Try.prog w = .ok (.slice (cutA A c k) m (c - k)) w := by
  subst hK hH
  rw [run_slice_lh w 28 A n c u28 .i64 .i64 k (k + m) (by omega) (by omega) (by omega), run_size4b]
  have e1 : ((k : Int) + m).toNat = k + m := by omega
  simp [Result.andThen, sliced, cutA, e1]
theorem cutA_zero (A : Option Addr) (c : Nat) : cutA A c 0 = A := by
  unfold cutA
  split
  · rfl
  · cases A <;> simp [Addr.add]
theorem cutA_some (a : Addr) (c k : Nat) (h : k < c) : cutA (some a) c k = some (a.add k) := by
  unfold cutA; rw [if_neg (by omega)]; rfl
theorem RB.cut {w : World} {B : Nat} {A : Option Addr} {l : List Bool} (h : RB w B A l) {k c m : Nat} (hc : l.length ≤ c) : RB w B (cutA A c k) ((l.drop k).take m) := by
  intro i hi
  simp only [List.length_take, List.length_drop] at hi
  obtain ⟨ad, rfl, hb, hcell⟩ := h (k + i) (by omega)
  refine ⟨ad.add k, by simp [cutA]; omega, by rw [block_add]; exact hb, ?_⟩
  rw [add_add_, hcell]
  have e : ((l.drop k).take m).getD i false = l.getD (k + i) false := by
    simp only [List.getD_eq_getElem?_getD, List.getElem?_take, List.getElem?_drop]
    rw [if_pos (by omega)]
  rw [e]
theorem RR.take {w : World} {B : Nat} {A : Option Addr} {L : List (List Bool)} (h : RR w B A L) (m : Nat) : RR w B A (L.take m) := by
  intro i hi
  simp only [List.length_take] at hi
  have e : (L.take m).getD i [] = L.getD i [] := by
    simp only [List.getD_eq_getElem?_getD, List.getElem?_take]; rw [if_pos (by omega)]
  rw [e]
  exact h i (by omega)
def mkO (n : Nat) : Obj := .cells (madeCells #[.bool false] n) 4
theorem mkB (T : TypeId) (hT : Try.prog.underlying T = some (.slice 4)) (n : Nat) (K : Int) (hK : K = (n : Int)) (hn : n ≤ 100000000) (w : World) : (Instr.makeSlice T (.int .i64 K) (.int .i64 K)).run Try.prog w = .ok (.slice (some ⟨w.heap.size, 0, none⟩) n n) (w.alloc (mkO n)) := by
  subst hK
  obtain ⟨i0, hi0, hz0, hz1, hz2⟩ := info_parts bool_info
  rw [run_make w T 4 i0 _ hT hi0 hz0 .i64 .i64 n n (by omega) (by omega) (by rw [hz2]; omega) (by omega), hz1]
  simp [Value.cells, mkO]
theorem bb_made (w : World) (n : Nat) : BB (w.alloc (mkO n)) w.heap.size (List.replicate n false) := by
  unfold BB mkO
  rw [heap_alloc_new]
  have hl := toList_madeCells_one (.bool false) n
  have : madeCells #[Value.bool false] n = ((List.replicate n false).map Value.bool).toArray := by
    apply Array.ext'
    rw [hl]; simp
  rw [this]
theorem BB.alloc {w : World} {g : Nat} {M : List Bool} (h : BB w g M) (o : Obj) : BB (w.alloc o) g M := (heap_alloc_old w o h.lt).trans h
theorem map_splice (L m : List Bool) (off : Nat) : splice (L.map Value.bool) off (m.map Value.bool) = (splice L off m).map Value.bool := by
  simp [splice, List.map_take, List.map_drop]
theorem splice_mid (P Q R q : List Bool) (h : q.length = Q.length) : splice (P ++ (Q ++ R)) P.length q = P ++ (q ++ R) := by
  unfold splice
  rw [List.take_left, h, ← List.drop_drop, List.drop_left, List.drop_left]
theorem splice_two (i s : List Bool) (g : Nat) : splice (splice (List.replicate (i.length + s.length + g + 1) false) 1 i) (1 + i.length) s = (false :: (i ++ s)) ++ List.replicate g false := by
  have e1 : List.replicate (i.length + s.length + g + 1) false = [false] ++ (List.replicate i.length false ++ List.replicate (s.length + g) false) := by
    rw [List.replicate_append_replicate, show i.length + s.length + g + 1 = (i.length + (s.length + g)) + 1 by omega, List.replicate_succ]; rfl
  have h1 := splice_mid [false] (List.replicate i.length false) (List.replicate (s.length + g) false) i (by simp)
  rw [e1, show (1 : Nat) = [false].length from rfl, h1]
  have h2 := splice_mid (false :: i) (List.replicate s.length false) (List.replicate g false) s (by simp)
  rw [List.replicate_append_replicate] at h2
  have e2 : [false].length + i.length = (false :: i).length := by simp; omega
  rw [e2]
  have e3 : [false] ++ (i ++ List.replicate (s.length + g) false) = (false :: i) ++ List.replicate (s.length + g) false := rfl
  rw [e3, h2]
  simp
/-- Gates that take what stands ahead of them. -/
def topo (k : Nat) (G : List Pr) : Prop := ∀ i, i < G.length → 0 ≤ (G.getD i (0, 0)).2 ∧ (G.getD i (0, 0)).2 ≤ (G.getD i (0, 0)).1 ∧ (G.getD i (0, 0)).1 < 2 * ((k + i : Nat) : Int)
theorem lt_app (v m : List Bool) {l : Int} (h0 : 0 ≤ l) (h : l < 2 * (v.length : Int)) : lt (v ++ m) l = lt v l := by
  rw [lt_in v h0 (by omega), lt_in (v ++ m) h0 (by rw [List.length_append]; omega)]
  have : (l / 2).toNat < v.length := by omega
  simp [List.getD_eq_getElem?_getD, List.getElem?_append_left this]
theorem dropP (l : List Pr) (k : Nat) (h : k < l.length) : l.drop k = l.getD k (0, 0) :: l.drop (k + 1) := by
  rw [List.drop_eq_getElem_cons h]; simp [List.getD, h]
theorem takeP (l : List Pr) (k : Nat) (h : k < l.length) : l.take (k + 1) = l.take k ++ [l.getD k (0, 0)] := by
  rw [List.take_add_one]; simp [List.getD_eq_getElem?_getD, h]
theorem vals_app (b : List Bool) (G H : List Pr) : vals b (G ++ H) = vals (vals b G) H := by
  induction G generalizing b with
  | nil => rfl
  | cons g G ih => exact ih _
theorem vals_next (b : List Bool) (G : List Pr) (j : Nat) (h : j < G.length) : vals b (G.take (j + 1)) = vals b (G.take j) ++ [lt (vals b (G.take j)) (G.getD j (0, 0)).1 && lt (vals b (G.take j)) (G.getD j (0, 0)).2] := by
  rw [takeP G j h, vals_app]; rfl
/-- The row of values while it is filled. -/
def rowV (b : List Bool) (G : List Pr) (j : Nat) : List Bool := vals b (G.take j) ++ List.replicate (G.length - j) false
theorem rowV_len (b : List Bool) (G : List Pr) (j : Nat) (h : j ≤ G.length) : (rowV b G j).length = b.length + G.length := by
  simp [rowV, vals_length]; omega
theorem rowV_zero (b : List Bool) (G : List Pr) : rowV b G 0 = b ++ List.replicate G.length false := by simp [rowV, vals]
theorem rowV_full (b : List Bool) (G : List Pr) : rowV b G G.length = vals b G := by simp [rowV]
theorem rowV_next (b : List Bool) (G : List Pr) (j : Nat) (h : j < G.length) (ht : topo b.length G) :
    rowV b G (j + 1) = (rowV b G j).set (b.length + j) (lt (rowV b G j) (G.getD j (0, 0)).1 && lt (rowV b G j) (G.getD j (0, 0)).2) := by
  obtain ⟨t1, t2, t3⟩ := ht j h
  have hl : (vals b (G.take j)).length = b.length + j := by rw [vals_length, List.length_take]; omega
  have e1 := lt_app (vals b (G.take j)) (List.replicate (G.length - j) false) (l := (G.getD j (0, 0)).1) (by omega) (by rw [hl]; omega)
  have e2 := lt_app (vals b (G.take j)) (List.replicate (G.length - j) false) (l := (G.getD j (0, 0)).2) (by omega) (by rw [hl]; omega)
  unfold rowV
  rw [e1, e2, vals_next b G j h, show G.length - j = (G.length - (j + 1)) + 1 by omega, List.replicate_succ, List.set_append_right _ _ (by omega), hl]
  simp
end Go.Proofs.Ytkdocjcpehmljaa
