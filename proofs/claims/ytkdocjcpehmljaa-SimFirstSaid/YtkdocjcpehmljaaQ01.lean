/-
  Slices of numbers, flags, pairs, names and rows as they are read; rows of a call's own.
  A literal's value; the last variable.
  The last variable of a model.
-/
import Derived.Test.YtkdocjcpehmljaaProg
import Derived.WalkKit
import Derived.WalkSpells
import Derived.WalkLawsBesides
import Derived.Lib.Hide
import Derived.BigQuiet
import Derived.Deep.QuietTactic
import Derived.Deep.RegionWith
import Derived.Deep.RegionHeld3
import Derived.Laws.AppendOwnNone
import Derived.Maps.AppendAt
import Derived.Laws.OwnMore
set_option linter.unusedVariables false
/- Slices of numbers, flags, pairs, names and rows as they are read; rows of a call's own. -/
namespace Go.Proofs.Ytkdocjcpehmljaa
open Go.RowKit
theorem block_add (a : Addr) (n : Nat) : (a.add n).block = a.block := by unfold Addr.add; split <;> rfl
theorem add_add_ (a : Addr) (i j : Nat) : (a.add i).add j = a.add (i + j) := by
  unfold Addr.add
  by_cases hi : i = 0 <;> by_cases hj : j = 0 <;> simp [hi, hj, Nat.add_assoc]
theorem drw {w : World} (n : Nat) : Below w.heap.size w (w.drewN n) := below_drewN (Below.refl _ _) n
theorem box_cells (w : World) (x y : Value) (t : TypeId) : (w.alloc (.cells #[x, y] t)).cell? ⟨w.heap.size, 0, none⟩ = some x ∧ (w.alloc (.cells #[x, y] t)).cell? ⟨w.heap.size, 1, none⟩ = some y := by constructor <;> go_simp
/-- The slice at A holds the numbers l, in a block below B. -/
def RI (w : World) (B : Nat) (A : Option Addr) (l : List Int) : Prop :=
  ∀ i, i < l.length → ∃ ad, A = some ad ∧ ad.block < B ∧ w.cell? (ad.add i) = some (.int .i64 (l.getD i 0))
theorem RI.below {w w' : World} {B : Nat} {A : Option Addr} {l : List Int} (h : RI w B A l) (hb : Below B w w') : RI w' B A l := by
  intro i hi
  obtain ⟨ad, e, hlt, hc⟩ := h i hi
  exact ⟨ad, e, hlt, (hb.cell (by rw [block_add]; exact hlt)).trans hc⟩
theorem RI.mono {w : World} {B B' : Nat} {A : Option Addr} {l : List Int} (h : RI w B A l) (hB : B ≤ B') : RI w B' A l := by
  intro i hi
  obtain ⟨ad, e, hlt, hc⟩ := h i hi
  exact ⟨ad, e, by omega, hc⟩
theorem RI.nx {w w' : World} {A : Option Addr} {l : List Int} (h : RI w w.heap.size A l) (hb : Below w.heap.size w w') : RI w' w'.heap.size A l := (h.below hb).mono hb.size
theorem RI.nil (w : World) (B : Nat) (A : Option Addr) : RI w B A [] := fun i hi => absurd hi (by simp)
/-- The slice at A holds the flags l, in a block below B. -/
def RB (w : World) (B : Nat) (A : Option Addr) (l : List Bool) : Prop :=
  ∀ i, i < l.length → ∃ ad, A = some ad ∧ ad.block < B ∧ w.cell? (ad.add i) = some (.bool (l.getD i false))
theorem RB.below {w w' : World} {B : Nat} {A : Option Addr} {l : List Bool} (h : RB w B A l) (hb : Below B w w') : RB w' B A l := by
  intro i hi
  obtain ⟨ad, e, hlt, hc⟩ := h i hi
  exact ⟨ad, e, hlt, (hb.cell (by rw [block_add]; exact hlt)).trans hc⟩
theorem RB.mono {w : World} {B B' : Nat} {A : Option Addr} {l : List Bool} (h : RB w B A l) (hB : B ≤ B') : RB w B' A l := by
  intro i hi
  obtain ⟨ad, e, hlt, hc⟩ := h i hi
  exact ⟨ad, e, by omega, hc⟩
theorem RB.nx {w w' : World} {A : Option Addr} {l : List Bool} (h : RB w w.heap.size A l) (hb : Below w.heap.size w w') : RB w' w'.heap.size A l := (h.below hb).mono hb.size
/-- The slice at A holds the clauses L, all in blocks below B. -/
def RC (w : World) (B : Nat) (A : Option Addr) (L : List (List Int)) : Prop :=
  ∀ i, i < L.length → ∃ ad A' c', A = some ad ∧ ad.block < B ∧ w.cell? (ad.add i) = some (.slice A' (L.getD i []).length c') ∧ RI w B A' (L.getD i []) ∧ (L.getD i []).length ≤ maxLen
theorem RC.below {w w' : World} {B : Nat} {A : Option Addr} {L : List (List Int)} (h : RC w B A L) (hb : Below B w w') : RC w' B A L := by
  intro i hi
  obtain ⟨ad, A', c', e, hlt, hc, hr, hm⟩ := h i hi
  exact ⟨ad, A', c', e, hlt, (hb.cell (by rw [block_add]; exact hlt)).trans hc, hr.below hb, hm⟩
theorem RC.mono {w : World} {B B' : Nat} {A : Option Addr} {L : List (List Int)} (h : RC w B A L) (hB : B ≤ B') : RC w B' A L := by
  intro i hi
  obtain ⟨ad, A', c', e, hlt, hc, hr, hm⟩ := h i hi
  exact ⟨ad, A', c', e, by omega, hc, hr.mono hB, hm⟩
theorem RC.nx {w w' : World} {A : Option Addr} {L : List (List Int)} (h : RC w w.heap.size A L) (hb : Below w.heap.size w w') : RC w' w'.heap.size A L := (h.below hb).mono hb.size
theorem bnx {a w w1 : World} (h : Below a.heap.size a w) (hb : Below w.heap.size w w1) : Below a.heap.size a w1 := h.trans (hb.mono h.size)
theorem bal {a w : World} (h : Below a.heap.size a w) (o : Obj) : Below a.heap.size a (w.alloc o) := h.alloc h.size o
theorem dropI (l : List Int) (k : Nat) (h : k < l.length) : l.drop k = l.getD k 0 :: l.drop (k + 1) := by
  rw [List.drop_eq_getElem_cons h]; simp [List.getD, h]
theorem dropB (l : List Bool) (k : Nat) (h : k < l.length) : l.drop k = l.getD k false :: l.drop (k + 1) := by
  rw [List.drop_eq_getElem_cons h]; simp [List.getD, h]
theorem dropC (l : List (List Int)) (k : Nat) (h : k < l.length) : l.drop k = l.getD k [] :: l.drop (k + 1) := by
  rw [List.drop_eq_getElem_cons h]; simp [List.getD, h]
/-- A call that tells a value, and leaves all as it was. -/
def RetS (w0 : World) (v : Value) (e : Ending) (w' : World) : Prop := e = .returned v ∧ w0 = w'
/-- A call that tells a value, and changes nothing that was there. -/
def RetV (w0 : World) (v : Value) (e : Ending) (w' : World) : Prop := e = .returned v ∧ Below w0.heap.size w0 w'
theorem int_info : (Try.prog.info? 3).map (fun i => (i.zero, i.size, i.bytes)) = some (some (.int .i64 0), 1, 8) := by kernel_rfl
/-- A row of numbers that a call made for itself. -/
def OwnI (w : World) (base : Nat) (v : Value) (l : List Int) : Prop := w.ownsRow base 3 1 v l.length (l.map (Value.int .i64))
theorem OwnI.nil (w : World) (base : Nat) : OwnI w base (.slice none 0 0) [] := World.ownsRow_nil _ _ _ _
theorem add_loc (g i : Nat) : (⟨g, 0, none⟩ : Addr).add i = ⟨g, i, none⟩ := by unfold Addr.add; split <;> simp_all
theorem OwnI.val {w : World} {base : Nat} {v : Value} {l : List Int} (h : OwnI w base v l) : ∃ (A : Option Addr) (c : Nat), v = .slice A l.length c ∧ RI w w.heap.size A l ∧ (A = none → c = 0) ∧ l.length ≤ c ∧ c ≤ maxLen := by
  rcases h.2 with ⟨rfl, h0⟩ | ⟨g, cap, cur, rfl, hg, hh, h1, h2, h3, h4⟩
  · have : l = [] := List.eq_nil_of_length_eq_zero h0
    subst this
    exact ⟨none, 0, rfl, RI.nil _ _ _, fun _ => rfl, by simp, by unfold maxLen; omega⟩
  · refine ⟨_, cap, rfl, fun i hi => ⟨_, rfl, (World.ownsRow.lt h g rfl).2, ?_⟩, (fun e => by cases e), h1, h2⟩
    rw [add_loc, World.ownsRow.cellAt h i (by omega)]
    simp [List.getD_eq_getElem?_getD, hi]
theorem OwnI.old {w w' : World} {base : Nat} {v : Value} {l : List Int} (h : OwnI w base v l) (hb : Below w.heap.size w w') : OwnI w' base v l := by
  refine World.ownsRow.kept h (row := none) ?_ ?_
  · exact ⟨hb.os, hb.tape, hb.output, hb.size, fun k hk _ => hb.block k hk⟩
  · cases hv : v.ownBlock with
    | none => exact .inl rfl
    | some k => exact .inr (by simp)
theorem OwnI.base {w : World} {B B' : Nat} {v : Value} {l : List Int} (h : OwnI w B v l) (hB : B' ≤ B) : OwnI w B' v l := by
  unfold OwnI at *
  refine ⟨h.1, ?_⟩
  rcases h.2 with h' | ⟨g, cap, cur, hv, hg, r⟩
  · exact .inl h'
  · exact .inr ⟨g, cap, cur, hv, Nat.le_trans hB hg, r⟩
/-- 'append(s, x)'. -/
theorem wpI1 {z w : World} {ops : Array Oper} {rest : List Oper} {o : Oper} {a : Act} {Q : Exit → Act → World → Prop} (hgd : o.guard = none) (s x : Operand)
    (ho : o.op = .call { callee := .builtin .append, args := #[s, x], argTypes := #[24, 24] })
    (v : Value) (l : List Int) (hs : a.eval s = v) (hown : OwnI w z.heap.size v l) (y : Int) (hx : a.eval x = .slice (some ⟨w.heap.size, 0, none⟩) 1 1) (hb : Below z.heap.size z w)
    (hsz : l.length ≤ 3000000000)
    (h : ∀ v' w', OwnI w' z.heap.size v' (l ++ [y]) → Below z.heap.size z w' → wpList Try.prog ops Q rest (a.put o.dst v') w') : wpList Try.prog ops Q (o :: rest) a (w.alloc (.cells #[.int .i64 y] 3)) := by
  obtain ⟨i0, hi0, hz0, hz1, hz2⟩ := info_parts int_info
  have hbs := hb.size
  refine wpList_append_own _ hgd s x 24 ho z.heap.size 3 i0 (.int .i64 0) 1 8 Try.underlying24 hi0 hz0 hz1 hz2 rfl (by omega) v l.length (l.map (Value.int .i64)) hs (World.ownsRow.alloc hown _) ⟨w.heap.size, 0, none⟩ 1 1 [.int .i64 y] hx rfl (cell_one_new _ _ _) ?_ (by unfold maxLen; omega) (by omega) (by simp; omega) ?_
  · intro u hu; simp at hu; subst hu; rfl
  · intro v' w' hown' hg _
    refine h v' w' ?_ ((hb.alloc hbs _).grown hg (by simp; omega) (fun k hk => ((World.ownsRow.lt hown) k hk).1))
    unfold OwnI
    simpa using hown'
/-- Pairs of numbers. -/
abbrev Pr := Int × Int
/-- The slice at A holds the pairs L, in a block below B. -/
def RP (w : World) (B : Nat) (A : Option Addr) (L : List Pr) : Prop :=
  ∀ i, i < L.length → ∃ ad, A = some ad ∧ ad.block < B ∧ w.cell? (ad.add (i * 2)) = some (.int .i64 (L.getD i (0, 0)).1) ∧ w.cell? ⟨(ad.add (i * 2)).block, (ad.add (i * 2)).off + 1, none⟩ = some (.int .i64 (L.getD i (0, 0)).2)
theorem RP.below {w w' : World} {B : Nat} {A : Option Addr} {L : List Pr} (h : RP w B A L) (hb : Below B w w') : RP w' B A L := by
  intro i hi
  obtain ⟨ad, e, hlt, h0, h1⟩ := h i hi
  exact ⟨ad, e, hlt, (hb.cell (by rw [block_add]; exact hlt)).trans h0, (hb.cell (by show (ad.add (i * 2)).block < B; rw [block_add]; exact hlt)).trans h1⟩
theorem RP.mono {w : World} {B B' : Nat} {A : Option Addr} {L : List Pr} (h : RP w B A L) (hB : B ≤ B') : RP w B' A L := by
  intro i hi
  obtain ⟨ad, e, hlt, h0, h1⟩ := h i hi
  exact ⟨ad, e, by omega, h0, h1⟩
theorem RP.nx {w w' : World} {A : Option Addr} {L : List Pr} (h : RP w w.heap.size A L) (hb : Below w.heap.size w w') : RP w' w'.heap.size A L := (h.below hb).mono hb.size
theorem RB.nil (w : World) (B : Nat) (A : Option Addr) : RB w B A [] := fun i hi => absurd hi (by simp)
theorem RP.nil (w : World) (B : Nat) (A : Option Addr) : RP w B A [] := fun i hi => absurd hi (by simp)
/-- A name: its kind, its place, its text. -/
structure Nm where
  k : UInt8
  at_ : Int
  s : ByteArray
def nm0 : Nm := ⟨0, 0, ⟨#[]⟩⟩
def RN (w : World) (B : Nat) (A : Option Addr) (L : List Nm) : Prop :=
  ∀ i, i < L.length → ∃ ad, A = some ad ∧ ad.block < B ∧ w.cell? (ad.add (i * 3)) = some (.int .u8 ((L.getD i nm0).k.toNat : Int)) ∧ w.cell? ⟨(ad.add (i * 3)).block, (ad.add (i * 3)).off + 1, none⟩ = some (.int .i64 (L.getD i nm0).at_) ∧ w.cell? ⟨(ad.add (i * 3)).block, (ad.add (i * 3)).off + 2, none⟩ = some (.string (L.getD i nm0).s) ∧ (L.getD i nm0).s.size ≤ maxLen
theorem RN.below {w w' : World} {B : Nat} {A : Option Addr} {L : List Nm} (h : RN w B A L) (hb : Below B w w') : RN w' B A L := by
  intro i hi
  obtain ⟨ad, e, hlt, h0, h1, h2, h3⟩ := h i hi
  exact ⟨ad, e, hlt, (hb.cell (by rw [block_add]; exact hlt)).trans h0, (hb.cell (by show (ad.add (i * 3)).block < B; rw [block_add]; exact hlt)).trans h1, (hb.cell (by show (ad.add (i * 3)).block < B; rw [block_add]; exact hlt)).trans h2, h3⟩
theorem RN.mono {w : World} {B B' : Nat} {A : Option Addr} {L : List Nm} (h : RN w B A L) (hB : B ≤ B') : RN w B' A L := by
  intro i hi
  obtain ⟨ad, e, hlt, h0⟩ := h i hi
  exact ⟨ad, e, by omega, h0⟩
theorem RN.nil (w : World) (B : Nat) (A : Option Addr) : RN w B A [] := fun i hi => absurd hi (by simp)
/-- The slice at A holds the rows of flags L, all in blocks below B. -/
def RR (w : World) (B : Nat) (A : Option Addr) (L : List (List Bool)) : Prop :=
  ∀ i, i < L.length → ∃ ad A' c', A = some ad ∧ ad.block < B ∧ w.cell? (ad.add i) = some (.slice A' (L.getD i []).length c') ∧ RB w B A' (L.getD i []) ∧ (L.getD i []).length ≤ c' ∧ c' ≤ maxLen ∧ (A' = none → c' = 0)
theorem RR.below {w w' : World} {B : Nat} {A : Option Addr} {L : List (List Bool)} (h : RR w B A L) (hb : Below B w w') : RR w' B A L := by
  intro i hi
  obtain ⟨ad, A', c', e, hlt, hc, hr, hm⟩ := h i hi
  exact ⟨ad, A', c', e, hlt, (hb.cell (by rw [block_add]; exact hlt)).trans hc, hr.below hb, hm⟩
theorem RR.mono {w : World} {B B' : Nat} {A : Option Addr} {L : List (List Bool)} (h : RR w B A L) (hB : B ≤ B') : RR w B' A L := by
  intro i hi
  obtain ⟨ad, A', c', e, hlt, hc, hr, hm⟩ := h i hi
  exact ⟨ad, A', c', e, by omega, hc, hr.mono hB, hm⟩
theorem RR.nx {w w' : World} {A : Option Addr} {L : List (List Bool)} (h : RR w w.heap.size A L) (hb : Below w.heap.size w w') : RR w' w'.heap.size A L := (h.below hb).mono hb.size
theorem RR.nil (w : World) (B : Nat) (A : Option Addr) : RR w B A [] := fun i hi => absurd hi (by simp)
theorem bool_info : (Try.prog.info? 4).map (fun i => (i.zero, i.size, i.bytes)) = some (some (.bool false), 1, 1) := by kernel_rfl
/-- A row of flags that a call made for itself. -/
def OwnB (w : World) (base : Nat) (v : Value) (l : List Bool) : Prop := w.ownsRow base 4 1 v l.length (l.map Value.bool)
theorem OwnB.nil (w : World) (base : Nat) : OwnB w base (.slice none 0 0) [] := World.ownsRow_nil _ _ _ _
theorem OwnB.val {w : World} {base : Nat} {v : Value} {l : List Bool} (h : OwnB w base v l) : ∃ (A : Option Addr) (c : Nat), v = .slice A l.length c ∧ RB w w.heap.size A l ∧ (A = none → c = 0) ∧ l.length ≤ c ∧ c ≤ maxLen := by
  rcases h.2 with ⟨rfl, h0⟩ | ⟨g, cap, cur, rfl, hg, hh, h1, h2, h3, h4⟩
  · have : l = [] := List.eq_nil_of_length_eq_zero h0
    subst this
    exact ⟨none, 0, rfl, RB.nil _ _ _, fun _ => rfl, by simp, by unfold maxLen; omega⟩
  · refine ⟨_, cap, rfl, fun i hi => ⟨_, rfl, (World.ownsRow.lt h g rfl).2, ?_⟩, (fun e => by cases e), h1, h2⟩
    rw [add_loc, World.ownsRow.cellAt h i (by omega)]
    simp [List.getD_eq_getElem?_getD, hi]
theorem OwnB.old {w w' : World} {base : Nat} {v : Value} {l : List Bool} (h : OwnB w base v l) (hb : Below w.heap.size w w') : OwnB w' base v l := by
  refine World.ownsRow.kept h (row := none) ?_ ?_
  · exact ⟨hb.os, hb.tape, hb.output, hb.size, fun k hk _ => hb.block k hk⟩
  · cases hv : v.ownBlock with
    | none => exact .inl rfl
    | some k => exact .inr (by simp)
/-- 'append(s, b)'. -/
theorem wpB1 {z w : World} {ops : Array Oper} {rest : List Oper} {o : Oper} {a : Act} {Q : Exit → Act → World → Prop} (hgd : o.guard = none) (s x : Operand)
    (ho : o.op = .call { callee := .builtin .append, args := #[s, x], argTypes := #[28, 28] })
    (v : Value) (l : List Bool) (hs : a.eval s = v) (hown : OwnB w z.heap.size v l) (y : Bool) (hx : a.eval x = .slice (some ⟨w.heap.size, 0, none⟩) 1 1) (hb : Below z.heap.size z w)
    (hsz : l.length ≤ 3000000000)
    (h : ∀ v' w', OwnB w' z.heap.size v' (l ++ [y]) → Below z.heap.size z w' → wpList Try.prog ops Q rest (a.put o.dst v') w') : wpList Try.prog ops Q (o :: rest) a (w.alloc (.cells #[.bool y] 4)) := by
  obtain ⟨i0, hi0, hz0, hz1, hz2⟩ := info_parts bool_info
  have hbs := hb.size
  refine wpList_append_own _ hgd s x 28 ho z.heap.size 4 i0 (.bool false) 1 1 Try.underlying28 hi0 hz0 hz1 hz2 rfl (by omega) v l.length (l.map Value.bool) hs (World.ownsRow.alloc hown _) ⟨w.heap.size, 0, none⟩ 1 1 [.bool y] hx rfl (cell_one_new _ _ _) ?_ (by unfold maxLen; omega) (by omega) (by simp; omega) ?_
  · intro u hu; simp at hu; subst hu; rfl
  · intro v' w' hown' hg _
    refine h v' w' ?_ ((hb.alloc hbs _).grown hg (by simp; omega) (fun k hk => ((World.ownsRow.lt hown) k hk).1))
    unfold OwnB
    simpa using hown'
/-- 'append(s, l...)', behind other memory of the call's own. -/
theorem wpBs {z w : World} {ops : Array Oper} {rest : List Oper} {o : Oper} {a : Act} {Q : Exit → Act → World → Prop} (hgd : o.guard = none) (s x : Operand)
    (ho : o.op = .call { callee := .builtin .append, args := #[s, x], argTypes := #[28, 28] })
    (base : Nat) (v : Value) (l : List Bool) (hs : a.eval s = v) (hown : OwnB w base v l) (A : Option Addr) (c : Nat) (m : List Bool) (hx : a.eval x = .slice A m.length c) (hr : RB w w.heap.size A m) (hbase : base ≤ w.heap.size) (hz : z.heap.size ≤ base) (hb : Below z.heap.size z w)
    (hn : l.length + m.length ≤ 3000000000) (hA : A = none → c = 0)
    (h : ∀ v' w', OwnB w' base v' (l ++ m) → Below base w w' → wpList Try.prog ops Q rest (a.put o.dst v') w') : wpList Try.prog ops Q (o :: rest) a w := by
  obtain ⟨i0, hi0, hz0, hz1, hz2⟩ := info_parts bool_info
  cases A with
  | none =>
    have h0 : m = [] := by
      cases m with
      | nil => rfl
      | cons x l => obtain ⟨ad, e, _⟩ := hr 0 (by simp); cases e
    subst h0
    obtain rfl := hA rfl
    refine wpList_append_own_none hgd s x 28 ho base 4 i0 1 Try.underlying28 hi0 v l.length (l.map Value.bool) hs hown hx ?_
    have := h v w (by simpa using hown) (Below.refl _ _)
    exact this
  | some ad =>
    refine wpList_append_own _ hgd s x 28 ho base 4 i0 (.bool false) 1 1 Try.underlying28 hi0 hz0 hz1 hz2 rfl (by omega) v l.length (l.map Value.bool) hs hown ad m.length c (m.map Value.bool) hx (by simp) ?_ ?_ (by unfold maxLen; omega) (by omega) hbase ?_
    · intro j u hj
      have hjl : j < m.length := by
        have := (List.getElem?_eq_some_iff.1 hj).1
        simpa using this
      obtain ⟨ad', e, _, hc⟩ := hr j hjl
      cases e
      rw [hc]
      simp [hjl] at hj
      rw [← hj]
      simp [List.getD_eq_getElem?_getD, hjl]
    · intro u hu; obtain ⟨x, _, rfl⟩ := List.mem_map.1 hu; rfl
    · intro v' w' hown' hg _
      refine h v' w' ?_ ((Below.refl base w).grown hg hbase (fun k hk => ((World.ownsRow.lt hown) k hk).1))
      unfold OwnB
      simpa using hown'
/-- A block of flags. -/
def BB (w : World) (g : Nat) (M : List Bool) : Prop := w.heap[g]? = some (.cells (M.map Value.bool).toArray 4 (0, 0))
theorem BB.cell {w : World} {g : Nat} {M : List Bool} (h : BB w g M) (j : Nat) (hj : j < M.length) : w.cell? ⟨g, j, none⟩ = some (.bool (M.getD j false)) := by
  rw [cell_of_row w g j _ _ _ h]
  simp [List.getD_eq_getElem?_getD, hj]
theorem BB.frozen {w : World} {g : Nat} {M : List Bool} (h : BB w g M) (j : Nat) : w.frozen? ⟨g, j, none⟩ = false := frozen_of_row w g j _ _ h
theorem BB.lt {w : World} {g : Nat} {M : List Bool} (h : BB w g M) : g < w.heap.size := (Array.getElem?_eq_some_iff.1 h).1
theorem BB.store {w : World} {g : Nat} {M : List Bool} (h : BB w g M) (j : Nat) (b : Bool) : BB (w.setCell ⟨g, j, none⟩ (.bool b)) g (M.set j b) := by
  have := heap_setCell_same w g j _ 4 (.bool b) h
  unfold BB
  rw [this]
  simp [List.map_set]
theorem BB.below {w w' : World} {B g : Nat} {M : List Bool} (h : BB w g M) (hb : Below B w w') (hg : g < B) : BB w' g M := (hb.block g hg).trans h
theorem BB.rb {w : World} {g : Nat} {M : List Bool} (h : BB w g M) : RB w w.heap.size (some ⟨g, 0, none⟩) M := fun i hi => ⟨_, rfl, h.lt, by rw [add_loc]; exact h.cell i hi⟩
/-- A call that tells a row of flags. -/
def RetB (w0 : World) (l : List Bool) (e : Ending) (w' : World) : Prop := ∃ A c, e = .returned (.slice A l.length c) ∧ RB w' w'.heap.size A l ∧ (A = none → c = 0) ∧ l.length ≤ c ∧ c ≤ maxLen ∧ Below w0.heap.size w0 w'
/-- A call that tells a row of flags, and no error. -/
def RetB0 (w0 : World) (l : List Bool) (x : Int) (e : Ending) (w' : World) : Prop := ∃ A c, e = .returned (.tuple #[.slice A l.length c, .int .i64 x]) ∧ RB w' w'.heap.size A l ∧ (A = none → c = 0) ∧ l.length ≤ c ∧ c ≤ maxLen ∧ Below w0.heap.size w0 w'
/-- Is a literal true? -/
def lt (v : List Bool) (l : Int) : Bool := if l < 0 ∨ (v.length : Int) ≤ l / 2 then false else (v.getD (l / 2).toNat false != (l % 2 == 1))
/-- Gates' values behind others. -/
def vals : List Bool → List Pr → List Bool
  | b, [] => b
  | b, g :: G => vals (b ++ [lt b g.1 && lt b g.2]) G
theorem vals_length (b : List Bool) (G : List Pr) : (vals b G).length = b.length + G.length := by
  induction G generalizing b with
  | nil => simp [vals]
  | cons g G ih => rw [vals, ih]; simp; omega
end Go.Proofs.Ytkdocjcpehmljaa
/- A literal's value; the last variable. -/
namespace Go.Proofs.Ytkdocjcpehmljaa
open Go.RowKit
theorem lt_neg (v : List Bool) {l : Int} (h : l < 0) : lt v l = false := by unfold lt; rw [if_pos (.inl h)]
theorem lt_far (v : List Bool) {l : Int} (h : (v.length : Int) ≤ l / 2) : lt v l = false := by unfold lt; rw [if_pos (.inr h)]
theorem lt_in (v : List Bool) {l : Int} (h0 : 0 ≤ l) (h : l / 2 < (v.length : Int)) : lt v l = (v.getD (l / 2).toNat false != (l % 2 == 1)) := by unfold lt; rw [if_neg (by omega)]
theorem lit_parts (v : List Bool) (l : Int) (h0 : 0 ≤ l) (h : l / 2 < (v.length : Int)) : ∃ j : Nat, j < v.length ∧ (j : Int) < v.length ∧ l.tdiv 2 = (j : Int) ∧ l / 2 = (j : Int) ∧ l.tmod 2 = l % 2 ∧ lt v l = (v.getD j false != (l % 2 == 1)) := by
  have e1 : l.tdiv 2 = l / 2 := by rw [Int.tdiv_eq_ediv_of_nonneg h0]
  have e2 : l.tmod 2 = l % 2 := by rw [Int.tmod_eq_emod_of_nonneg h0]
  refine ⟨(l / 2).toNat, by omega, by omega, by omega, by omega, e2, lt_in v h0 h⟩
set_option maxHeartbeats 800000 in
theorem refLit_any (A : Option Addr) (c : Nat) (v : List Bool) (l : Int) (w : World) (h : RB w w.heap.size A v) (hn : v.length ≤ maxLen) (b0 : -9223372036854775808 ≤ l) (b1 : l ≤ 9223372036854775807) :
    Calls Try.prog 24 #[.slice A v.length c, .int .i64 l] w (RetS w (.bool (lt v l))) := by
  unfold maxLen at hn
  by_cases h0 : l < 0
  · rw [lt_neg v h0]
    have d0 : decide (l < 0) = true := decide_eq_true h0
    clear h
    go_enter Try.func24, Try.ntmps24
    go_wp2
    go_ret
    exact ⟨rfl, rfl⟩
  · have d0 : decide (l < 0) = false := decide_eq_false h0
    by_cases h1 : (v.length : Int) ≤ l / 2
    · rw [lt_far v h1]
      have e1 : l.tdiv 2 = l / 2 := by rw [Int.tdiv_eq_ediv_of_nonneg (by omega)]
      have d1 : decide ((v.length : Int) ≤ l / 2) = true := decide_eq_true h1
      clear h
      go_enter Try.func24, Try.ntmps24
      go_wp2
      go_ret
      exact ⟨rfl, rfl⟩
    · obtain ⟨j, hj, hj', e1, e2, e3, e4⟩ := lit_parts v l (by omega) (by omega)
      obtain ⟨ad, rfl, _, hc⟩ := h j hj
      have d1 : decide (v.length ≤ j) = false := decide_eq_false (by omega)
      have d2 : decide ((v.length : Int) ≤ (j : Int)) = false := decide_eq_false (by omega)
      rw [e4]
      clear h e4 h1
      generalize v.getD j false = u at *
      by_cases hm : l % 2 = 1
      · have d3 : decide (l % 2 = 1) = true := decide_eq_true hm
        have d4 : (l % 2 == 1) = true := by simpa using hm
        rw [d4]
        go_enter Try.func24, Try.ntmps24
        go_wp2
        go_ret
        cases u <;> exact ⟨rfl, rfl⟩
      · have d3 : decide (l % 2 = 1) = false := decide_eq_false hm
        have d4 : (l % 2 == 1) = false := by simpa using hm
        rw [d4]
        go_enter Try.func24, Try.ntmps24
        go_wp2
        go_ret
        cases u <;> exact ⟨rfl, rfl⟩
set_option maxHeartbeats 800000 in
theorem isTrue_any (A : Option Addr) (c : Nat) (v : List Bool) (l : Int) (w : World) (h : RB w w.heap.size A v) (hn : v.length ≤ maxLen) (b0 : -9223372036854775808 ≤ l) (b1 : l ≤ 9223372036854775807) :
    Calls Try.prog 28 #[.slice A v.length c, .int .i64 l] w (RetS w (.bool (lt v l))) := by
  unfold maxLen at hn
  by_cases h0 : l < 0
  · rw [lt_neg v h0]
    have d0 : decide (l < 0) = true := decide_eq_true h0
    clear h
    go_enter Try.func28, Try.ntmps28
    go_wp2
    go_ret
    exact ⟨rfl, rfl⟩
  · have d0 : decide (l < 0) = false := decide_eq_false h0
    by_cases h1 : (v.length : Int) ≤ l / 2
    · rw [lt_far v h1]
      have e1 : l.tdiv 2 = l / 2 := by rw [Int.tdiv_eq_ediv_of_nonneg (by omega)]
      have d1 : decide ((v.length : Int) ≤ l / 2) = true := decide_eq_true h1
      clear h
      go_enter Try.func28, Try.ntmps28
      go_wp2
      go_ret
      exact ⟨rfl, rfl⟩
    · obtain ⟨j, hj, hj', e1, e2, e3, e4⟩ := lit_parts v l (by omega) (by omega)
      obtain ⟨ad, rfl, _, hc⟩ := h j hj
      have d1 : decide (v.length ≤ j) = false := decide_eq_false (by omega)
      have d2 : decide ((v.length : Int) ≤ (j : Int)) = false := decide_eq_false (by omega)
      rw [e4]
      clear h e4 h1
      generalize v.getD j false = u at *
      by_cases hm : l % 2 = 1
      · have d3 : decide (l % 2 = 1) = true := decide_eq_true hm
        have d4 : (l % 2 == 1) = true := by simpa using hm
        rw [d4]
        go_enter Try.func28, Try.ntmps28
        go_wp2
        go_ret
        cases u <;> exact ⟨rfl, rfl⟩
      · have d3 : decide (l % 2 = 1) = false := decide_eq_false hm
        have d4 : (l % 2 == 1) = false := by simpa using hm
        rw [d4]
        go_enter Try.func28, Try.ntmps28
        go_wp2
        go_ret
        cases u <;> exact ⟨rfl, rfl⟩
set_option maxHeartbeats 800000 in
theorem Lit_any (A : Option Addr) (c : Nat) (v : List Bool) (l : Int) (w : World) (h : RB w w.heap.size A v) (hn : v.length ≤ maxLen) (b0 : -9223372036854775808 ≤ l) (b1 : l ≤ 9223372036854775807) :
    Calls Try.prog 23 #[.slice A v.length c, .int .i64 l] w (RetS w (.bool (lt v l))) := by
  have C := isTrue_any A c v l w h hn b0 b1
  clear h
  go_enter Try.func23, Try.ntmps23
  go_wp2_with fail
  refine C.mono ?_; rintro e w' ⟨rfl, rfl⟩
  go_wp2
  go_ret
  exact ⟨rfl, rfl⟩
end Go.Proofs.Ytkdocjcpehmljaa
/- The last variable of a model. -/
namespace Go.Proofs.Ytkdocjcpehmljaa
open Go.RowKit
set_option maxHeartbeats 2000000 in
theorem HeadOf_any (I : Int) (AL AG AO AB AC AN : Option Addr) (cL cG cO cB cC cN : Nat) (L G : List Pr) (O D C : List Int) (N : List Nm) (w : World) (h0 : 0 ≤ I) (h1 : I ≤ 1000000) (h2 : L.length ≤ 1000000) (h3 : G.length ≤ 1000000) :
    Calls Try.prog 48 #[.agg #[.int .i64 I, .slice AL L.length cL, .slice AG G.length cG, .slice AO O.length cO, .slice AB D.length cB, .slice AC C.length cC, .slice AN N.length cN]] w (RetV w (.agg #[.int .i64 (I + L.length + G.length), .int .i64 I, .int .i64 L.length, .int .i64 O.length, .int .i64 G.length, .int .i64 D.length, .int .i64 C.length])) := by
  go_enter Try.func48, Try.ntmps48
  go_wp2
  refine bodyPost_ret (v := .agg #[.int .i64 (I + L.length + G.length), .int .i64 I, .int .i64 L.length, .int .i64 O.length, .int .i64 G.length, .int .i64 D.length, .int .i64 C.length]) ?r rfl ?_
  case r =>
    simp only [results, Try.f48]
    go_simp
  exact ⟨rfl, by repeat (first | exact Below.refl _ _ | refine Below.setCell ?_ (by simp) _ | refine bal ?_ _)⟩
set_option maxRecDepth 100000 in
set_option maxHeartbeats 2000000 in
theorem Vars_any (I : Int) (AL AG AO AB AC AN : Option Addr) (cL cG cO cB cC cN : Nat) (L G : List Pr) (O D C : List Int) (N : List Nm) (w : World) (h0 : 0 ≤ I) (h1 : I ≤ 1000000) (h2 : L.length ≤ 1000000) (h3 : G.length ≤ 1000000) :
    Calls Try.prog 42 #[.agg #[.int .i64 I, .slice AL L.length cL, .slice AG G.length cG, .slice AO O.length cO, .slice AB D.length cB, .slice AC C.length cC, .slice AN N.length cN]] w (RetV w (.int .i64 (I + L.length + G.length))) := by
  have qf : ∀ (a b c d e f g : Int) (w : World), (Instr.field 97 (.agg #[.int .i64 a, .int .i64 b, .int .i64 c, .int .i64 d, .int .i64 e, .int .i64 f, .int .i64 g]) 0).run Try.prog w = .ok (.int .i64 a) w := by intros; kernel_rfl
  have C1 := fun w => HeadOf_any I AL AG AO AB AC AN cL cG cO cB cC cN L G O D C N w h0 h1 h2 h3
  have C1 := Lib.hid C1
  have b1 := bal (Below.refl w.heap.size w) (.cells #[.int .i64 I, .slice AL L.length cL, .slice AG G.length cG, .slice AO O.length cO, .slice AB D.length cB, .slice AC C.length cC, .slice AN N.length cN] 27)
  have C2 := C1.out (w.alloc (.cells #[.int .i64 I, .slice AL L.length cL, .slice AG G.length cG, .slice AO O.length cO, .slice AB D.length cB, .slice AC C.length cC, .slice AN N.length cN] 27))
  clear C1
  go_enter Try.func42, Try.ntmps42
  go_wp2_with fail
  refine C2.mono ?_; rintro e w' ⟨rfl, hb⟩
  go_wp2
  go_ret
  exact ⟨rfl, bnx b1 hb⟩
set_option maxHeartbeats 2000000 in
theorem refVars_any (I : Int) (AL AG AO AB AC AN : Option Addr) (cL cG cO cB cC cN : Nat) (L G : List Pr) (O D C : List Int) (N : List Nm) (w : World) (h0 : 0 ≤ I) (h1 : I ≤ 1000000) (h2 : L.length ≤ 1000000) (h3 : G.length ≤ 1000000) :
    Calls Try.prog 36 #[.agg #[.int .i64 I, .slice AL L.length cL, .slice AG G.length cG, .slice AO O.length cO, .slice AB D.length cB, .slice AC C.length cC, .slice AN N.length cN]] w (RetV w (.int .i64 (I + L.length + G.length))) := by
  have b1 := bal (Below.refl w.heap.size w) (.cells #[.int .i64 I, .slice AL L.length cL, .slice AG G.length cG, .slice AO O.length cO, .slice AB D.length cB, .slice AC C.length cC, .slice AN N.length cN] 27)
  go_enter Try.func36, Try.ntmps36
  go_wp2
  go_ret
  exact ⟨rfl, b1⟩
end Go.Proofs.Ytkdocjcpehmljaa
