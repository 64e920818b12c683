/-
  How things stand in memory while clauses are closed.
-/
import Derived.Test.YtlebagdildpkmaaProg
import Derived.WalkKit
import Derived.WalkSpells
import Derived.WalkLawsBesides
import Derived.Lib.Hide
import Derived.BigQuiet
import Derived.Deep.QuietTactic
import Derived.Deep.RegionWith
import Derived.Deep.RegionHeld3
import Derived.Test.YtlebagdildpkmaaA1
import Derived.Test.YtlebagdildpkmaaK1
set_option linter.unusedVariables false
namespace Go.Proofs.Ytlebagdildpkmaa
open Go.RowKit
/-- Whose a block is. -/
inductive Tag
  | recd | held | rows | forced | row (k : Int) | wait
/-- Where one waits. -/
def ptr (i : Nat) : Value := .pointer (some ⟨i, 0, none⟩)
/-- What waits at block i. -/
def WaitAt (w : World) (B i : Nat) (v : Wt) : Prop :=
  (w.cell? ⟨i, 0, none⟩ = some (.int .i64 v.one) ∧ w.frozen? ⟨i, 0, none⟩ = false) ∧ (w.cell? ⟨i, 1, none⟩ = some (.int .i64 v.two) ∧ w.frozen? ⟨i, 1, none⟩ = false) ∧
    ∃ A c, w.cell? ⟨i, 2, none⟩ = some (.slice A v.rest.length c) ∧ w.frozen? ⟨i, 2, none⟩ = false ∧ RI w B A v.rest ∧ v.rest.length ≤ c ∧ c ≤ maxLen
/-- How things stand in memory while clauses are closed: z is what there was ahead. -/
structure CSx (z : World) (sb hb rb T : Nat) (w : World) (t : Nat → Tag) (vF : Value) (nR : Nat) (vk : Int → Value) (F G : List Int) (R : Int → List Nat) (W : Nat → Wt) (I : List Nat) : Prop where
  bel : Below z.heap.size z w
  ts : t sb = .recd
  th : t hb = .held
  tr : t rb = .rows
  bs : z.heap.size ≤ sb
  bh : z.heap.size ≤ hb
  br : z.heap.size ≤ rb
  c0 : w.cell? ⟨sb, 0, none⟩ = some vF ∧ w.frozen? ⟨sb, 0, none⟩ = false
  c1 : w.cell? ⟨sb, 1, none⟩ = some (.map (some hb))
  c2 : w.cell? ⟨sb, 2, none⟩ = some (.map (some rb))
  oF : OwnI w z.heap.size vF F
  tF : ∀ g, vF.ownBlock = some g → t g = .forced
  mh : MapF w 56 .u64 hb G.length (.int .i64 0) (fun v => .int .i64 (heldF G v))
  mr : MapF w 3 .i64 rb nR (.slice none 0 0) vk
  pot : nR + (I.map (fun i => (W i).rest.length)).sum ≤ T
  oR : ∀ k, w.ownsRow z.heap.size 71 1 (vk k) (R k).length ((R k).map ptr)
  tR : ∀ k g, (vk k).ownBlock = some g → t g = .row k
  wa : ∀ i ∈ I, t i = .wait ∧ z.heap.size ≤ i ∧ WaitAt w z.heap.size i (W i)
  rI : ∀ k, ∀ i ∈ R k, i ∈ I
  rl : ∀ k, (R k).length ≤ nR
def CS (z : World) (sb hb rb T : Nat) (w : World) (vk : Int → Value) (F : List Int) (R : Int → List Nat) (W : Nat → Wt) (I : List Nat) : Prop :=
  ∃ t vF nR, CSx z sb hb rb T w t vF nR vk F F R W I
theorem MapF.congr {w : World} {k : TypeId} {q : IntKind} {b n : Nat} {z : Value} {g g' : Int → Value} (h : MapF w k q b n z g) (e : ∀ x, (Lit.int q x).wf = true → g x = g' x) : MapF w k q b n z g' := by
  obtain ⟨D, h1, h2⟩ := h
  exact ⟨D, h1, fun x hx => by rw [h2 x hx, e x hx]⟩
theorem WaitAt.kept {w w' : World} {B i : Nat} {v : Wt} {row : Option Nat} (h : WaitAt w B i v) (hg : w.grownBy w' row) (hi : some i ≠ row) (hB : ∀ g, row = some g → B ≤ g) : WaitAt w' B i v := by
  obtain ⟨⟨a1, a2⟩, ⟨b1, b2⟩, A, c, c1, c2, c3, c4, c5⟩ := h
  have hlt := World.block_lt_of_cell? w _ a1
  have fz : ∀ o, w'.frozen? ⟨i, o, none⟩ = w.frozen? ⟨i, o, none⟩ := fun o => World.frozen?_of_block (hg.block i hlt hi)
  refine ⟨⟨hg.cell a1 hi, (fz 0).trans a2⟩, ⟨hg.cell b1 hi, (fz 1).trans b2⟩, A, c, hg.cell c1 hi, (fz 2).trans c2, ?_, c4, c5⟩
  intro j hj
  obtain ⟨ad, e, h1, h2⟩ := c3 j hj
  refine ⟨ad, e, h1, hg.cell h2 ?_⟩
  intro e2
  have := hB _ e2.symm
  rw [block_add] at this
  omega
section
variable {z : World} {sb hb rb T : Nat} {w w' : World} {t : Nat → Tag} {vF : Value} {nR : Nat} {vk : Int → Value} {F G : List Int} {R : Int → List Nat} {W : Nat → Wt} {I : List Nat} {row : Option Nat}
theorem below_grown (h : Below z.heap.size z w) (hg : w.grownBy w' row) (hB : ∀ g, row = some g → z.heap.size ≤ g) : Below z.heap.size z w' := h.grown hg h.size hB
theorem CSx.rec' (h : CSx z sb hb rb T w t vF nR vk F G R W I) (hg : w.grownBy w' row) (hn : ∀ g, row = some g → t g ≠ .recd) :
    (w'.cell? ⟨sb, 0, none⟩ = some vF ∧ w'.frozen? ⟨sb, 0, none⟩ = false) ∧ w'.cell? ⟨sb, 1, none⟩ = some (.map (some hb)) ∧ w'.cell? ⟨sb, 2, none⟩ = some (.map (some rb)) := by
  have hne : some sb ≠ row := fun e => hn sb e.symm h.ts
  have hlt := World.block_lt_of_cell? w _ h.c1
  exact ⟨⟨hg.cell h.c0.1 hne, (World.frozen?_of_block (hg.block sb hlt hne)).trans h.c0.2⟩, hg.cell h.c1 hne, hg.cell h.c2 hne⟩
theorem CSx.frc' (h : CSx z sb hb rb T w t vF nR vk F G R W I) (hg : w.grownBy w' row) (hn : ∀ g, row = some g → t g ≠ .forced) : OwnI w' z.heap.size vF F := by
  refine World.ownsRow.kept h.oF hg ?_
  cases hv : vF.ownBlock with
  | none => exact .inl rfl
  | some g => exact .inr (fun e => hn g e.symm (h.tF g hv))
theorem CSx.hld' (h : CSx z sb hb rb T w t vF nR vk F G R W I) (hg : w.grownBy w' row) (hn : ∀ g, row = some g → t g ≠ .held) : MapF w' 56 .u64 hb G.length (.int .i64 0) (fun v => .int .i64 (heldF G v)) :=
  h.mh.kept hg (fun e => hn hb e.symm h.th)
theorem CSx.rws' (h : CSx z sb hb rb T w t vF nR vk F G R W I) (hg : w.grownBy w' row) (hn : ∀ g, row = some g → t g ≠ .rows) : MapF w' 3 .i64 rb nR (.slice none 0 0) vk :=
  h.mr.kept hg (fun e => hn rb e.symm h.tr)
theorem CSx.row' (h : CSx z sb hb rb T w t vF nR vk F G R W I) (hg : w.grownBy w' row) (k : Int) (hn : ∀ g, row = some g → t g ≠ .row k) : w'.ownsRow z.heap.size 71 1 (vk k) (R k).length ((R k).map ptr) := by
  refine World.ownsRow.kept (h.oR k) hg ?_
  cases hv : (vk k).ownBlock with
  | none => exact .inl rfl
  | some g => exact .inr (fun e => hn g e.symm (h.tR k g hv))
theorem CSx.wat' (h : CSx z sb hb rb T w t vF nR vk F G R W I) (hg : w.grownBy w' row) (hB : ∀ g, row = some g → z.heap.size ≤ g) (i : Nat) (hi : i ∈ I) (hn : some i ≠ row) : t i = .wait ∧ z.heap.size ≤ i ∧ WaitAt w' z.heap.size i (W i) := by
  obtain ⟨h1, h2, h3⟩ := h.wa i hi
  exact ⟨h1, h2, h3.kept hg hn hB⟩
theorem CSx.wats' (h : CSx z sb hb rb T w t vF nR vk F G R W I) (hg : w.grownBy w' row) (hB : ∀ g, row = some g → z.heap.size ≤ g) (hn : ∀ g, row = some g → t g ≠ .wait) : ∀ i ∈ I, t i = .wait ∧ z.heap.size ≤ i ∧ WaitAt w' z.heap.size i (W i) :=
  fun i hi => h.wat' hg hB i hi (fun e => hn i e.symm (h.wa i hi).1)
/-- New blocks, and draws, turn nothing. -/
theorem CSx.nx (h : CSx z sb hb rb T w t vF nR vk F G R W I) (hg : w.grownBy w' none) : CSx z sb hb rb T w' t vF nR vk F G R W I := by
  have hn : ∀ τ, ∀ g, (none : Option Nat) = some g → t g ≠ τ := fun _ g e => by cases e
  have hB : ∀ g, (none : Option Nat) = some g → z.heap.size ≤ g := fun g e => by cases e
  obtain ⟨a, b, c⟩ := h.rec' hg (hn _)
  exact ⟨below_grown h.bel hg hB, h.ts, h.th, h.tr, h.bs, h.bh, h.br, a, b, c, h.frc' hg (hn _), h.tF, h.hld' hg (hn _), h.rws' hg (hn _), h.pot, fun k => h.row' hg k (hn _), h.tR, h.wats' hg hB (hn _), h.rI, h.rl⟩
theorem CS.nx (h : CS z sb hb rb T w vk F R W I) (hg : w.grownBy w' none) : CS z sb hb rb T w' vk F R W I := by
  obtain ⟨t, vF, nR, h⟩ := h
  exact ⟨t, vF, nR, h.nx hg⟩
/-- The tags with one anew. -/
def tagPut (t : Nat → Tag) (b : Nat) (v : Tag) : Nat → Tag := fun i => if i = b then v else t i
theorem tagPut_same (t : Nat → Tag) (b : Nat) (v : Tag) : tagPut t b v b = v := by simp [tagPut]
theorem tagPut_other {t : Nat → Tag} {b i : Nat} {v : Tag} (h : i ≠ b) : tagPut t b v i = t i := by simp [tagPut, h]
theorem CSx.lts (h : CSx z sb hb rb T w t vF nR vk F G R W I) : sb < w.heap.size ∧ hb < w.heap.size ∧ rb < w.heap.size :=
  ⟨World.block_lt_of_cell? w _ h.c1, h.mh.lt, h.mr.lt⟩
/-- A block that wasn't there may be anybody's. -/
theorem CSx.retag (h : CSx z sb hb rb T w t vF nR vk F G R W I) (b : Nat) (hb' : w.heap.size ≤ b) (τ : Tag) : CSx z sb hb rb T w (tagPut t b τ) vF nR vk F G R W I := by
  obtain ⟨l1, l2, l3⟩ := h.lts
  have o : ∀ i, i < w.heap.size → tagPut t b τ i = t i := fun i hi => tagPut_other (by omega)
  refine ⟨h.bel, (o _ l1).trans h.ts, (o _ l2).trans h.th, (o _ l3).trans h.tr, h.bs, h.bh, h.br, h.c0, h.c1, h.c2, h.oF, ?_, h.mh, h.mr, h.pot, h.oR, ?_, ?_, h.rI, h.rl⟩
  · intro g hg
    rw [o g (World.ownsRow.lt h.oF g hg).2]; exact h.tF g hg
  · intro k g hg
    rw [o g (World.ownsRow.lt (h.oR k) g hg).2]; exact h.tR k g hg
  · intro i hi
    obtain ⟨a, b, c⟩ := h.wa i hi
    exact ⟨by rw [o i (World.block_lt_of_cell? w _ c.1.1)]; exact a, b, c⟩
end
theorem u64_min : IntKind.u64.min = 0 := by decide
theorem u64_max : IntKind.u64.max = 18446744073709551615 := by decide
theorem i64_min : IntKind.i64.min = -9223372036854775808 := by decide
theorem i64_max : IntKind.i64.max = 9223372036854775807 := by decide
theorem wf_u64 {v : Int} (h : (Lit.int .u64 v).wf = true) : 0 ≤ v := by
  simp [Lit.wf, u64_min] at h
  exact h.1
theorem wf_u64_mk {v : Int} (h0 : 0 ≤ v) (h1 : v ≤ 4611686018427387904) : (Lit.int .u64 v).wf = true := by
  simp [Lit.wf, u64_min, u64_max]
  omega
theorem wf_i64_mk {v : Int} (h0 : -4611686018427387904 ≤ v) (h1 : v ≤ 4611686018427387904) : (Lit.int .i64 v).wf = true := by
  simp only [Lit.wf, i64_min, i64_max, Bool.and_eq_true, decide_eq_true_eq]
  omega
end Go.Proofs.Ytlebagdildpkmaa
