/-
  The reference's Lits: pieces.
-/
import Derived.Test.YtplcabecbofjpaaDoorProg
import Derived.WalkKit
import Derived.WalkSpells
import Derived.WalkLawsBesides
import Derived.Lib.Hide
import Derived.BigQuiet
import Derived.Deep.QuietTactic
import Derived.Deep.RegionWith
import Derived.Deep.RegionHeld3
import Derived.Test.YtplcabecbofjpaaDoorT16
set_option linter.unusedVariables false
namespace Go.Proofs.YtplcabecbofjpaaDoor
open Go.RowKit
/-- 'append(s, x)' over a base of one's own; what lies elsewhere is as it was. -/
theorem wpI4 {w : World} {ops : Array Oper} {rest : List Oper} {o : Oper} {a : Act} {Q : Exit → Act → World → Prop} (hgd : o.guard = none) (s x : Operand)
    (ho : o.op = .call { callee := .builtin .append, args := #[s, x], argTypes := #[50, 50] })
    (base : Nat) (v : Value) (l : List Int) (hs : a.eval s = v) (hown : OwnI w base v l) (y : Int) (H : Nat) (hH : w.heap.size = H) (hx : a.eval x = .slice (some ⟨H, 0, none⟩) 1 1) (hb : base ≤ w.heap.size)
    (hsz : l.length ≤ 100000)
    (h : ∀ v' w', OwnI w' base v' (l ++ [y]) → Below base w w' → (∀ p : Addr, p.block < w.heap.size → v.ownBlock ≠ some p.block → w'.cell? p = w.cell? p) → wpList Tryd.prog ops Q rest (a.put o.dst v') w') : wpList Tryd.prog ops Q (o :: rest) a (w.alloc (.cells #[.int .i64 y] 3)) := by
  subst hH
  obtain ⟨i0, hi0, hz0, hz1, hz2⟩ := info_parts int_info
  refine wpList_append_own _ hgd s x 50 ho base 3 i0 (.int .i64 0) 1 8 Tryd.underlying50 hi0 hz0 hz1 hz2 rfl (by omega) v l.length (l.map (Value.int .i64)) hs (World.ownsRow.alloc hown _) ⟨w.heap.size, 0, none⟩ 1 1 [.int .i64 y] hx rfl (cell_one_new _ _ _) ?_ (by unfold maxLen; omega) (by omega) (by simp; omega) ?_
  · intro u hu; simp at hu; subst hu; rfl
  · intro v' w' hown' hg _
    refine h v' w' ?_ (((Below.refl base w).alloc hb _).grown hg (by simp; omega) (fun k hk => ((World.ownsRow.lt hown) k hk).1)) ?_
    · unfold OwnI
      simpa using hown'
    · intro p hp hne
      rw [World.cell?_of_block (hg.block p.block (by simp; omega) (fun e => hne e.symm))]
      exact (bal (Below.refl w.heap.size w) (.cells #[.int .i64 y] 3)).cell hp
/-- Where reading stands, in a variable; the result's cell; numbers of the call's own. -/
structure AL (w wr : World) (A : Option Addr) (n c : Nat) (k bad : Int) (v : Value) (M : List Int) : Prop where
  bel : Below w.heap.size w wr
  sz : w.heap.size + 1 + 1 ≤ wr.heap.size
  c0 : wr.cell? ⟨w.heap.size, 0, none⟩ = some (.slice A n c) ∧ wr.frozen? ⟨w.heap.size, 0, none⟩ = false
  c1 : wr.cell? ⟨w.heap.size, 1, none⟩ = some (.int .i64 k) ∧ wr.frozen? ⟨w.heap.size, 1, none⟩ = false
  c2 : wr.cell? ⟨w.heap.size, 2, none⟩ = some (.int .i64 bad) ∧ wr.frozen? ⟨w.heap.size, 2, none⟩ = false
  r0 : wr.cell? ⟨w.heap.size + 1, 0, none⟩ = some (.slice none 0 0) ∧ wr.frozen? ⟨w.heap.size + 1, 0, none⟩ = false
  r1 : wr.cell? ⟨w.heap.size + 1, 1, none⟩ = some (.int .i64 0) ∧ wr.frozen? ⟨w.heap.size + 1, 1, none⟩ = false
  r2 : wr.cell? ⟨w.heap.size + 1, 2, none⟩ = some (.int .i64 0) ∧ wr.frozen? ⟨w.heap.size + 1, 2, none⟩ = false
  own : OwnI wr (w.heap.size + 1 + 1) v M
theorem AL.first (w : World) (A : Option Addr) (n c : Nat) (k bad : Int) : AL w ((w.alloc (.cells #[.slice A n c, .int .i64 k, .int .i64 bad] 102)).alloc (.cells #[.slice none 0 0, .int .i64 0, .int .i64 0] 102)) A n c k bad (.slice none 0 0) [] := by
  refine ⟨bal (bal (Below.refl _ _) _) _, by simp, ⟨?_, ?_⟩, ⟨?_, ?_⟩, ⟨?_, ?_⟩, ⟨?_, ?_⟩, ⟨?_, ?_⟩, ⟨?_, ?_⟩, OwnI.nil _ _⟩ <;> go_simp
theorem AL.kept {w wr w1 : World} {A : Option Addr} {n c : Nat} {k bad : Int} {v v1 : Value} {M M1 : List Int} (h : AL w wr A n c k bad v M) (hb : Below (w.heap.size + 1 + 1) wr w1) (ho : OwnI w1 (w.heap.size + 1 + 1) v1 M1) : AL w w1 A n c k bad v1 M1 := by
  have hs := h.sz
  have e1 := fun (o : Nat) => hb.cell (p := ⟨w.heap.size, o, none⟩) (by simp; omega)
  have e2 := fun (o : Nat) => hb.frozen (p := ⟨w.heap.size, o, none⟩) (by simp; omega)
  have g1 := fun (o : Nat) => hb.cell (p := ⟨w.heap.size + 1, o, none⟩) (by simp)
  have g2 := fun (o : Nat) => hb.frozen (p := ⟨w.heap.size + 1, o, none⟩) (by simp)
  exact ⟨h.bel.trans (hb.mono (by omega)), by have := hb.size; omega, ⟨(e1 0).trans h.c0.1, (e2 0).trans h.c0.2⟩, ⟨(e1 1).trans h.c1.1, (e2 1).trans h.c1.2⟩, ⟨(e1 2).trans h.c2.1, (e2 2).trans h.c2.2⟩, ⟨(g1 0).trans h.r0.1, (g2 0).trans h.r0.2⟩, ⟨(g1 1).trans h.r1.1, (g2 1).trans h.r1.2⟩, ⟨(g1 2).trans h.r2.1, (g2 2).trans h.r2.2⟩, ho⟩
theorem AL.nx {w wr w1 : World} {A : Option Addr} {n c : Nat} {k bad : Int} {v : Value} {M : List Int} (h : AL w wr A n c k bad v M) (hb : Below wr.heap.size wr w1) : AL w w1 A n c k bad v M :=
  h.kept (hb.mono h.sz) (h.own.old hb)
theorem AL.put {w wr : World} {A : Option Addr} {n c : Nat} {k bad : Int} {v : Value} {M : List Int} (h : AL w wr A n c k bad v M) (k' bad' : Int) : AL w (((wr.setCell ⟨w.heap.size, 0, none⟩ (.slice A n c)).setCell ⟨w.heap.size, 1, none⟩ (.int .i64 k')).setCell ⟨w.heap.size, 2, none⟩ (.int .i64 bad')) A n c k' bad' v M := by
  refine ⟨((h.bel.setCell (by simp) _).setCell (by simp) _).setCell (by simp) _, by have := h.sz; simp; omega, ⟨?_, by simpa using h.c0.2⟩, ⟨?_, by simpa using h.c1.2⟩, ⟨?_, by simpa using h.c2.2⟩, ⟨?_, by simpa using h.r0.2⟩, ⟨?_, by simpa using h.r1.2⟩, ⟨?_, by simpa using h.r2.2⟩, ownsRow_setCell_below (ownsRow_setCell_below (ownsRow_setCell_below h.own (by simp; omega) _) (by simp; omega) _) (by simp; omega) _⟩
  · rw [World.cell?_setCell_other _ _ _ _ (by simp), World.cell?_setCell_other _ _ _ _ (by simp)]
    exact World.cell?_setCell_same _ _ _ h.c0.1
  · rw [World.cell?_setCell_other _ _ _ _ (by simp)]
    exact World.cell?_setCell_same _ _ _ ((World.cell?_setCell_other _ _ _ _ (by simp)).trans h.c1.1)
  · exact World.cell?_setCell_same _ _ _ ((World.cell?_setCell_other _ _ _ _ (by simp)).trans ((World.cell?_setCell_other _ _ _ _ (by simp)).trans h.c2.1))
  all_goals rw [World.cell?_setCell_other _ _ _ _ (by simp), World.cell?_setCell_other _ _ _ _ (by simp), World.cell?_setCell_other _ _ _ _ (by simp)]
  · exact h.r0.1
  · exact h.r1.1
  · exact h.r2.1
/-- The place in the variable. -/
def kOf (w : World) (b : Nat) : Nat := match w.cell? ⟨b, 1, none⟩ with | some v => (intOf v).toNat | none => 0
theorem AL.kOf {w wr : World} {A : Option Addr} {n c k : Nat} {bad : Int} {v : Value} {M : List Int} (h : AL w wr A n c k bad v M) : YtplcabecbofjpaaDoor.kOf wr w.heap.size = k := by
  unfold YtplcabecbofjpaaDoor.kOf; rw [h.c1.1]; simp [intOf]
theorem signed_pos {t : List UInt8} {most : Int} (h : (signedS t most).2.2 = 0) : 1 ≤ (signedS t most).2.1 := by
  obtain ⟨_, _, _, e⟩ := signed_back h
  rw [e]
  generalize (signedS t most).1 = x
  by_cases hx : 0 ≤ x
  · obtain ⟨u, rfl⟩ := Int.eq_ofNat_of_zero_le hx
    rw [itoa_nn]
    exact List.length_pos_iff.2 (figs_ne u)
  · obtain ⟨u, hu⟩ := Int.eq_ofNat_of_zero_le (show 0 ≤ -x by omega)
    obtain rfl : x = -(u : Int) := by omega
    rw [itoa_ng u (by omega)]
    simp
end Go.Proofs.YtplcabecbofjpaaDoor
