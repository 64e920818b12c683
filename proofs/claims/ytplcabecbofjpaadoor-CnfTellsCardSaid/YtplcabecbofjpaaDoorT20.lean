/-
  The reference's Parse: pieces.
-/
import Derived.Test.YtplcabecbofjpaaDoorProg
import Derived.WalkKit
import Derived.WalkSpells
import Derived.WalkLawsBesides
import Derived.Lib.Hide
import Derived.BigQuiet
import Derived.Deep.QuietTactic
import Derived.Deep.RegionWith
import Derived.Deep.RegionHeld3
import Derived.Test.YtplcabecbofjpaaDoorT19
set_option linter.unusedVariables false
namespace Go.Proofs.YtplcabecbofjpaaDoor
open Go.RowKit
/-- 'append(s, c)' of a clause, over a base of one's own; what lies elsewhere is as it was. -/
theorem wpC4 {w : World} {ops : Array Oper} {rest : List Oper} {o : Oper} {a : Act} {Q : Exit → Act → World → Prop} (hgd : o.guard = none) (s x : Operand)
    (ho : o.op = .call { callee := .builtin .append, args := #[s, x], argTypes := #[22, 22] })
    (base : Nat) (v : Value) (L : List (List Int)) (hs : a.eval s = v) (hown : OwnC w base v L) (vc : Value) (c : List Int) (hc : OwnI w base vc c) (H : Nat) (hH : w.heap.size = H) (hx : a.eval x = .slice (some ⟨H, 0, none⟩) 1 1) (hb : base ≤ w.heap.size)
    (hsz : L.length ≤ 3000000000)
    (h : ∀ v' w', OwnC w' base v' (L ++ [c]) → Below base w w' → (∀ p : Addr, p.block < w.heap.size → v.ownBlock ≠ some p.block → w'.cell? p = w.cell? p) → wpList Tryd.prog ops Q rest (a.put o.dst v') w') : wpList Tryd.prog ops Q (o :: rest) a (w.alloc (.cells #[vc] 50)) := by
  subst hH
  obtain ⟨i0, hi0, hz0, hz1, hz2⟩ := info_parts cl_info
  obtain ⟨vs, h1, h2, h3⟩ := hown
  have hbel : Below w.heap.size w (w.alloc (.cells #[vc] 50)) := bal (Below.refl _ _) _
  have h2' := World.ownsRow.alloc h2 (.cells #[vc] 50)
  obtain ⟨A', c', hvc, _⟩ := hc.val
  refine wpList_append_own _ hgd s x 22 ho base 50 i0 (.slice none 0 0) 1 24 Tryd.underlying22 hi0 hz0 hz1 hz2 rfl (by omega) v vs.length vs hs h2' ⟨w.heap.size, 0, none⟩ 1 1 [vc] hx rfl (cell_one_new _ _ _) ?_ (by unfold maxLen; omega) (by omega) (by simp; omega) ?_
  · intro u hu; simp at hu; subst hu; rw [hvc]; rfl
  · intro v' w' hown' hg _
    refine h v' w' ⟨vs ++ [vc], by simp [h1], by simpa using hown', ?_⟩ ?_ ?_
    · intro i hi
      simp only [List.length_append, List.length_cons, List.length_nil] at hi
      by_cases hlt : i < L.length
      · have e1 : (vs ++ [vc]).getD i .nilIface = vs.getD i .nilIface := by
          simp only [List.getD_eq_getElem?_getD]; rw [List.getElem?_append_left (by omega)]
        have e2 : (L ++ [c]).getD i [] = L.getD i [] := by
          simp only [List.getD_eq_getElem?_getD]; rw [List.getElem?_append_left (by omega)]
        rw [e1, e2]
        exact World.ownsRow.kept ((h3 i hlt).old hbel) hg (own_apart ((h3 i hlt).old hbel) h2')
      · obtain rfl : i = L.length := by omega
        have e1 : (vs ++ [vc]).getD L.length .nilIface = vc := by
          simp only [List.getD_eq_getElem?_getD]; rw [List.getElem?_append_right (by omega)]; simp [h1]
        have e2 : (L ++ [c]).getD L.length [] = c := by
          simp only [List.getD_eq_getElem?_getD]; rw [List.getElem?_append_right (by omega)]; simp
        rw [e1, e2]
        exact World.ownsRow.kept (hc.old hbel) hg (own_apart (hc.old hbel) h2')
    · exact ((Below.refl base w).alloc hb _).grown hg (by simp; omega) (fun k hk => ((World.ownsRow.lt h2) k hk).1)
    · intro p hp hne
      rw [World.cell?_of_block (hg.block p.block (by simp; omega) (fun e => hne e.symm))]
      exact hbel.cell hp
theorem OwnC.lt {w : World} {base : Nat} {v : Value} {L : List (List Int)} (h : OwnC w base v L) : ∀ k, v.ownBlock = some k → base ≤ k ∧ k < w.heap.size := by
  obtain ⟨vs, h1, h2, h3⟩ := h
  exact World.ownsRow.lt h2
/-- The world of the reference's Parse: the result's cells, where reading stands, the formula. -/
structure QW (w wr : World) (B : Nat) (A : Option Addr) (n c : Nat) (k bad N : Int) (v : Value) (L : List (List Int)) : Prop where
  bel : Below w.heap.size w wr
  gB : w.heap.size < B
  sz : B + 1 + 1 ≤ wr.heap.size
  r0 : wr.cell? ⟨w.heap.size, 0, none⟩ = some (.int .i64 0) ∧ wr.frozen? ⟨w.heap.size, 0, none⟩ = false
  r1 : wr.cell? ⟨w.heap.size, 1, none⟩ = some (.slice none 0 0) ∧ wr.frozen? ⟨w.heap.size, 1, none⟩ = false
  c0 : wr.cell? ⟨B, 0, none⟩ = some (.slice A n c) ∧ wr.frozen? ⟨B, 0, none⟩ = false
  c1 : wr.cell? ⟨B, 1, none⟩ = some (.int .i64 k) ∧ wr.frozen? ⟨B, 1, none⟩ = false
  c2 : wr.cell? ⟨B, 2, none⟩ = some (.int .i64 bad) ∧ wr.frozen? ⟨B, 2, none⟩ = false
  f0 : wr.cell? ⟨B + 1, 0, none⟩ = some (.int .i64 N) ∧ wr.frozen? ⟨B + 1, 0, none⟩ = false
  f1 : wr.cell? ⟨B + 1, 1, none⟩ = some v ∧ wr.frozen? ⟨B + 1, 1, none⟩ = false
  own : OwnC wr (B + 1 + 1) v L
theorem QW.first {w u : World} (h : Below w.heap.size w u) (hs : w.heap.size < u.heap.size) (r0 : u.cell? ⟨w.heap.size, 0, none⟩ = some (.int .i64 0) ∧ u.frozen? ⟨w.heap.size, 0, none⟩ = false) (r1 : u.cell? ⟨w.heap.size, 1, none⟩ = some (.slice none 0 0) ∧ u.frozen? ⟨w.heap.size, 1, none⟩ = false) (A : Option Addr) (n c : Nat) (k bad N : Int) :
    QW w ((u.alloc (.cells #[.slice A n c, .int .i64 k, .int .i64 bad] 102)).alloc (.cells #[.int .i64 N, .slice none 0 0] 24)) u.heap.size A n c k bad N (.slice none 0 0) [] := by
  have hb := bal (bal (Below.refl u.heap.size u) (.cells #[.slice A n c, .int .i64 k, .int .i64 bad] 102)) (.cells #[.int .i64 N, .slice none 0 0] 24)
  refine ⟨bnx h hb, hs, by simp, ⟨(hb.cell hs).trans r0.1, (hb.frozen hs).trans r0.2⟩, ⟨(hb.cell hs).trans r1.1, (hb.frozen hs).trans r1.2⟩, ⟨?_, ?_⟩, ⟨?_, ?_⟩, ⟨?_, ?_⟩, ⟨?_, ?_⟩, ⟨?_, ?_⟩, OwnC.nil _ _⟩ <;> go_simp
theorem QW.nx {w wr w1 : World} {B : Nat} {A : Option Addr} {n c : Nat} {k bad N : Int} {v : Value} {L : List (List Int)} (h : QW w wr B A n c k bad N v L) (hb : Below wr.heap.size wr w1) : QW w w1 B A n c k bad N v L := by
  have hs := h.sz
  have hg := h.gB
  have a0 := fun (o : Nat) => hb.cell (p := ⟨w.heap.size, o, none⟩) (by simp; omega)
  have b0 := fun (o : Nat) => hb.frozen (p := ⟨w.heap.size, o, none⟩) (by simp; omega)
  have a1 := fun (o : Nat) => hb.cell (p := ⟨B, o, none⟩) (by simp; omega)
  have b1 := fun (o : Nat) => hb.frozen (p := ⟨B, o, none⟩) (by simp; omega)
  have a2 := fun (o : Nat) => hb.cell (p := ⟨B + 1, o, none⟩) (by simp; omega)
  have b2 := fun (o : Nat) => hb.frozen (p := ⟨B + 1, o, none⟩) (by simp; omega)
  exact ⟨bnx h.bel hb, hg, by have := hb.size; omega, ⟨(a0 0).trans h.r0.1, (b0 0).trans h.r0.2⟩, ⟨(a0 1).trans h.r1.1, (b0 1).trans h.r1.2⟩, ⟨(a1 0).trans h.c0.1, (b1 0).trans h.c0.2⟩, ⟨(a1 1).trans h.c1.1, (b1 1).trans h.c1.2⟩, ⟨(a1 2).trans h.c2.1, (b1 2).trans h.c2.2⟩, ⟨(a2 0).trans h.f0.1, (b2 0).trans h.f0.2⟩, ⟨(a2 1).trans h.f1.1, (b2 1).trans h.f1.2⟩, h.own.kept hb⟩
theorem QW.low {w wr w1 : World} {B : Nat} {A : Option Addr} {n c : Nat} {k bad N : Int} {v v1 : Value} {L L1 : List (List Int)} (h : QW w wr B A n c k bad N v L) (hb : Below (B + 1 + 1) wr w1) (ho : OwnC w1 (B + 1 + 1) v1 L1) : QW w (w1.setCell ⟨B + 1, 1, none⟩ v1) B A n c k bad N v1 L1 := by
  have hs := h.sz
  have hg := h.gB
  have a0 := fun (o : Nat) => hb.cell (p := ⟨w.heap.size, o, none⟩) (by simp; omega)
  have b0 := fun (o : Nat) => hb.frozen (p := ⟨w.heap.size, o, none⟩) (by simp; omega)
  have a1 := fun (o : Nat) => hb.cell (p := ⟨B, o, none⟩) (by simp; omega)
  have b1 := fun (o : Nat) => hb.frozen (p := ⟨B, o, none⟩) (by simp; omega)
  have a2 := fun (o : Nat) => hb.cell (p := ⟨B + 1, o, none⟩) (by simp)
  have b2 := fun (o : Nat) => hb.frozen (p := ⟨B + 1, o, none⟩) (by simp)
  have n0 : ∀ o, (⟨B + 1, 1, none⟩ : Addr) ≠ ⟨w.heap.size, o, none⟩ := by intro o e; injection e; omega
  have n1 : ∀ o, (⟨B + 1, 1, none⟩ : Addr) ≠ ⟨B, o, none⟩ := by intro o e; injection e; omega
  refine ⟨(h.bel.trans (hb.mono (by omega))).setCell (by simp; omega) _, hg, by have := hb.size; simp; omega, ⟨?_, ?_⟩, ⟨?_, ?_⟩, ⟨?_, ?_⟩, ⟨?_, ?_⟩, ⟨?_, ?_⟩, ⟨?_, ?_⟩, ⟨?_, ?_⟩, ho.set (by simp) _⟩
  · rw [World.cell?_setCell_other _ _ _ _ (n0 0)]; exact (a0 0).trans h.r0.1
  · simpa using (b0 0).trans h.r0.2
  · rw [World.cell?_setCell_other _ _ _ _ (n0 1)]; exact (a0 1).trans h.r1.1
  · simpa using (b0 1).trans h.r1.2
  · rw [World.cell?_setCell_other _ _ _ _ (n1 0)]; exact (a1 0).trans h.c0.1
  · simpa using (b1 0).trans h.c0.2
  · rw [World.cell?_setCell_other _ _ _ _ (n1 1)]; exact (a1 1).trans h.c1.1
  · simpa using (b1 1).trans h.c1.2
  · rw [World.cell?_setCell_other _ _ _ _ (n1 2)]; exact (a1 2).trans h.c2.1
  · simpa using (b1 2).trans h.c2.2
  · rw [World.cell?_setCell_other _ _ _ _ (by simp)]; exact (a2 0).trans h.f0.1
  · simpa using (b2 0).trans h.f0.2
  · exact World.cell?_setCell_same _ _ _ ((a2 1).trans h.f1.1)
  · simpa using (b2 1).trans h.f1.2
theorem QW.put {w wr : World} {B : Nat} {A : Option Addr} {n c : Nat} {k bad N : Int} {v : Value} {L : List (List Int)} (h : QW w wr B A n c k bad N v L) (k' bad' : Int) : QW w (((wr.setCell ⟨B, 0, none⟩ (.slice A n c)).setCell ⟨B, 1, none⟩ (.int .i64 k')).setCell ⟨B, 2, none⟩ (.int .i64 bad')) B A n c k' bad' N v L := by
  have hs := h.sz
  have hg := h.gB
  have n0 : ∀ o i, (⟨B, i, none⟩ : Addr) ≠ ⟨w.heap.size, o, none⟩ := by intro o i e; injection e; omega
  have n1 : ∀ o i, (⟨B, i, none⟩ : Addr) ≠ ⟨B + 1, o, none⟩ := by intro o i e; injection e; omega
  refine ⟨((h.bel.setCell (by simp; omega) _).setCell (by simp; omega) _).setCell (by simp; omega) _, hg, by simp; omega, ⟨?_, by simpa using h.r0.2⟩, ⟨?_, by simpa using h.r1.2⟩, ⟨?_, by simpa using h.c0.2⟩, ⟨?_, by simpa using h.c1.2⟩, ⟨?_, by simpa using h.c2.2⟩, ⟨?_, by simpa using h.f0.2⟩, ⟨?_, by simpa using h.f1.2⟩, ((h.own.set (by simp; omega) _).set (by simp; omega) _).set (by simp; omega) _⟩
  · rw [World.cell?_setCell_other _ _ _ _ (n0 _ _), World.cell?_setCell_other _ _ _ _ (n0 _ _), World.cell?_setCell_other _ _ _ _ (n0 _ _)]; exact h.r0.1
  · rw [World.cell?_setCell_other _ _ _ _ (n0 _ _), World.cell?_setCell_other _ _ _ _ (n0 _ _), World.cell?_setCell_other _ _ _ _ (n0 _ _)]; exact h.r1.1
  · rw [World.cell?_setCell_other _ _ _ _ (by simp), World.cell?_setCell_other _ _ _ _ (by simp)]
    exact World.cell?_setCell_same _ _ _ h.c0.1
  · rw [World.cell?_setCell_other _ _ _ _ (by simp)]
    exact World.cell?_setCell_same _ _ _ ((World.cell?_setCell_other _ _ _ _ (by simp)).trans h.c1.1)
  · exact World.cell?_setCell_same _ _ _ ((World.cell?_setCell_other _ _ _ _ (by simp)).trans ((World.cell?_setCell_other _ _ _ _ (by simp)).trans h.c2.1))
  · rw [World.cell?_setCell_other _ _ _ _ (n1 _ _), World.cell?_setCell_other _ _ _ _ (n1 _ _), World.cell?_setCell_other _ _ _ _ (n1 _ _)]; exact h.f0.1
  · rw [World.cell?_setCell_other _ _ _ _ (n1 _ _), World.cell?_setCell_other _ _ _ _ (n1 _ _), World.cell?_setCell_other _ _ _ _ (n1 _ _)]; exact h.f1.1
end Go.Proofs.YtplcabecbofjpaaDoor
