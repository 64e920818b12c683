/-
  The reference's ParseModel: pieces.
-/
import Derived.Test.YtplcabecbofjpaaDoorProg
import Derived.WalkKit
import Derived.WalkSpells
import Derived.WalkLawsBesides
import Derived.Lib.Hide
import Derived.BigQuiet
import Derived.Deep.QuietTactic
import Derived.Deep.RegionWith
import Derived.Deep.RegionHeld3
import Derived.Test.YtplcabecbofjpaaDoorT9
set_option linter.unusedVariables false
namespace Go.Proofs.YtplcabecbofjpaaDoor
open Go.RowKit
/-- What is left of parsing a model, at place k, r variables to come, the next of them v. -/
def gM (l : List UInt8) (k r v : Nat) (M : List Bool) : List Bool × Nat × Int :=
  if (rdVals r v (l.drop k) M).2.2 ≠ 0 then ([], k + (rdVals r v (l.drop k) M).2.1, 2)
  else if bS (l.drop (k + (rdVals r v (l.drop k) M).2.1)) [48, 10] = false then ([], k + (rdVals r v (l.drop k) M).2.1, 2)
  else if k + (rdVals r v (l.drop k) M).2.1 + 2 < l.length then ([], k + (rdVals r v (l.drop k) M).2.1 + 2, 2)
  else ((rdVals r v (l.drop k) M).1, k + (rdVals r v (l.drop k) M).2.1 + 2, 0)
theorem gM_first (l : List UInt8) (n : Nat) : parseM l n = if bS l [118, 32] = false then ([], 0, 2) else gM l 2 n 1 [] := rfl
theorem gM_zero (l : List UInt8) (k v : Nat) (M : List Bool) : gM l k 0 v M = if bS (l.drop k) [48, 10] = false then ([], k, 2) else if k + 2 < l.length then ([], k + 2, 2) else (M, k + 2, 0) := by
  have e : rdVals 0 v (l.drop k) M = (M, 0, 0) := rfl
  unfold gM
  rw [e, if_neg (by simp)]
  rfl
theorem gM_yes (l : List UInt8) (k r v a : Nat) (M : List Bool) (ha : a = if bS (l.drop k) [45] then 1 else 0) (h : bS (l.drop (k + a)) (litS v) = true) :
    gM l k (r + 1) v M = gM l (k + a + (litS v).length) r (v + 1) (M ++ [!bS (l.drop k) [45]]) := by
  have hr : rdVal (l.drop k) v = (!bS (l.drop k) [45], a + (litS v).length, 0) := by
    unfold rdVal
    rw [← ha, List.drop_drop, if_pos h]
  have e : rdVals (r + 1) v (l.drop k) M = ((rdVals r (v + 1) (l.drop (k + a + (litS v).length)) (M ++ [!bS (l.drop k) [45]])).1, a + (litS v).length + (rdVals r (v + 1) (l.drop (k + a + (litS v).length)) (M ++ [!bS (l.drop k) [45]])).2.1, (rdVals r (v + 1) (l.drop (k + a + (litS v).length)) (M ++ [!bS (l.drop k) [45]])).2.2) := by
    rw [rdVals, hr, if_neg (by simp)]
    simp only [List.drop_drop, Nat.add_assoc]
  unfold gM
  rw [e]
  generalize rdVals r (v + 1) (l.drop (k + a + (litS v).length)) (M ++ [!bS (l.drop k) [45]]) = q
  simp only [← Nat.add_assoc]
theorem gM_no (l : List UInt8) (k r v a : Nat) (M : List Bool) (ha : a = if bS (l.drop k) [45] then 1 else 0) (h : bS (l.drop (k + a)) (litS v) = false) :
    gM l k (r + 1) v M = ([], k + a, 2) := by
  have hr : rdVal (l.drop k) v = (!bS (l.drop k) [45], a, 2) := by
    unfold rdVal
    rw [← ha, List.drop_drop, if_neg (by simp [h])]
  have e : rdVals (r + 1) v (l.drop k) M = ([], a, 2) := by rw [rdVals, hr, if_pos (by simp)]
  unfold gM
  rw [e, if_pos (by simp)]
/-- Where reading stands, in a variable, and flags of the call's own. -/
structure AW (w wr : World) (A : Option Addr) (n c : Nat) (k bad : Int) (v : Value) (M : List Bool) : Prop where
  bel : Below w.heap.size w wr
  sz : w.heap.size + 1 ≤ wr.heap.size
  c0 : wr.cell? ⟨w.heap.size, 0, none⟩ = some (.slice A n c) ∧ wr.frozen? ⟨w.heap.size, 0, none⟩ = false
  c1 : wr.cell? ⟨w.heap.size, 1, none⟩ = some (.int .i64 k) ∧ wr.frozen? ⟨w.heap.size, 1, none⟩ = false
  c2 : wr.cell? ⟨w.heap.size, 2, none⟩ = some (.int .i64 bad) ∧ wr.frozen? ⟨w.heap.size, 2, none⟩ = false
  own : OwnB wr (w.heap.size + 1) v M
theorem AW.first (w : World) (A : Option Addr) (n c : Nat) (k bad : Int) : AW w (w.alloc (.cells #[.slice A n c, .int .i64 k, .int .i64 bad] 102)) A n c k bad (.slice none 0 0) [] := by
  refine ⟨bal (Below.refl _ _) _, by simp, ⟨?_, ?_⟩, ⟨?_, ?_⟩, ⟨?_, ?_⟩, OwnB.nil _ _⟩ <;> go_simp
theorem AW.nx {w wr w1 : World} {A : Option Addr} {n c : Nat} {k bad : Int} {v : Value} {M : List Bool} (h : AW w wr A n c k bad v M) (hb : Below wr.heap.size wr w1) : AW w w1 A n c k bad v M := by
  have hs := h.sz
  have e1 := fun (o : Nat) => hb.cell (p := ⟨w.heap.size, o, none⟩) (by simp; omega)
  have e2 := fun (o : Nat) => hb.frozen (p := ⟨w.heap.size, o, none⟩) (by simp; omega)
  exact ⟨h.bel.trans (hb.mono (by omega)), by have := hb.size; omega, ⟨(e1 0).trans h.c0.1, (e2 0).trans h.c0.2⟩, ⟨(e1 1).trans h.c1.1, (e2 1).trans h.c1.2⟩, ⟨(e1 2).trans h.c2.1, (e2 2).trans h.c2.2⟩, h.own.old hb⟩
theorem AW.low {w wr w1 : World} {A : Option Addr} {n c : Nat} {k bad : Int} {v v1 : Value} {M M1 : List Bool} (h : AW w wr A n c k bad v M) (hb : Below (w.heap.size + 1) wr w1) (ho : OwnB w1 (w.heap.size + 1) v1 M1) : AW w w1 A n c k bad v1 M1 := by
  have hs := h.sz
  have e1 := fun (o : Nat) => hb.cell (p := ⟨w.heap.size, o, none⟩) (by simp)
  have e2 := fun (o : Nat) => hb.frozen (p := ⟨w.heap.size, o, none⟩) (by simp)
  exact ⟨h.bel.trans (hb.mono (by omega)), by have := hb.size; omega, ⟨(e1 0).trans h.c0.1, (e2 0).trans h.c0.2⟩, ⟨(e1 1).trans h.c1.1, (e2 1).trans h.c1.2⟩, ⟨(e1 2).trans h.c2.1, (e2 2).trans h.c2.2⟩, ho⟩
theorem AW.put {w wr : World} {A : Option Addr} {n c : Nat} {k bad : Int} {v : Value} {M : List Bool} (h : AW w wr A n c k bad v M) (k' bad' : Int) : AW w (((wr.setCell ⟨w.heap.size, 0, none⟩ (.slice A n c)).setCell ⟨w.heap.size, 1, none⟩ (.int .i64 k')).setCell ⟨w.heap.size, 2, none⟩ (.int .i64 bad')) A n c k' bad' v M := by
  refine ⟨((h.bel.setCell (by simp) _).setCell (by simp) _).setCell (by simp) _, by have := h.sz; simp; omega, ⟨?_, by simpa using h.c0.2⟩, ⟨?_, by simpa using h.c1.2⟩, ⟨?_, by simpa using h.c2.2⟩, ownsRow_setCell_below (ownsRow_setCell_below (ownsRow_setCell_below h.own (by simp) _) (by simp) _) (by simp) _⟩
  · rw [World.cell?_setCell_other _ _ _ _ (by simp), World.cell?_setCell_other _ _ _ _ (by simp)]
    exact World.cell?_setCell_same _ _ _ h.c0.1
  · rw [World.cell?_setCell_other _ _ _ _ (by simp)]
    exact World.cell?_setCell_same _ _ _ ((World.cell?_setCell_other _ _ _ _ (by simp)).trans h.c1.1)
  · exact World.cell?_setCell_same _ _ _ ((World.cell?_setCell_other _ _ _ _ (by simp)).trans ((World.cell?_setCell_other _ _ _ _ (by simp)).trans h.c2.1))
/-- 'append(s, b)', over a base of one's own. -/
theorem wpB2 {w : World} {ops : Array Oper} {rest : List Oper} {o : Oper} {a : Act} {Q : Exit → Act → World → Prop} (hgd : o.guard = none) (s x : Operand)
    (ho : o.op = .call { callee := .builtin .append, args := #[s, x], argTypes := #[40, 40] })
    (base : Nat) (v : Value) (l : List Bool) (hs : a.eval s = v) (hown : OwnB w base v l) (y : Bool) (hx : a.eval x = .slice (some ⟨w.heap.size, 0, none⟩) 1 1) (hb : base ≤ w.heap.size)
    (hsz : l.length ≤ 3000000000)
    (h : ∀ v' w', OwnB w' base v' (l ++ [y]) → Below base w w' → wpList Tryd.prog ops Q rest (a.put o.dst v') w') : wpList Tryd.prog ops Q (o :: rest) a (w.alloc (.cells #[.bool y] 4)) := by
  obtain ⟨i0, hi0, hz0, hz1, hz2⟩ := info_parts bool_info
  refine wpList_append_own _ hgd s x 40 ho base 4 i0 (.bool false) 1 1 Tryd.underlying40 hi0 hz0 hz1 hz2 rfl (by omega) v l.length (l.map Value.bool) hs (World.ownsRow.alloc hown _) ⟨w.heap.size, 0, none⟩ 1 1 [.bool y] hx rfl (cell_one_new _ _ _) ?_ (by unfold maxLen; omega) (by omega) (by simp; omega) ?_
  · intro u hu; simp at hu; subst hu; rfl
  · intro v' w' hown' hg _
    refine h v' w' ?_ (((Below.refl base w).alloc hb _).grown hg (by simp; omega) (fun k hk => ((World.ownsRow.lt hown) k hk).1))
    unfold OwnB
    simpa using hown'
end Go.Proofs.YtplcabecbofjpaaDoor
