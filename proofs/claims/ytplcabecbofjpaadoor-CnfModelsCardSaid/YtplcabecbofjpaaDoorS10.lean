/-
  Rows of clauses; cnf.Parse as a plain function.
-/
import Derived.Test.YtplcabecbofjpaaDoorProg
import Derived.WalkKit
import Derived.WalkSpells
import Derived.WalkLawsBesides
import Derived.Lib.Hide
import Derived.BigQuiet
import Derived.Deep.QuietTactic
import Derived.Deep.RegionWith
import Derived.Deep.RegionHeld3
import Derived.Test.YtplcabecbofjpaaDoorS9
set_option linter.unusedVariables false
namespace Go.Proofs.YtplcabecbofjpaaDoor
open Go.RowKit
theorem cl_info : (Tryd.prog.info? 50).map (fun i => (i.zero, i.size, i.bytes)) = some (some (.slice none 0 0), 1, 24) := by kernel_rfl
/-- A row of clauses that a call made for itself. -/
def OwnC (w : World) (base : Nat) (v : Value) (L : List (List Int)) : Prop :=
  ∃ vs : List Value, vs.length = L.length ∧ w.ownsRow base 50 1 v vs.length vs ∧ ∀ i, i < L.length → OwnI w base (vs.getD i .nilIface) (L.getD i [])
theorem OwnC.nil (w : World) (base : Nat) : OwnC w base (.slice none 0 0) [] := ⟨[], rfl, World.ownsRow_nil _ _ _ _, fun i hi => absurd hi (by simp)⟩
theorem own_apart {w : World} {base : Nat} {u v : Value} {n m : Nat} {xs ys : List Value} (h : w.ownsRow base 3 1 u n xs) (h' : w.ownsRow base 50 1 v m ys) : u.ownBlock = none ∨ u.ownBlock ≠ v.ownBlock := by
  rcases h.2 with ⟨rfl, _⟩ | ⟨g, cap, cur, rfl, _, hh, _⟩
  · exact .inl rfl
  · refine .inr ?_
    rcases h'.2 with ⟨rfl, _⟩ | ⟨g', cap', cur', rfl, _, hh', _⟩
    · simp [Value.ownBlock]
    · intro e
      have : g = g' := by simpa [Value.ownBlock] using e
      subst this
      rw [hh] at hh'
      injection hh' with h1
      injection h1 with h2 h3
      exact absurd h3 (by decide)
theorem OwnC.kept {w w' : World} {base : Nat} {v : Value} {L : List (List Int)} (h : OwnC w base v L) (hb : Below w.heap.size w w') : OwnC w' base v L := by
  obtain ⟨vs, h1, h2, h3⟩ := h
  refine ⟨vs, h1, World.ownsRow.kept h2 (row := none) ⟨hb.os, hb.tape, hb.output, hb.size, fun k hk _ => hb.block k hk⟩ ?_, fun i hi => (h3 i hi).old hb⟩
  cases hv : v.ownBlock with
  | none => exact .inl rfl
  | some k => exact .inr (by simp)
theorem OwnC.set {w : World} {base : Nat} {v : Value} {L : List (List Int)} (h : OwnC w base v L) {a : Addr} (ha : a.block < base) (u : Value) : OwnC (w.setCell a u) base v L := by
  obtain ⟨vs, h1, h2, h3⟩ := h
  exact ⟨vs, h1, ownsRow_setCell_below h2 ha u, fun i hi => ownsRow_setCell_below (h3 i hi) ha u⟩
theorem OwnC.val {w : World} {base : Nat} {v : Value} {L : List (List Int)} (h : OwnC w base v L) : ∃ (A : Option Addr) (c : Nat), v = .slice A L.length c ∧ RC w w.heap.size A L ∧ (A = none → c = 0) := by
  obtain ⟨vs, h1, h2, h3⟩ := h
  rcases h2.2 with ⟨rfl, h0⟩ | ⟨g, cap, cur, rfl, hg, hh, k1, k2, k3, k4⟩
  · have : L = [] := List.eq_nil_of_length_eq_zero (by omega)
    subst this
    exact ⟨none, 0, rfl, fun i hi => absurd hi (by simp), fun _ => rfl⟩
  · refine ⟨some ⟨g, 0, none⟩, cap, by rw [h1], fun i hi => ?_, fun e => by cases e⟩
    obtain ⟨A', c', hv, hr, _, hc1, hc2⟩ := (h3 i hi).val
    refine ⟨_, A', c', rfl, (World.ownsRow.lt h2 g rfl).2, ?_, hr, by omega⟩
    rw [add_loc, World.ownsRow.cellAt h2 i (by omega), ← hv]
    have : i < vs.length := by omega
    simp [List.getD_eq_getElem?_getD, this]
theorem OwnC.len {w : World} {base : Nat} {A : Option Addr} {n c : Nat} {L : List (List Int)} (h : OwnC w base (.slice A n c) L) : n = L.length := by
  obtain ⟨A', c', e, _⟩ := h.val
  injection e with e1 e2 e3
/-- 'append(s, c)' of a clause. -/
theorem wpC1 {w : World} {ops : Array Oper} {rest : List Oper} {o : Oper} {a : Act} {Q : Exit → Act → World → Prop} (hgd : o.guard = none) (s x : Operand)
    (ho : o.op = .call { callee := .builtin .append, args := #[s, x], argTypes := #[22, 22] })
    (base : Nat) (v : Value) (L : List (List Int)) (hs : a.eval s = v) (hown : OwnC w base v L) (vc : Value) (c : List Int) (hc : OwnI w base vc c) (hx : a.eval x = .slice (some ⟨w.heap.size, 0, none⟩) 1 1) (hb : base ≤ w.heap.size)
    (hsz : L.length ≤ 3000000000)
    (h : ∀ v' w', OwnC w' base v' (L ++ [c]) → Below base w w' → wpList Tryd.prog ops Q rest (a.put o.dst v') w') : wpList Tryd.prog ops Q (o :: rest) a (w.alloc (.cells #[vc] 50)) := by
  obtain ⟨i0, hi0, hz0, hz1, hz2⟩ := info_parts cl_info
  obtain ⟨vs, h1, h2, h3⟩ := hown
  have hbel : Below w.heap.size w (w.alloc (.cells #[vc] 50)) := bal (Below.refl _ _) _
  have h2' := World.ownsRow.alloc h2 (.cells #[vc] 50)
  obtain ⟨A', c', hvc, _⟩ := hc.val
  refine wpList_append_own _ hgd s x 22 ho base 50 i0 (.slice none 0 0) 1 24 Tryd.underlying22 hi0 hz0 hz1 hz2 rfl (by omega) v vs.length vs hs h2' ⟨w.heap.size, 0, none⟩ 1 1 [vc] hx rfl (cell_one_new _ _ _) ?_ (by unfold maxLen; omega) (by omega) (by simp; omega) ?_
  · intro u hu; simp at hu; subst hu; rw [hvc]; rfl
  · intro v' w' hown' hg _
    refine h v' w' ⟨vs ++ [vc], by simp [h1], by simpa using hown', ?_⟩ ?_
    · intro i hi
      simp only [List.length_append, List.length_cons, List.length_nil] at hi
      by_cases hlt : i < L.length
      · have e1 : (vs ++ [vc]).getD i .nilIface = vs.getD i .nilIface := by
          simp only [List.getD_eq_getElem?_getD]; rw [List.getElem?_append_left (by omega)]
        have e2 : (L ++ [c]).getD i [] = L.getD i [] := by
          simp only [List.getD_eq_getElem?_getD]; rw [List.getElem?_append_left (by omega)]
        rw [e1, e2]
        exact World.ownsRow.kept ((h3 i hlt).old hbel) hg (own_apart ((h3 i hlt).old hbel) h2')
      · obtain rfl : i = L.length := by omega
        have e1 : (vs ++ [vc]).getD L.length .nilIface = vc := by
          simp only [List.getD_eq_getElem?_getD]; rw [List.getElem?_append_right (by omega)]; simp [h1]
        have e2 : (L ++ [c]).getD L.length [] = c := by
          simp only [List.getD_eq_getElem?_getD]; rw [List.getElem?_append_right (by omega)]; simp
        rw [e1, e2]
        exact World.ownsRow.kept (hc.old hbel) hg (own_apart (hc.old hbel) h2')
    · exact ((Below.refl base w).alloc hb _).grown hg (by simp; omega) (fun k hk => ((World.ownsRow.lt h2) k hk).1)
/-- The clauses' lines at the head of t. -/
def rdCls (n : Int) : Nat → List UInt8 → List (List Int) → List (List Int) × Nat × Int
  | 0, t, L => (L, 0, 0)
  | m + 1, t, L => if (rdCl n t []).2.2 ≠ 0 then ([], (rdCl n t []).2.1, (rdCl n t []).2.2)
    else ((rdCls n m (t.drop (rdCl n t []).2.1) (L ++ [(rdCl n t []).1])).1, (rdCl n t []).2.1 + (rdCls n m (t.drop (rdCl n t []).2.1) (L ++ [(rdCl n t []).1])).2.1, (rdCls n m (t.drop (rdCl n t []).2.1) (L ++ [(rdCl n t []).1])).2.2)
/-- A text's formula, how far, what is wrong. -/
def parseS (l : List UInt8) : (Int × List (List Int)) × Nat × Int :=
  if 100000 < l.length then ((0, []), 0, 3)
  else if (rdHead l).2.2.2 ≠ 0 then ((0, []), (rdHead l).2.2.1, (rdHead l).2.2.2)
  else if (rdCls (rdHead l).1 (rdHead l).2.1.toNat (l.drop (rdHead l).2.2.1) []).2.2 ≠ 0 then ((0, []), (rdHead l).2.2.1 + (rdCls (rdHead l).1 (rdHead l).2.1.toNat (l.drop (rdHead l).2.2.1) []).2.1, (rdCls (rdHead l).1 (rdHead l).2.1.toNat (l.drop (rdHead l).2.2.1) []).2.2)
  else if (rdHead l).2.2.1 + (rdCls (rdHead l).1 (rdHead l).2.1.toNat (l.drop (rdHead l).2.2.1) []).2.1 < l.length then ((0, []), (rdHead l).2.2.1 + (rdCls (rdHead l).1 (rdHead l).2.1.toNat (l.drop (rdHead l).2.2.1) []).2.1, 2)
  else (((rdHead l).1, (rdCls (rdHead l).1 (rdHead l).2.1.toNat (l.drop (rdHead l).2.2.1) []).1), (rdHead l).2.2.1 + (rdCls (rdHead l).1 (rdHead l).2.1.toNat (l.drop (rdHead l).2.2.1) []).2.1, 0)
theorem rdCl_len (n : Int) : ∀ (f : Nat) (t : List UInt8) (c : List Int), t.length ≤ f → (rdCl n t c).2.1 ≤ t.length := by
  intro f
  induction f with
  | zero =>
    intro t c h
    have ht : t = [] := List.eq_nil_of_length_eq_zero (by omega)
    have := signedS_len t n
    rw [rdCl]
    split
    · simp
    · split
      · split
        · rename_i hb; have := bS_len hb; simp [ht] at this
        · exact this
      · split
        · simp
        · split
          · rename_i hb; have := bS_len hb; simp [ht] at this
          · exact this
  | succ f ih =>
    intro t c h
    have := signedS_len t n
    rw [rdCl]
    split
    · simp
    · split
      · split
        · rename_i hb; have := bS_len hb; simp only [List.length_drop, List.length_cons, List.length_nil] at this; simp only; omega
        · exact this
      · split
        · simp
        · split
          · rename_i hb
            have h2 := bS_len hb
            simp only [List.length_drop, List.length_cons, List.length_nil] at h2
            have h3 := ih (t.drop ((signedS t n).2.1 + 1)) (c ++ [(signedS t n).1]) (by simp only [List.length_drop]; omega)
            simp only [List.length_drop] at h3
            simp only; omega
          · exact this
theorem rdHead_bd (l : List UInt8) : 0 ≤ (rdHead l).1 ∧ (rdHead l).1 ≤ 2147483647 ∧ 0 ≤ (rdHead l).2.1 ∧ (rdHead l).2.1 ≤ 2147483647 ∧ (rdHead l).2.2.1 ≤ l.length ∧ 0 ≤ (rdHead l).2.2.2 ∧ (rdHead l).2.2.2 ≤ 3 := by
  unfold rdHead
  split
  · simp
  · rename_i h1
    have h1 : bS l headW = true := by simpa using h1
    have h6 : 6 ≤ l.length := bS_len h1
    have b1 := numberS_bd (l.drop 6) 100000
    have l1 := numberS_len (l.drop 6) 100000
    simp only [List.length_drop] at l1
    generalize numberS (l.drop 6) 100000 = r at *
    split
    · simp only; omega
    · split
      · simp only; omega
      · rename_i h3
        have h3 : bS (l.drop (6 + r.2.1)) [32] = true := by simpa using h3
        have h7 := bS_len h3
        simp only [List.length_drop, List.length_cons, List.length_nil] at h7
        have b2 := numberS_bd (l.drop (6 + r.2.1 + 1)) 20000
        have l2 := numberS_len (l.drop (6 + r.2.1 + 1)) 20000
        simp only [List.length_drop] at l2
        generalize numberS (l.drop (6 + r.2.1 + 1)) 20000 = q at *
        split
        · simp only; omega
        · split
          · simp only; omega
          · rename_i h5
            have h5 : bS (l.drop (6 + r.2.1 + 1 + q.2.1)) [10] = true := by simpa using h5
            have h8 := bS_len h5
            simp only [List.length_drop, List.length_cons, List.length_nil] at h8
            simp only; omega
end Go.Proofs.YtplcabecbofjpaaDoor
