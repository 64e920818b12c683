/-
  Runs in parts, and from states that differ where a latch is reset: mathematics.
-/
import Derived.Test.YtkdocjcpehmljaaProg
import Derived.WalkKit
import Derived.WalkSpells
import Derived.WalkLawsBesides
import Derived.Lib.Hide
import Derived.BigQuiet
import Derived.Deep.QuietTactic
import Derived.Deep.RegionWith
import Derived.Deep.RegionHeld3
import Derived.Test.YtkdocjcpehmljaaQ15
import Derived.Test.YtkdocjcpehmljaaQ18
set_option linter.unusedVariables false
namespace Go.Proofs.Ytkdocjcpehmljaa
open Go.RowKit
theorem badR_all {I : Int} {ins : List (List Bool)} (h : badR I ins = false) : ∀ r ∈ ins, (r.length : Int) = I := by
  intro r hr
  unfold badR at h
  rw [List.any_eq_false] at h
  have := h r hr
  simpa using this
theorem badR_at {I : Int} {ins : List (List Bool)} (h : badR I ins = false) (i : Nat) (hi : i < ins.length) : ((ins.getD i []).length : Int) = I := by
  refine badR_all h _ ?_
  rw [List.getD_eq_getElem?_getD, List.getElem?_eq_getElem hi]
  exact List.getElem_mem _
theorem badR_take {I : Int} {ins : List (List Bool)} (h : badR I ins = false) (k : Nat) : badR I (ins.take k) = false := by
  unfold badR
  rw [List.any_eq_false]
  intro r hr
  have := badR_all h r (List.mem_of_mem_take hr)
  simp [this]
theorem badR_end {I : Int} {ins : List (List Bool)} (h : ∀ i, i < ins.length → ((ins.getD i []).length : Int) = I) : badR I ins = false := by
  unfold badR
  rw [List.any_eq_false]
  intro r hr
  obtain ⟨i, hi, e⟩ := List.getElem_of_mem hr
  have := h i hi
  simp [List.getD_eq_getElem?_getD, hi, e] at this
  simp [this]
theorem stAt_take (L G : List Pr) (s0 : List Bool) (ins : List (List Bool)) (k : Nat) : ∀ i, i ≤ k → stAt L G s0 (ins.take k) i = stAt L G s0 ins i := by
  intro i
  induction i with
  | zero => intro _; rfl
  | succ j ih =>
    intro hi
    have e : (ins.take k).getD j [] = ins.getD j [] := by
      simp only [List.getD_eq_getElem?_getD, List.getElem?_take]; rw [if_pos (by omega)]
    simp only [stAt]
    rw [ih (by omega), e]
theorem runL_take (L G : List Pr) (s0 : List Bool) (ins : List (List Bool)) (k : Nat) (hk : k ≤ ins.length) : (runL L G s0 ins).take (k + 1) = runL L G s0 (ins.take k) := by
  unfold runL
  rw [← List.map_take, List.take_range, List.length_take, show min (k + 1) (ins.length + 1) = k + 1 by omega, show min k ins.length + 1 = k + 1 by omega]
  refine List.map_congr_left fun i hi => ?_
  rw [stAt_take L G s0 ins k i (by simp at hi; omega)]
theorem runL_len (L G : List Pr) (s0 : List Bool) (ins : List (List Bool)) : (runL L G s0 ins).length = ins.length + 1 := by simp [runL]
theorem runL_at (L G : List Pr) (s0 : List Bool) (ins : List (List Bool)) (i : Nat) (hi : i ≤ ins.length) : (runL L G s0 ins).getD i [] = stAt L G s0 ins i := by
  unfold runL
  have : i < (List.range (ins.length + 1)).length := by simp; omega
  simp [List.getD_eq_getElem?_getD, List.getElem?_range (show i < ins.length + 1 by omega)]
/-- What free says, but for the latches that are reset, of which another one says it. -/
def mixL (L : List Pr) (f o : List Bool) : List Bool := (L.zip (f.zip o)).map (fun x => if x.1.2 < 2 then x.2.2 else x.2.1)
theorem mixL_len (L : List Pr) (f o : List Bool) (h : f.length = L.length) (h' : o.length = L.length) : (mixL L f o).length = f.length := by simp [mixL]; omega
theorem mixL_at (L : List Pr) (f o : List Bool) (h : f.length = L.length) (h' : o.length = L.length) (j : Nat) (hj : j < f.length) : (mixL L f o).getD j false = if (L.getD j (0, 0)).2 < 2 then o.getD j false else f.getD j false := by
  have h1 : j < L.length := by omega
  have h2 : j < o.length := by omega
  simp only [mixL, List.getD_eq_getElem?_getD, List.getElem?_map]
  rw [List.getElem?_eq_getElem (by simp; omega)]
  simp [hj, h1, h2]
theorem ini_mix (r : Int) (a b : Bool) (h : 0 ≤ r) : ini r (if r < 2 then a else b) = ini r b := by
  unfold ini
  by_cases h0 : r = 0
  · simp [h0]
  · by_cases h1 : r = 1
    · simp [h1]
    · rw [if_neg h0, if_neg h1, if_neg h0, if_neg h1, if_neg (by omega)]
theorem startL_mix (L : List Pr) (f o : List Bool) (h : f.length = L.length) (h' : o.length = L.length) (hr : ∀ i, i < L.length → 0 ≤ (L.getD i (0, 0)).2) : startL L (mixL L f o) = startL L f := by
  have hm := mixL_len L f o h h'
  refine List.ext_getElem (by rw [startL_len _ _ (by omega), startL_len _ _ h, hm]) fun i h1 h2 => ?_
  have hi : i < f.length := by rw [startL_len _ _ h] at h2; exact h2
  have e1 := startL_at L (mixL L f o) (by omega) i (by omega)
  have e2 := startL_at L f h i hi
  have e3 := mixL_at L f o h h' i hi
  rw [e3, ini_mix _ _ _ (hr i (by omega)), ← e2] at e1
  simpa [List.getD_eq_getElem?_getD, h1, h2] using e1
/-- What stands behind a step. -/
def NxG (wr : World) (n : List Bool) (s t : Value) (wx : World) : Prop := ∃ An cn, s = .slice An n.length cn ∧ t = .int .i64 0 ∧ RB wx wx.heap.size An n ∧ Below wr.heap.size wr wx
theorem NxG.last {wr u : World} {n : List Bool} {s : Value} (h : SB u s n) (U : Below wr.heap.size wr u) (o : Obj) : NxG wr n s (.int .i64 0) (u.alloc o) := by
  obtain ⟨A, c, rfl, r, _⟩ := h
  exact ⟨A, c, rfl, rfl, r.nx (bal (Below.refl _ _) _), bal U _⟩
theorem NxG.put {wr u : World} {n : List Bool} {s : Value} {g : Nat} {v1 v2 v3 : Value} (h : SB u s n) (U : Below wr.heap.size wr u) (ht : T3 u g (.slice none 0 0) (.slice none 0 0) (.slice none 0 0)) (hg : wr.heap.size ≤ g) : NxG wr n s (.int .i64 0) (((u.setCell ⟨g, 0, none⟩ v1).setCell ⟨g, 1, none⟩ v2).setCell ⟨g, 2, none⟩ v3) := by
  obtain ⟨A, c, e, r, _⟩ := SB.put3 h ht v1 v2 v3
  exact ⟨A, c, e, rfl, r, below_put3 U hg v1 v2 v3⟩
theorem NxG.lastput {wr u : World} {n : List Bool} {s : Value} {v1 v2 v3 : Value} (h : SB u s n) (U : Below wr.heap.size wr u) : NxG wr n s (.int .i64 0) ((((u.alloc (.cells #[.slice none 0 0, .slice none 0 0, .slice none 0 0] 40)).setCell ⟨u.heap.size, 0, none⟩ v1).setCell ⟨u.heap.size, 1, none⟩ v2).setCell ⟨u.heap.size, 2, none⟩ v3) :=
  NxG.put (h.nx (bal (Below.refl _ _) _)) (bal U _) (T3.new _ _ _ _ 40) U.size
end Go.Proofs.Ytkdocjcpehmljaa
