/-
  drop: pieces.
-/
import Derived.Test.YtlebagdildpkmaaProg
import Derived.WalkKit
import Derived.WalkSpells
import Derived.WalkLawsBesides
import Derived.Lib.Hide
import Derived.BigQuiet
import Derived.Deep.QuietTactic
import Derived.Deep.RegionWith
import Derived.Deep.RegionHeld3
import Derived.Test.YtlebagdildpkmaaA6
set_option linter.unusedVariables false
namespace Go.Proofs.Ytlebagdildpkmaa
open Go.RowKit
theorem sum_put {W : Nat → Wt} {id : Nat} {v : Wt} : ∀ (I : List Nat), v.rest.length ≤ (W id).rest.length → (I.map (fun i => (wtPut W id v i).rest.length)).sum ≤ (I.map (fun i => (W i).rest.length)).sum
  | [], _ => by simp
  | i :: I, h => by
    have := sum_put I h
    have : (wtPut W id v i).rest.length ≤ (W i).rest.length := by
      by_cases e : i = id
      · subst e; rw [wtPut_same]; exact h
      · rw [wtPut_other e]; exact Nat.le_refl _
    simp only [List.map_cons, List.sum_cons]
    omega
theorem sum_less {W : Nat → Wt} {id : Nat} {v : Wt} : ∀ (I : List Nat), id ∈ I → v.rest.length < (W id).rest.length → (I.map (fun i => (wtPut W id v i).rest.length)).sum + 1 ≤ (I.map (fun i => (W i).rest.length)).sum
  | [], hm, _ => by simp at hm
  | i :: I, hm, h => by
    simp only [List.map_cons, List.sum_cons]
    by_cases e : i = id
    · subst e
      have := sum_put (W := W) (id := i) (v := v) I (by omega)
      rw [wtPut_same]; omega
    · have h1 : id ∈ I := by
        rcases List.mem_cons.1 hm with h' | h'
        · exact absurd h'.symm e
        · exact h'
      have := sum_less I h1 h
      rw [wtPut_other e]; omega
section
variable {z : World} {sb hb rb T : Nat} {w w' : World} {t : Nat → Tag} {vF : Value} {nR : Nat} {vk : Int → Value} {F G : List Int} {R : Int → List Nat} {W : Nat → Wt} {I : List Nat} {row : Option Nat}
/-- One that waits turns. -/
theorem CSx.wput (h : CSx z sb hb rb T w t vF nR vk F G R W I) {id T' : Nat} (hid : id ∈ I) (hg : w.grownBy w' (some id)) {v : Wt} (hv : WaitAt w' z.heap.size id v) (hp : nR + (I.map (fun i => (wtPut W id v i).rest.length)).sum ≤ T') :
    CSx z sb hb rb T' w' t vF nR vk F G R (wtPut W id v) I := by
  obtain ⟨ht, hz, _⟩ := h.wa id hid
  have hn : ∀ τ, τ ≠ Tag.wait → ∀ g, some id = some g → t g ≠ τ := by
    intro τ hτ g e; cases e; rw [ht]; exact hτ.symm
  have hB : ∀ g, some id = some g → z.heap.size ≤ g := by intro g e; cases e; exact hz
  obtain ⟨a, b, c⟩ := h.rec' hg (hn _ (by simp))
  refine ⟨below_grown h.bel hg hB, h.ts, h.th, h.tr, h.bs, h.bh, h.br, a, b, c, h.frc' hg (hn _ (by simp)), h.tF, h.hld' hg (hn _ (by simp)), h.rws' hg (hn _ (by simp)), hp, fun k => h.row' hg k (hn _ (by simp)), h.tR, ?_, h.rI, h.rl⟩
  intro i hi
  by_cases e : i = id
  · subst e; rw [wtPut_same]; exact ⟨ht, hz, hv⟩
  · rw [wtPut_other e]; exact h.wat' hg hB i hi (fun e2 => e (by cases e2; rfl))
theorem RI.set {B i : Nat} {A : Option Addr} {l : List Int} (h : RI w B A l) (hB : B ≤ i) (o : Nat) (v : Value) : RI (w.setCell ⟨i, o, none⟩ v) B A l := by
  intro j hj
  obtain ⟨ad, e, h1, h2⟩ := h j hj
  refine ⟨ad, e, h1, ?_⟩
  rw [World.cell?_setCell_other _ _ _ _ (by intro e2; have := congrArg Addr.block e2; rw [block_add] at this; simp at this; omega)]
  exact h2
theorem WaitAt.one' {B i : Nat} {v : Wt} (h : WaitAt w B i v) (hB : B ≤ i) (y : Int) : WaitAt (w.setCell ⟨i, 0, none⟩ (.int .i64 y)) B i ⟨y, v.two, v.rest⟩ := by
  obtain ⟨⟨a1, a2⟩, ⟨b1, b2⟩, A, c, c1, c2, c3, c4, c5⟩ := h
  refine ⟨⟨World.cell?_setCell_same _ _ _ a1, by simpa using a2⟩, ⟨?_, by simpa using b2⟩, A, c, ?_, by simpa using c2, c3.set hB 0 _, c4, c5⟩
  · rw [World.cell?_setCell_other _ _ _ _ (by simp)]; exact b1
  · rw [World.cell?_setCell_other _ _ _ _ (by simp)]; exact c1
theorem WaitAt.two' {B i : Nat} {v : Wt} (h : WaitAt w B i v) (hB : B ≤ i) (y : Int) : WaitAt (w.setCell ⟨i, 1, none⟩ (.int .i64 y)) B i ⟨v.one, y, v.rest⟩ := by
  obtain ⟨⟨a1, a2⟩, ⟨b1, b2⟩, A, c, c1, c2, c3, c4, c5⟩ := h
  refine ⟨⟨?_, by simpa using a2⟩, ⟨World.cell?_setCell_same _ _ _ b1, by simpa using b2⟩, A, c, ?_, by simpa using c2, c3.set hB 1 _, c4, c5⟩
  · rw [World.cell?_setCell_other _ _ _ _ (by simp)]; exact a1
  · rw [World.cell?_setCell_other _ _ _ _ (by simp)]; exact c1
theorem WaitAt.rest' {B i : Nat} {v : Wt} (h : WaitAt w B i v) (hB : B ≤ i) (A' : Option Addr) (l : List Int) (c' : Nat) (hr : RI w B A' l) (h1 : l.length ≤ c') (h2 : c' ≤ maxLen) : WaitAt (w.setCell ⟨i, 2, none⟩ (.slice A' l.length c')) B i ⟨v.one, v.two, l⟩ := by
  obtain ⟨⟨a1, a2⟩, ⟨b1, b2⟩, A, c, c1, c2, c3, c4, c5⟩ := h
  refine ⟨⟨?_, by simpa using a2⟩, ⟨?_, by simpa using b2⟩, A', c', World.cell?_setCell_same _ _ _ c1, by simpa using c2, hr.set hB 2 _, h1, h2⟩
  · rw [World.cell?_setCell_other _ _ _ _ (by simp)]; exact a1
  · rw [World.cell?_setCell_other _ _ _ _ (by simp)]; exact b1
end
section
variable {z : World} {sb hb rb T : Nat} {w w' : World} {vk : Int → Value} {F : List Int} {R : Int → List Nat} {W : Nat → Wt} {I : List Nat}
theorem CS.c2 (h : CS z sb hb rb T w vk F R W I) : w.cell? ⟨sb, 2, none⟩ = some (.map (some rb)) := by
  obtain ⟨t, vF, nR, h⟩ := h
  exact h.c2
theorem CS.lookR (h : CS z sb hb rb T w vk F R W I) {x : Int} (h0 : -4611686018427387904 ≤ x) (h1 : x ≤ 4611686018427387904) : (Instr.lookup 60 (.map (some rb)) (.int .i64 x) false).run Try.prog w = .ok (vk x) w := by
  obtain ⟨t, vF, nR, h⟩ := h
  exact h.lookR h0 h1
theorem CS.wait (h : CS z sb hb rb T w vk F R W I) {k : Int} {i : Nat} (hi : i ∈ R k) : i ∈ I ∧ z.heap.size ≤ i ∧ WaitAt w z.heap.size i (W i) := by
  obtain ⟨t, vF, nR, h⟩ := h
  exact ⟨h.rI k i hi, (h.wa i (h.rI k i hi)).2⟩
theorem CS.rowL (h : CS z sb hb rb T w vk F R W I) (k : Int) : (R k).length ≤ T := by
  obtain ⟨t, vF, nR, h⟩ := h
  have := h.rl k
  have := h.pot
  omega
theorem CS.row (h : CS z sb hb rb T w vk F R W I) (k : Int) : ∃ A c, vk k = .slice A (R k).length c ∧ ∀ j (hj : j < (R k).length), ∃ g, A = some ⟨g, 0, none⟩ ∧ w.cell? ⟨g, j, none⟩ = some (ptr ((R k).getD j 0)) := by
  obtain ⟨t, vF, nR, h⟩ := h
  rcases (h.oR k).2 with ⟨e, h0⟩ | ⟨g, cap, cur, e, hg, hh, h1, h2, h3, h4⟩
  · exact ⟨none, 0, by rw [e, h0], fun j hj => by omega⟩
  · refine ⟨_, cap, e, fun j hj => ⟨g, rfl, ?_⟩⟩
    have ho := h.oR k
    rw [e] at ho
    rw [World.ownsRow.cellAt ho j (by omega)]
    simp [List.getD_eq_getElem?_getD, hj]
theorem CS.wone (h : CS z sb hb rb T w vk F R W I) {id : Nat} (hid : id ∈ I) (y : Int) : CS z sb hb rb T (w.setCell ⟨id, 0, none⟩ (.int .i64 y)) vk F R (wtPut W id ⟨y, (W id).two, (W id).rest⟩) I := by
  obtain ⟨t, vF, nR, h⟩ := h
  obtain ⟨_, hz, hw⟩ := h.wa id hid
  refine ⟨t, vF, nR, h.wput hid (grown_set _ _) (hw.one' hz y) ?_⟩
  have := sum_put (W := W) (id := id) (v := ⟨y, (W id).two, (W id).rest⟩) I (Nat.le_refl _)
  have := h.pot
  omega
end
end Go.Proofs.Ytlebagdildpkmaa
