/-
  Maps keyed by numbers, as functions; what is forced of a variable.
-/
import Derived.Test.YtlebagdildpkmaaProg
import Derived.WalkKit
import Derived.WalkSpells
import Derived.WalkLawsBesides
import Derived.Lib.Hide
import Derived.BigQuiet
import Derived.Deep.QuietTactic
import Derived.Deep.RegionWith
import Derived.Deep.RegionHeld3
import Derived.Test.YtlebagdildpkmaaA0
import Derived.Maps.OwnOps
import Derived.Maps.OwnSet
import Derived.Maps.Views
set_option linter.unusedVariables false
namespace Go.Proofs.Ytlebagdildpkmaa
open Go.RowKit
open Go.Maps (Keyed int_keyed keyOf_int_mk)
/-- A value read as itself. -/
def selfR (v : Value) : Option (DataW Value × List MemPlace) := some (.held v, [])
theorem law56 : Keyed Try.prog 56 := int_keyed Try.underlying56
theorem law3 : Keyed Try.prog 3 := int_keyed Try.underlying3
/-- The map at block b, keyed by numbers of kind q (type k), holds at most n entries; at key x it tells g x. -/
def MapF (w : World) (k : TypeId) (q : IntKind) (b n : Nat) (z : Value) (g : Int → Value) : Prop :=
  ∃ D : DataW Value, w.ownsMap Try.prog k selfR b n D ∧ ∀ x : Int, (Lit.int q x).wf = true → D.atKey (.int q x) (.held z) = .held (g x)
theorem MapF.made (w : World) (k : TypeId) (q : IntKind) (z : Value) : MapF (w.alloc (.map #[] 0)) k q w.heap.size 0 z (fun _ => z) :=
  ⟨_, World.ownsMap_made w Try.prog k selfR, fun x _ => rfl⟩
theorem MapF.kept {w w' : World} {k : TypeId} {q : IntKind} {b n : Nat} {z : Value} {g : Int → Value} {row : Option Nat} (h : MapF w k q b n z g) (hg : w.grownBy w' row) (hne : some b ≠ row) : MapF w' k q b n z g := by
  obtain ⟨D, h1, h2⟩ := h
  exact ⟨D, h1.kept hg hne, h2⟩
theorem MapF.lt {w : World} {k : TypeId} {q : IntKind} {b n : Nat} {z : Value} {g : Int → Value} (h : MapF w k q b n z g) : b < w.heap.size := by
  obtain ⟨D, h1, h2⟩ := h
  exact h1.lt
theorem MapF.mono {w : World} {k : TypeId} {q : IntKind} {b n n' : Nat} {z : Value} {g : Int → Value} (h : MapF w k q b n z g) (hn : n ≤ n') : MapF w k q b n' z g := by
  obtain ⟨D, h1, h2⟩ := h
  exact ⟨D, h1.mono hn, h2⟩
theorem MapF.get {w : World} {k e t : TypeId} {q : IntKind} {b n : Nat} {z : Value} {g : Int → Value} (h : MapF w k q b n z g) (hk : Try.prog.underlying k = some (.int q)) (ht : Try.prog.underlying t = some (.map k e)) (hz : (zeroValue e).run Try.prog w = .ok z w) {x : Int} (hx : (Lit.int q x).wf = true) :
    (Instr.lookup t (.map (some b)) (.int q x) false).run Try.prog w = .ok (g x) w := by
  obtain ⟨D, h1, h2⟩ := h
  obtain ⟨v, ps, hrun, hv⟩ := h1.lookup (int_keyed hk) ht hz (zd := .held z) (zp := []) rfl (keyOf_int_mk hk hx)
  rw [h2 x hx] at hv
  simp only [selfR, Option.some.injEq, Prod.mk.injEq, DataW.held.injEq] at hv
  rw [hrun, hv.1]
theorem MapF.put {w : World} {k e t : TypeId} {q : IntKind} {b n : Nat} {z : Value} {g : Int → Value} (h : MapF w k q b n z g) (hk : Try.prog.underlying k = some (.int q)) (ht : Try.prog.underlying t = some (.map k e)) (hn : n < maxLen) {x : Int} (hx : (Lit.int q x).wf = true) (v : Value) :
    ∃ w', (Instr.mapUpdate t (.map (some b)) (.int q x) v).run Try.prog w = .ok () w' ∧ MapF w' k q b (n + 1) z (fun y => if y = x then v else g y) ∧ w.grownBy w' (some b) := by
  obtain ⟨D, h1, h2⟩ := h
  obtain ⟨w', hrun, h3, h4⟩ := h1.update (int_keyed hk) ht hn (keyOf_int_mk hk hx) (val := v) (d := .held v) (ps := []) rfl
  refine ⟨w', hrun, ⟨_, h3, fun y hy => ?_⟩, h4⟩
  by_cases e : y = x
  · subst e
    show _ = DataW.held (if y = y then v else g y)
    rw [if_pos rfl]
    exact Maps.atKey_put_same (k := .int q y) h1.isMap trivial _ _
  · show _ = DataW.held (if y = x then v else g y)
    rw [if_neg e, Maps.atKey_put_other (by intro e2; injection e2 with _ e3; exact e e3)]
    exact h2 y hy
/-- What is forced of a variable. -/
def heldF (F : List Int) (v : Int) : Int := (F.find? (fun x => x = v ∨ x = -v)).getD 0
theorem heldF_in {F : List Int} {x : Int} (hx : x ∈ F) (hn : -x ∉ F) (h0 : 0 ≤ x ∨ x ≤ 0) : heldF F x.natAbs = x := by
  unfold heldF
  have hs : (F.find? (fun y => decide (y = (x.natAbs : Int) ∨ y = -(x.natAbs : Int)))).isSome := by
    rw [List.find?_isSome]
    exact ⟨x, hx, by simp; omega⟩
  obtain ⟨y, hy⟩ := Option.isSome_iff_exists.1 hs
  rw [hy]
  have h1 := List.mem_of_find?_eq_some hy
  have h2 := List.find?_some hy
  simp only [decide_eq_true_eq] at h2
  by_cases e : y = x
  · exact e
  · exfalso; exact hn (by rw [show -x = y by omega]; exact h1)
theorem heldF_out {F : List Int} {x : Int} (hx : x ∉ F) (hn : -x ∉ F) : heldF F x.natAbs = 0 := by
  unfold heldF
  have : F.find? (fun y => decide (y = (x.natAbs : Int) ∨ y = -(x.natAbs : Int))) = none := by
    rw [List.find?_eq_none]
    intro y hy
    simp only [decide_eq_true_eq]
    rintro (h | h)
    · by_cases e : y = x
      · exact hx (e ▸ hy)
      · exact hn (by rw [show -x = y by omega]; exact hy)
    · by_cases e : y = x
      · exact hx (e ▸ hy)
      · exact hn (by rw [show -x = y by omega]; exact hy)
  rw [this]; rfl
theorem heldF_eq {F : List Int} {x : Int} (x0 : x ≠ 0) (hc : x ∈ F → -x ∉ F) : heldF F x.natAbs = x ↔ x ∈ F := by
  constructor
  · intro h
    apply Classical.byContradiction
    intro hx
    by_cases hn : -x ∈ F
    · have := heldF_in hn (by rw [Int.neg_neg]; exact hx) (by omega)
      rw [Int.natAbs_neg, h] at this; omega
    · rw [heldF_out hx hn] at h; exact x0 h.symm
  · intro h; exact heldF_in h (hc h) (by omega)
theorem heldF_neg {F : List Int} {x : Int} (x0 : x ≠ 0) (hc : -x ∈ F → x ∉ F) : heldF F x.natAbs = -x ↔ -x ∈ F := by
  have := heldF_eq (F := F) (x := -x) (by omega) (by rw [Int.neg_neg]; exact hc)
  rwa [Int.natAbs_neg] at this
theorem heldF_more {F : List Int} {x : Int} (hx : x ∉ F) (hn : -x ∉ F) (v : Int) (hv : 0 ≤ v) : heldF (F ++ [x]) v = if v = x.natAbs then x else heldF F v := by
  by_cases e : v = x.natAbs
  · rw [if_pos e]
    have h0 := heldF_out hx hn
    subst e
    unfold heldF at h0 ⊢
    rw [List.find?_append]
    have hno : F.find? (fun y => decide (y = (x.natAbs : Int) ∨ y = -(x.natAbs : Int))) = none := by
      rw [List.find?_eq_none]
      intro y hy
      simp only [decide_eq_true_eq]
      intro h
      by_cases e : y = x
      · exact hx (e ▸ hy)
      · exact hn (by rw [show -x = y by omega]; exact hy)
    rw [hno]
    simp only [Option.none_or, List.find?_cons]
    rw [decide_eq_true (by omega)]
    rfl
  · rw [if_neg e]
    unfold heldF
    rw [List.find?_append]
    have : [x].find? (fun y => decide (y = v ∨ y = -v)) = none := by
      simp only [List.find?_cons, List.find?_nil]
      rw [decide_eq_false (by omega)]
    rw [this, Option.or_none]
theorem grown_set {w : World} (a : Addr) (v : Value) : w.grownBy (w.setCell a v) (some a.block) := by
  refine ⟨rfl, rfl, rfl, by simp, fun k hk hne => ?_⟩
  have hk' : k ≠ a.block := fun e => hne (by rw [e])
  simp only [World.setCell]
  rw [Array.getElem?_modify, if_neg hk'.symm]
theorem grown_drew {w : World} (n : Nat) (row : Option Nat) : w.grownBy (w.drewN n) row := by
  have h := drw (w := w) n
  exact ⟨h.os, h.tape, h.output, h.size, fun k hk _ => h.block k hk⟩
theorem grown_below {w w' : World} (h : Below w.heap.size w w') (row : Option Nat) : w.grownBy w' row := ⟨h.os, h.tape, h.output, h.size, fun k hk _ => h.block k hk⟩
end Go.Proofs.Ytlebagdildpkmaa
