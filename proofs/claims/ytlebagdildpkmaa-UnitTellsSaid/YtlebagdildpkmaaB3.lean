/-
  Sort.
-/
import Derived.Test.YtlebagdildpkmaaProg
import Derived.WalkKit
import Derived.WalkSpells
import Derived.WalkLawsBesides
import Derived.Lib.Hide
import Derived.BigQuiet
import Derived.Deep.QuietTactic
import Derived.Deep.RegionWith
import Derived.Deep.RegionHeld3
import Derived.Test.YtlebagdildpkmaaB2
import Derived.Test.YtlebagdildpkmaaK2
import Derived.Lib.RowBridge
set_option linter.unusedVariables false
namespace Go.Proofs.Ytlebagdildpkmaa
open Go.RowKit
open Go.Sort Go.Lib Go.Shelf
/-- A literal stands ahead of another one. -/
def ltP (x y : Int) : Prop := varF x < varF y ∨ (varF x = varF y ∧ x < y)
theorem ltL (x y : Int) : ltOf cfL x y = true ↔ ltP x y := by
  unfold ltOf cfL orI cmpI ltP
  simp only [decide_eq_true_eq]
  by_cases h1 : varF x < varF y
  · simp [h1]
  · by_cases h2 : varF y < varF x
    · simp [h1, h2]; omega
    · have e : varF x = varF y := by omega
      simp [e]
      by_cases h3 : x < y
      · simp [h3]
      · by_cases h4 : y < x <;> simp [h3, h4]
theorem ltL' (x y : Int) : ltOf cfL x y = false ↔ ¬ ltP x y := by rw [← ltL]; simp
theorem swoL : SWO (ltOf cfL) where
  irrefl x := by rw [ltL']; unfold ltP; omega
  trans x y z h1 h2 := by rw [ltL] at *; unfold ltP at *; omega
  ntrans x y z h1 h2 := by rw [ltL'] at *; unfold ltP at *; omega
theorem totL (x y : Int) (h1 : ltOf cfL x y = false) (h2 : ltOf cfL y x = false) : x = y := by rw [ltL'] at *; unfold ltP at *; omega
/-- The literals sorted, none twice. -/
def leB (x y : Int) : Bool := !ltOf cfL y x
theorem leB_iff (x y : Int) : leB x y = true ↔ ¬ ltP y x := by unfold leB; rw [← ltL']; simp
def sortF (l : List Int) : List Int := Lib.compact (l.mergeSort leB)
theorem keeps_zero (d : Array Int) : keeps d 0 = true := by simp [keeps]
theorem compact_inv (zs : List Int) (hs : zs.Pairwise (fun x y => leB x y = true)) (m : Nat) (hm : m ≤ zs.length) :
    (∀ x, x ∈ compactUpTo zs.toArray m ↔ x ∈ zs.take m) ∧ (compactUpTo zs.toArray m).Pairwise ltP ∧ (0 < m → (∀ x ∈ compactUpTo zs.toArray m, x = zs.getD (m - 1) 0 ∨ ltP x (zs.getD (m - 1) 0))) := by
  induction m with
  | zero => simp [compactUpTo]
  | succ m ih =>
    obtain ⟨h1, h2, h3⟩ := ih (by omega)
    have hg : zs.toArray[m]! = zs.getD m 0 := by simp [List.getD_eq_getElem?_getD, show m < zs.length by omega]
    have htk := take_snocI zs m (by omega)
    rw [compactUpTo_succ, htk, hg]
    have hk : 0 < m → (keeps zs.toArray m = true ↔ zs.getD m 0 ≠ zs.getD (m - 1) 0) := by
      intro h0
      have hg2 : zs.toArray[m - 1]! = zs.getD (m - 1) 0 := by simp [List.getD_eq_getElem?_getD, show m - 1 < zs.length by omega]
      unfold keeps
      rw [hg, hg2]
      simp; omega
    have hle : 0 < m → ¬ ltP (zs.getD m 0) (zs.getD (m - 1) 0) := by
      intro h0
      have := List.pairwise_iff_getElem.1 hs (m - 1) m (by omega) (by omega) (by omega)
      rw [leB_iff] at this
      simpa [List.getD_eq_getElem?_getD, show m < zs.length by omega, show m - 1 < zs.length by omega] using this
    by_cases h0 : m = 0
    · subst h0
      rw [keeps_zero]
      have e0 : compactUpTo zs.toArray 0 = [] := by simp [compactUpTo]
      rw [e0]
      refine ⟨by simp, by simp, fun _ x hx => ?_⟩
      simp at hx
      left; simpa using hx
    · have hp : 0 < m := by omega
      by_cases hkm : keeps zs.toArray m = true
      · have hne := (hk hp).1 hkm
        rw [if_pos hkm]
        have hlt : ltP (zs.getD (m - 1) 0) (zs.getD m 0) := by
          have := hle hp
          unfold ltP at *; omega
        have hall : ∀ x ∈ compactUpTo zs.toArray m, ltP x (zs.getD m 0) := by
          intro x hx
          rcases h3 hp x hx with e | e
          · rw [e]; exact hlt
          · unfold ltP at *; omega
        refine ⟨fun x => by simp only [List.mem_append, h1 x], ?_, fun _ x hx => ?_⟩
        · rw [List.pairwise_append]
          exact ⟨h2, by simp, fun a ha b hb => by rw [List.mem_singleton.1 hb]; exact hall a ha⟩
        · simp only [Nat.add_sub_cancel]
          rcases List.mem_append.1 hx with h' | h'
          · exact .inr (hall x h')
          · exact .inl (List.mem_singleton.1 h')
      · have he : zs.getD m 0 = zs.getD (m - 1) 0 := by
          apply Classical.byContradiction; intro hc; exact hkm ((hk hp).2 hc)
        rw [if_neg hkm, List.append_nil]
        refine ⟨fun x => ?_, h2, fun _ x hx => ?_⟩
        · rw [h1 x]
          have hm1 : zs.getD (m - 1) 0 ∈ zs.take m := by
            rw [show m = (m - 1) + 1 by omega, take_snocI zs (m - 1) (by omega)]; simp
          simp only [List.mem_append, List.mem_singleton]
          constructor
          · exact .inl
          · rintro (h | h)
            · exact h
            · rw [h, he]; exact hm1
        · simp only [Nat.add_sub_cancel]; rw [he]; exact h3 hp x hx
theorem leB_trans (a b c : Int) : leB a b = true → leB b c = true → leB a c = true := by
  rw [leB_iff, leB_iff, leB_iff]; unfold ltP; omega
theorem leB_total (a b : Int) : (leB a b || leB b a) = true := by
  rw [Bool.or_eq_true, leB_iff, leB_iff]; unfold ltP; omega
theorem sorted_l (l : List Int) : (l.mergeSort leB).Pairwise (fun x y => leB x y = true) := List.pairwise_mergeSort leB_trans leB_total l
theorem sortF_mem (l : List Int) (x : Int) : x ∈ sortF l ↔ x ∈ l := by
  have h := (compact_inv (l.mergeSort leB) (sorted_l l) (l.mergeSort leB).length (Nat.le_refl _)).1 x
  unfold sortF compact
  rw [h, List.take_length, List.mem_mergeSort]
theorem sortF_lt (l : List Int) : (sortF l).Pairwise ltP :=
  (compact_inv (l.mergeSort leB) (sorted_l l) (l.mergeSort leB).length (Nat.le_refl _)).2.1
theorem ltP_irrefl (x : Int) : ¬ ltP x x := by unfold ltP; omega
theorem sorted_uniq : ∀ (a b : List Int), a.Pairwise ltP → b.Pairwise ltP → (∀ x, x ∈ a ↔ x ∈ b) → a = b
  | [], b, _, _, h => by
    cases b with
    | nil => rfl
    | cons y b => exact absurd ((h y).2 (by simp)) (by simp)
  | x :: a, [], _, _, h => absurd ((h x).1 (by simp)) (by simp)
  | x :: a, y :: b, ha, hb, h => by
    rw [List.pairwise_cons] at ha hb
    have e : x = y := by
      rcases List.mem_cons.1 ((h x).1 (by simp)) with e | e
      · exact e
      · rcases List.mem_cons.1 ((h y).2 (by simp)) with e2 | e2
        · exact e2.symm
        · have h1 := hb.1 x e
          have h2 := ha.1 y e2
          unfold ltP at *; omega
    subst e
    rw [sorted_uniq a b ha.2 hb.2 (fun z => by
      have := h z
      simp only [List.mem_cons] at this
      constructor
      · intro hz
        rcases this.1 (.inr hz) with e | e
        · subst e; exact absurd (ha.1 z hz) (ltP_irrefl z)
        · exact e
      · intro hz
        rcases this.2 (.inr hz) with e | e
        · subst e; exact absurd (hb.1 z hz) (ltP_irrefl z)
        · exact e)]
theorem sortF_nodup (l : List Int) : (sortF l).Nodup :=
  (sortF_lt l).imp (fun h e => by subst e; exact ltP_irrefl _ h)
theorem sortF_len (l : List Int) : (sortF l).length ≤ l.length := by
  have := Lib.compact_length_le (l.mergeSort leB)
  rw [List.length_mergeSort] at this
  exact this
theorem sortF_nil : sortF [] = [] := List.eq_nil_of_length_eq_zero (by have := sortF_len []; simpa using this)
end Go.Proofs.Ytlebagdildpkmaa
