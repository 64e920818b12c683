/-
  The reference's Close.
-/
import Derived.Test.YtlebagdildpkmaaProg
import Derived.WalkKit
import Derived.WalkSpells
import Derived.WalkLawsBesides
import Derived.Lib.Hide
import Derived.BigQuiet
import Derived.Deep.QuietTactic
import Derived.Deep.RegionWith
import Derived.Deep.RegionHeld3
import Derived.Test.YtlebagdildpkmaaE1
import Derived.Test.YtlebagdildpkmaaE2
import Derived.Test.YtlebagdildpkmaaD6w
import Derived.Deep.LoopGhost
import Derived.Deep.Cut
set_option linter.unusedVariables false
namespace Go.Proofs.Ytlebagdildpkmaa
open Go.RowKit
/-- What is forced so far. -/
structure Sofar (L : List (List Int)) (A F : List Int) : Prop where
  lt : F.Pairwise ltP
  sound : ∀ z ∈ F, Forced L A z
  has : ∀ z ∈ A, z ∈ F
  cons : ∀ z ∈ F, -z ∉ F
theorem Sofar.nodup {L : List (List Int)} {A F : List Int} (h : Sofar L A F) : F.Nodup := h.lt.imp (fun h e => by subst e; exact ltP_irrefl _ h)
theorem Sofar.lits {L : List (List Int)} {A F : List Int} (h : Sofar L A F) (hM : May L A) : Lits F := fun z hz => (h.sound z hz).lit hM.lits hM.alit
theorem Sofar.len {L : List (List Int)} {A F : List Int} (h : Sofar L A F) (hM : May L A) (hx : ∀ z, Forced L A z → z ≠ 0 ∧ -60 ≤ z ∧ z ≤ 60) : F.length ≤ 121 :=
  nodup_le 121 F (-60) h.nodup (fun z hz => by have := hx z (h.sound z hz); omega)
theorem Sofar.next {L : List (List Int)} {A F : List Int} (h : Sofar L A F) {x : Int} (x0 : x ≠ 0) (hf : Forced L A x) (h1 : x ∉ F) (h2 : -x ∉ F) : Sofar L A (sortF (F ++ [x])) := by
  refine ⟨sortF_lt _, fun z hz => ?_, fun z hz => ?_, fun z hz hn => ?_⟩
  · rw [sortF_mem] at hz
    rcases List.mem_append.1 hz with e | e
    · exact h.sound z e
    · rw [List.mem_singleton.1 e]; exact hf
  · rw [sortF_mem]; simp [h.has z hz]
  · rw [sortF_mem] at hz hn
    rcases List.mem_append.1 hz with e | e <;> rcases List.mem_append.1 hn with e' | e'
    · exact h.cons z e e'
    · have := List.mem_singleton.1 e'
      exact h2 (by rw [← this]; simpa using e)
    · have := List.mem_singleton.1 e
      rw [this] at e'; exact h2 e'
    · have a := List.mem_singleton.1 e
      have b := List.mem_singleton.1 e'
      omega
theorem Sofar.next_len {L : List (List Int)} {A F : List Int} (h : Sofar L A F) {x : Int} (h1 : x ∉ F) : (sortF (F ++ [x])).length = F.length + 1 := by
  have h2 := sortF_len (F ++ [x])
  have h3 : F.length + 1 ≤ (sortF (F ++ [x])).length := by
    have hn : (F ++ [x]).Nodup := by
      rw [List.nodup_append]
      exact ⟨h.nodup, by simp, by intro a ha b hb; simp at hb; subst hb; intro e; exact h1 (e ▸ ha)⟩
    have hs : ∀ (a b : List Int), a.Nodup → (∀ y ∈ a, y ∈ b) → a.length ≤ b.length := by
      intro a
      induction a with
      | nil => simp
      | cons y a ih =>
        intro b ha hb
        rw [List.nodup_cons] at ha
        have hy := hb y (by simp)
        have := ih (b.erase y) ha.2 (fun z hz => by
          have hne : z ≠ y := fun e => ha.1 (e ▸ hz)
          exact (List.mem_erase_of_ne hne).2 (hb z (by simp [hz])))
        rw [List.length_erase_of_mem hy] at this
        have hp : 0 < b.length := List.length_pos_of_mem hy
        simp only [List.length_cons]; omega
    have := hs (F ++ [x]) (sortF (F ++ [x])) hn (fun y hy => (sortF_mem _ y).2 hy)
    simpa using this
  simp at h2
  omega
/-- What is known of the first j clauses, and of the literal that is to be added. -/
def Known (L : List (List Int)) (F : List Int) (j : Nat) (more : Int) : Prop :=
  (more = 0 ∧ ∀ c ∈ L.take j, (∃ y ∈ c, y ∈ F) ∨ ∃ y z, y ∈ c ∧ z ∈ c ∧ y ≠ z ∧ -y ∉ F ∧ -z ∉ F) ∨
  (more ≠ 0 ∧ more ∉ F ∧ -more ∉ F ∧ ∃ c ∈ L, more ∈ c ∧ ∀ y ∈ c, y = more ∨ -y ∈ F)
theorem Known.first (L : List (List Int)) (F : List Int) : Known L F 0 0 := .inl ⟨rfl, by simp⟩
theorem Known.two {L : List (List Int)} {F : List Int} {j : Nat} {more : Int} (h : Known L F j more) (hj : j < L.length) (hc : (∃ y ∈ L.getD j [], y ∈ F) ∨ ∃ y z, y ∈ L.getD j [] ∧ z ∈ L.getD j [] ∧ y ≠ z ∧ -y ∉ F ∧ -z ∉ F) : Known L F (j + 1) more := by
  rcases h with ⟨h1, h2⟩ | h
  · refine .inl ⟨h1, ?_⟩
    rw [take_snocC L j hj]
    intro c hcm
    rcases List.mem_append.1 hcm with e | e
    · exact h2 c e
    · rw [List.mem_singleton.1 e]; exact hc
  · exact .inr h
theorem Known.one {L : List (List Int)} {F : List Int} {j : Nat} {more x : Int} (h : Known L F j more) (hj : j < L.length) (x0 : x ≠ 0) (h1 : x ∉ F) (h2 : -x ∉ F) (hx : x ∈ L.getD j []) (hy : ∀ y ∈ L.getD j [], y = x ∨ -y ∈ F) : Known L F (j + 1) x :=
  .inr ⟨x0, h1, h2, _, getD_memC L j hj, hx, hy⟩
theorem Known.closed {L : List (List Int)} {A F : List Int} (h : Known L F L.length 0) (hs : Sofar L A F) : Closed L A F := by
  refine ⟨hs.sound, hs.has, hs.cons, fun c hc => ?_⟩
  rcases h with ⟨_, h⟩ | ⟨h, _⟩
  · exact h c (by rw [List.take_length]; exact hc)
  · exact absurd rfl h
theorem Known.forced {L : List (List Int)} {A F : List Int} {j : Nat} {more : Int} (h : Known L F j more) (hm : more ≠ 0) (hs : Sofar L A F) : Forced L A more ∧ more ∉ F ∧ -more ∉ F := by
  rcases h with ⟨h, _⟩ | ⟨_, h1, h2, c, hc, hx, hy⟩
  · exact absurd h hm
  · exact ⟨.unit c more hc hx (fun y hyc hne => hs.sound _ ((hy y hyc).resolve_left hne)), h1, h2⟩
theorem sortF_id {F : List Int} (h : F.Pairwise ltP) : sortF F = F := sorted_uniq _ _ (sortF_lt _) h (sortF_mem F)
end Go.Proofs.Ytlebagdildpkmaa
