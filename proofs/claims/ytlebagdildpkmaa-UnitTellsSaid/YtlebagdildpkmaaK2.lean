/-
  Rows of numbers none of which is there twice are short; what is seen of a clause that is entered. No conditions.
-/
import Derived.Test.YtlebagdildpkmaaK1
set_option linter.unusedVariables false
namespace Go.Proofs.Ytlebagdildpkmaa
theorem nodup_le (n : Nat) : ∀ (l : List Int) (a : Int), l.Nodup → (∀ x ∈ l, a ≤ x ∧ x < a + n) → l.length ≤ n := by
  induction n with
  | zero =>
    intro l a _ h
    match l with
    | [] => simp
    | x :: _ => have := h x (by simp); omega
  | succ n ih =>
    intro l a hn h
    by_cases hm : (a + n) ∈ l
    · have h1 := ih (l.erase (a + n)) a (hn.erase _) (by
        intro x hx
        rw [hn.mem_erase_iff] at hx
        have := h x hx.2
        omega)
      rw [List.length_erase_of_mem hm] at h1
      omega
    · have h1 := ih l a hn (by
        intro x hx
        have := h x hx
        have : x ≠ a + n := fun e => hm (e ▸ hx)
        omega)
      omega
/-- Literals of at most 100000 variables. -/
def Lits (c : List Int) : Prop := ∀ y ∈ c, y ≠ 0 ∧ -100000 ≤ y ∧ y ≤ 100000
theorem Forced.lit {L : List (List Int)} {A : List Int} (hL : ∀ c ∈ L, Lits c) (hA : Lits A) {x : Int} (h : Forced L A x) : x ≠ 0 ∧ -100000 ≤ x ∧ x ≤ 100000 := by
  cases h with
  | given _ h => exact hA x h
  | unit c _ hc hx _ => exact hL c hc x hx
theorem Inv.len {L E : List (List Int)} {A D : List Int} {x : Int} {S : List Nat} {F : List Int} {R : Int → List Nat} {W : Nat → Wt} (h : Inv L E A D x S F R W) (hL : ∀ c ∈ L, Lits c) (hA : Lits A) : F.length ≤ 200001 :=
  nodup_le 200001 F (-100000) h.fnod (fun z hz => by have := (h.sound z hz).lit hL hA; omega)
/-- What is seen of the first k literals of a clause. -/
def Seen (F u : List Int) (k : Nat) (one : Int) : Prop :=
  (∀ y ∈ u.take k, y = one ∨ -y ∈ F) ∧ (one = 0 ∨ (one ∈ u ∧ one ∉ F ∧ -one ∉ F))
theorem Seen.first (F u : List Int) : Seen F u 0 0 := ⟨by simp, .inl rfl⟩
theorem take_snocI (u : List Int) (k : Nat) (h : k < u.length) : u.take (k + 1) = u.take k ++ [u.getD k 0] := by
  rw [List.take_succ_eq_append_getElem h]; simp [List.getD, h]
theorem Seen.next {F u : List Int} {k : Nat} {one : Int} (h : Seen F u k one) (hk : k < u.length) (hx : u.getD k 0 = one ∨ -(u.getD k 0) ∈ F) : Seen F u (k + 1) one := by
  refine ⟨?_, h.2⟩
  rw [take_snocI u k hk]
  intro y hy
  rcases List.mem_append.1 hy with h' | h'
  · exact h.1 y h'
  · rw [List.mem_singleton.1 h']; exact hx
theorem getD_mem (u : List Int) (k : Nat) (hk : k < u.length) : u.getD k 0 ∈ u := by
  simp [List.getD_eq_getElem?_getD, hk]
theorem Seen.set {F u : List Int} {k : Nat} (h : Seen F u k 0) (hu : Lits u) (hk : k < u.length) (h1 : u.getD k 0 ∉ F) (h2 : -(u.getD k 0) ∉ F) : Seen F u (k + 1) (u.getD k 0) := by
  refine ⟨?_, .inr ⟨getD_mem u k hk, h1, h2⟩⟩
  rw [take_snocI u k hk]
  intro y hy
  rcases List.mem_append.1 hy with h' | h'
  · rcases h.1 y h' with e | e
    · exact absurd e (hu y (List.mem_of_mem_take h')).1
    · exact .inr e
  · rw [List.mem_singleton.1 h']; exact .inl rfl
theorem Seen.none {F u : List Int} (h : Seen F u u.length 0) (hu : Lits u) : ∀ y ∈ u, -y ∈ F := by
  intro y hy
  rcases h.1 y (by rw [List.take_length]; exact hy) with e | e
  · exact absurd e (hu y hy).1
  · exact e
theorem Seen.cov {F u : List Int} {k : Nat} {one : Int} (h : Seen F u k one) (hk : k < u.length) : ∀ y ∈ u, y = one ∨ y = u.getD k 0 ∨ y ∈ u.drop (k + 1) ∨ -y ∈ F := by
  intro y hy
  have e : u = u.take k ++ (u.getD k 0 :: u.drop (k + 1)) := by
    have : u.drop k = u.getD k 0 :: u.drop (k + 1) := by rw [List.drop_eq_getElem_cons hk]; simp [List.getD, hk]
    rw [← this, List.take_append_drop]
  rw [e] at hy
  rcases List.mem_append.1 hy with h' | h'
  · rcases h.1 y h' with e | e
    · exact .inl e
    · exact .inr (.inr (.inr e))
  · rcases List.mem_cons.1 h' with h' | h'
    · exact .inr (.inl h')
    · exact .inr (.inr (.inl h'))
/-- What the clauses add to those that wait. -/
def tot (L : List (List Int)) : Nat := (L.map (fun c => c.length + 2)).sum
theorem take_snocC (L : List (List Int)) (k : Nat) (h : k < L.length) : L.take (k + 1) = L.take k ++ [L.getD k []] := by
  rw [List.take_succ_eq_append_getElem h]; simp [List.getD, h]
theorem tot_snoc (L : List (List Int)) (c : List Int) : tot (L ++ [c]) = tot L + (c.length + 2) := by simp [tot]
theorem tot_take (L : List (List Int)) (k : Nat) : tot (L.take k) ≤ tot L := by
  have := List.take_append_drop k L
  have e : tot L = tot (L.take k) + tot (L.drop k) := by
    have h2 : tot (L.take k ++ L.drop k) = tot (L.take k) + tot (L.drop k) := by
      generalize L.take k = a
      generalize L.drop k = b
      simp [tot]
    rw [this] at h2
    exact h2
  omega
theorem getD_memC (L : List (List Int)) (k : Nat) (hk : k < L.length) : L.getD k [] ∈ L := by
  simp [List.getD_eq_getElem?_getD, hk]
end Go.Proofs.Ytlebagdildpkmaa
