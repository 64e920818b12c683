/-
  Plain facts on names: with a line's end in it a text is none; two names that aren't too long together, one behind the other, are one; what stands ahead of the first line's end. No program's run, no conditions.
-/
import Derived.Test.YtfimacfpgcdekaaDoorR3
set_option linter.unusedVariables false
namespace Go.Proofs.YtfimacfpgcdekaaDoor

theorem longE_some {n least : Nat} {R : Option Nat} (h : longE n least R ≠ 0) : ∃ c, R = some c ∧ longE n least R = n := by
  cases R with
  | none => exact absurd rfl h
  | some c =>
    refine ⟨c, rfl, ?_⟩
    rw [longE] at h ⊢
    split
    · rename_i hc; rw [if_pos hc] at h; exact absurd rfl h
    · rfl
/-- A rune's other bytes continue it, and it lies in the text. -/
theorem longL_cont (l : List UInt8) (h : longL l ≠ 0) : longL l ≤ l.length ∧ ∀ j, 1 ≤ j → j < longL l → 128 ≤ (l.getD j 0).toNat := by
  cases l with
  | nil => exact absurd rfl h
  | cons b t =>
    rw [longL] at h ⊢
    by_cases c4 : 240 ≤ b.toNat ∧ b.toNat < 248
    · rw [if_pos c4] at h ⊢
      obtain ⟨c, hR, hE⟩ := longE_some h
      rw [hE]
      rw [longF3] at hR
      by_cases hc : 1 < t.length + 1 ∧ 128 ≤ (t.getD 0 0).toNat ∧ (t.getD 0 0).toNat ≤ 191 ∧ 2 < t.length + 1 ∧ 128 ≤ (t.getD 1 0).toNat ∧ (t.getD 1 0).toNat ≤ 191 ∧ 3 < t.length + 1 ∧ 128 ≤ (t.getD 2 0).toNat ∧ (t.getD 2 0).toNat ≤ 191
      · refine ⟨by simp only [List.length_cons]; omega, fun j h1 h2 => ?_⟩
        have : j = 1 ∨ j = 2 ∨ j = 3 := by omega
        rcases this with rfl | rfl | rfl <;> simp only [List.getD_cons_succ] <;> omega
      · rw [if_neg hc] at hR; cases hR
    · rw [if_neg c4] at h ⊢
      by_cases c3 : 224 ≤ b.toNat ∧ b.toNat < 240
      · rw [if_pos c3] at h ⊢
        obtain ⟨c, hR, hE⟩ := longE_some h
        rw [hE]
        rw [longF2] at hR
        by_cases hc : 1 < t.length + 1 ∧ 128 ≤ (t.getD 0 0).toNat ∧ (t.getD 0 0).toNat ≤ 191 ∧ 2 < t.length + 1 ∧ 128 ≤ (t.getD 1 0).toNat ∧ (t.getD 1 0).toNat ≤ 191
        · refine ⟨by simp only [List.length_cons]; omega, fun j h1 h2 => ?_⟩
          have : j = 1 ∨ j = 2 := by omega
          rcases this with rfl | rfl <;> simp only [List.getD_cons_succ] <;> omega
        · rw [if_neg hc] at hR; cases hR
      · rw [if_neg c3] at h ⊢
        by_cases c2 : 192 ≤ b.toNat ∧ b.toNat < 224
        · rw [if_pos c2] at h ⊢
          obtain ⟨c, hR, hE⟩ := longE_some h
          rw [hE]
          rw [longF1] at hR
          by_cases hc : 1 < t.length + 1 ∧ 128 ≤ (t.getD 0 0).toNat ∧ (t.getD 0 0).toNat ≤ 191
          · refine ⟨by simp only [List.length_cons]; omega, fun j h1 h2 => ?_⟩
            obtain rfl : j = 1 := by omega
            simp only [List.getD_cons_succ]; omega
          · rw [if_neg hc] at hR; cases hR
        · rw [if_neg c2] at h ⊢
          by_cases c1 : 128 ≤ b.toNat
          · rw [if_pos c1] at h; exact absurd rfl h
          · rw [if_neg c1]
            exact ⟨by simp, fun j h1 h2 => by omega⟩
theorem getD_app (l t : List UInt8) (j : Nat) (h : j < l.length) : (l ++ t).getD j 0 = l.getD j 0 := by
  simp only [List.getD_eq_getElem?_getD, List.getElem?_append_left h]
theorem longF_app : ∀ (r c : Nat) (l t : List UInt8) (x : Nat), longF r c l = some x → longF r c (l ++ t) = some x
  | 0, c, l, t, x, h => by rw [longF] at h ⊢; exact h
  | r + 1, c, [], t, x, h => by rw [longF] at h; cases h
  | r + 1, c, b :: l, t, x, h => by
    rw [longF] at h
    rw [List.cons_append, longF]
    split
    · rename_i hc; rw [if_pos hc] at h; exact h
    · rename_i hc; rw [if_neg hc] at h; exact longF_app r _ l t x h
/-- With something behind a rune is as long. -/
theorem longL_app (l t : List UInt8) (h : longL l ≠ 0) : longL (l ++ t) = longL l := by
  cases l with
  | nil => exact absurd rfl h
  | cons b l =>
    rw [List.cons_append]
    rw [longL] at h
    rw [longL, longL]
    by_cases c4 : 240 ≤ b.toNat ∧ b.toNat < 248
    · rw [if_pos c4] at h ⊢
      rw [if_pos c4]
      obtain ⟨c, hR, hE⟩ := longE_some h
      rw [hR, longF_app _ _ _ t c hR]
    · rw [if_neg c4] at h ⊢
      rw [if_neg c4]
      by_cases c3 : 224 ≤ b.toNat ∧ b.toNat < 240
      · rw [if_pos c3] at h ⊢
        rw [if_pos c3]
        obtain ⟨c, hR, hE⟩ := longE_some h
        rw [hR, longF_app _ _ _ t c hR]
      · rw [if_neg c3] at h ⊢
        rw [if_neg c3]
        by_cases c2 : 192 ≤ b.toNat ∧ b.toNat < 224
        · rw [if_pos c2] at h ⊢
          rw [if_pos c2]
          obtain ⟨c, hR, hE⟩ := longE_some h
          rw [hR, longF_app _ _ _ t c hR]
        · rw [if_neg c2, if_neg c2]
theorem nmR_ten : ∀ (f m : Nat) (a t : List UInt8), (a ++ 10 :: t).length ≤ f → nmR f m (a ++ 10 :: t) = false
  | 0, m, a, t, h => by simp only [List.length_append, List.length_cons] at h; omega
  | f + 1, m, a, t, h => by
    have hne : a ++ 10 :: t ≠ [] := by simp
    rw [nmR, if_neg hne]
    by_cases hb : longL (a ++ 10 :: t) = 0 ∨ ((a ++ 10 :: t).getD 0 0).toNat < 32 ∨ ((a ++ 10 :: t).getD 0 0).toNat = 127
    · rw [if_pos hb]
    · rw [if_neg hb]
      have hL : longL (a ++ 10 :: t) ≠ 0 := fun e => hb (.inl e)
      obtain ⟨hle, hcont⟩ := longL_cont _ hL
      have ha : 0 < a.length := by
        rcases a with _ | ⟨x, a⟩
        · exact absurd (.inr (.inl (show (10 : UInt8).toNat < 32 by decide))) hb
        · simp
      have hLa : longL (a ++ 10 :: t) ≤ a.length := by
        rcases Nat.lt_or_ge a.length (longL (a ++ 10 :: t)) with hlt | hge
        · have := hcont a.length ha hlt
          have e : (a ++ 10 :: t).getD a.length 0 = 10 := by simp [List.getD_eq_getElem?_getD]
          rw [e] at this
          exact absurd this (by decide)
        · exact hge
      rw [List.drop_append_of_le_length hLa]
      refine nmR_ten f (m + 1) _ t ?_
      simp only [List.length_append, List.length_cons, List.length_drop] at h ⊢
      omega
theorem isNm_ten (a t : List UInt8) : isNm (a ++ 10 :: t) = false := by rw [← nmR_isNm]; exact nmR_ten _ _ a t (Nat.le_refl _)
theorem isNm_no_ten (l : List UInt8) (h : isNm l = true) : ∀ c ∈ l, c ≠ 10 := by
  rintro c hc rfl
  obtain ⟨a, t, rfl⟩ := List.append_of_mem hc
  rw [isNm_ten] at h
  cases h
theorem nmR_shift : ∀ (f m m' : Nat) (t : List UInt8), nmR f m t = true → m ≤ m' → m' + t.length ≤ 40 → nmR f m' t = true
  | 0, m, m', t, h, h1, h2 => by rw [nmR] at h ⊢; have := of_decide_eq_true h; exact decide_eq_true (by omega)
  | f + 1, m, m', t, h, h1, h2 => by
    rw [nmR] at h ⊢
    by_cases ht : t = []
    · rw [if_pos ht] at h ⊢; have := of_decide_eq_true h; exact decide_eq_true (by subst ht; simp at h2; omega)
    · rw [if_neg ht] at h ⊢
      by_cases hb : longL t = 0 ∨ (t.getD 0 0).toNat < 32 ∨ (t.getD 0 0).toNat = 127
      · rw [if_pos hb] at h; cases h
      · rw [if_neg hb] at h ⊢
        have hL : longL t ≠ 0 := fun e => hb (.inl e)
        obtain ⟨hle, _⟩ := longL_cont t hL
        exact nmR_shift f (m + 1) (m' + 1) _ h (by omega) (by rw [List.length_drop]; omega)
theorem nmR_fuel : ∀ (f g m : Nat) (t : List UInt8), t.length ≤ f → t.length ≤ g → nmR f m t = nmR g m t
  | 0, 0, m, t, _, _ => rfl
  | 0, g + 1, m, t, h, _ => by
    have : t = [] := List.eq_nil_of_length_eq_zero (by omega)
    subst this; rw [nmR, nmR, if_pos rfl]
  | f + 1, 0, m, t, _, h => by
    have : t = [] := List.eq_nil_of_length_eq_zero (by omega)
    subst this; rw [nmR, nmR, if_pos rfl]
  | f + 1, g + 1, m, t, h1, h2 => by
    rw [nmR, nmR]
    by_cases ht : t = []
    · rw [if_pos ht, if_pos ht]
    · rw [if_neg ht, if_neg ht]
      by_cases hb : longL t = 0 ∨ (t.getD 0 0).toNat < 32 ∨ (t.getD 0 0).toNat = 127
      · rw [if_pos hb, if_pos hb]
      · rw [if_neg hb, if_neg hb]
        have hL : longL t ≠ 0 := fun e => hb (.inl e)
        have hp := List.length_pos_iff.2 ht
        exact nmR_fuel f g (m + 1) _ (by rw [List.length_drop]; omega) (by rw [List.length_drop]; omega)
theorem nmR_app : ∀ (f m : Nat) (l t : List UInt8), nmR f m l = true → (l ++ t).length ≤ f → ∃ m', m ≤ m' ∧ m' ≤ m + l.length ∧ nmR f m (l ++ t) = nmR f m' t
  | 0, m, l, t, h, hl => by
    have : l = [] := List.eq_nil_of_length_eq_zero (by rw [List.length_append] at hl; omega)
    subst this
    exact ⟨m, Nat.le_refl _, by simp, rfl⟩
  | f + 1, m, l, t, h, hl => by
    by_cases hn : l = []
    · subst hn; exact ⟨m, Nat.le_refl _, by simp, rfl⟩
    · rw [nmR, if_neg hn] at h
      by_cases hb : longL l = 0 ∨ (l.getD 0 0).toNat < 32 ∨ (l.getD 0 0).toNat = 127
      · rw [if_pos hb] at h; cases h
      · rw [if_neg hb] at h
        have hL : longL l ≠ 0 := fun e => hb (.inl e)
        obtain ⟨hle, _⟩ := longL_cont l hL
        have hp := List.length_pos_iff.2 hn
        rw [List.length_append] at hl
        obtain ⟨m', h1, h2, h3⟩ := nmR_app f (m + 1) (l.drop (longL l)) t h (by rw [List.length_append, List.length_drop]; omega)
        rw [List.length_drop] at h2
        refine ⟨m', by omega, by omega, ?_⟩
        have hne : l ++ t ≠ [] := by simp [hn]
        rw [nmR, if_neg hne, longL_app l t hL, getD_app l t 0 hp, if_neg hb, List.drop_append_of_le_length hle, h3]
        exact nmR_fuel f (f + 1) m' t (by omega) (by omega)
theorem isNm_app (s t : List UInt8) (hs : isNm s = true) (ht : isNm t = true) (h : s.length + t.length ≤ 40) : isNm (s ++ t) = true := by
  rw [← nmR_isNm] at hs ht ⊢
  have h1 : nmR (s ++ t).length 0 s = true := by rw [nmR_fuel _ s.length 0 s (by simp) (Nat.le_refl _)]; exact hs
  have h2 : nmR (s ++ t).length 0 t = true := by rw [nmR_fuel _ t.length 0 t (by simp) (Nat.le_refl _)]; exact ht
  obtain ⟨m', _, h4, h5⟩ := nmR_app _ 0 s t h1 (Nat.le_refl _)
  rw [h5]
  exact nmR_shift _ 0 m' t h2 (by omega) (by omega)
theorem nlen_ten (s t : List UInt8) (h : ∀ c ∈ s, c ≠ 10) : nlen (s ++ 10 :: t) = s.length := by
  induction s with
  | nil => rfl
  | cons c s ih =>
    have hc := h c (by simp)
    have ih := ih (fun d hd => h d (by simp [hd]))
    unfold nlen at ih ⊢
    rw [List.cons_append, List.takeWhile_cons_of_pos (p := fun c => c != 10) (by simp [hc]), List.length_cons, ih]
    rfl
theorem nameS_named (s t : List UInt8) (h : isNm s = true) : nameS (s ++ 10 :: t) = (s, s.length, 0) := by
  unfold nameS
  rw [nlen_ten s t (isNm_no_ten s h), List.take_left, h]
  rfl
theorem nameS_ok (l : List UInt8) : ((nameS l).2.2 = 0 ∧ isNm (nameS l).1 = true) ∨ ((nameS l).2.2 = 2 ∧ (nameS l).1 = []) := by
  unfold nameS
  cases h : isNm (l.take (nlen l)) with
  | true => exact .inl ⟨rfl, h⟩
  | false => exact .inr ⟨rfl, rfl⟩
end Go.Proofs.YtfimacfpgcdekaaDoor
