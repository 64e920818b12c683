/-
  Plain facts on names: going through a text's bytes by the lengths of its runes, and through its runes with a decoder, tell the same names. No program's run, no conditions.
-/
import Derived.Test.YtfimacfpgcdekaaDoorR2
import Derived.Test.YtfimacfpgcdekaaDoorW6
set_option linter.unusedVariables false
namespace Go.Proofs.YtfimacfpgcdekaaDoor

/-- A step of the decoder, and the length of the rune that begins there. -/
def Fits (b0 : Nat) (lg : Nat) (D : Nat × Nat) : Prop :=
  ((D.1 = 65533 ∧ D.2 = 1) ∧ lg = 0) ∨ (¬ (D.1 = 65533 ∧ D.2 = 1) ∧ lg = D.2 ∧ (D.1 < 32 ↔ b0 < 32) ∧ (D.1 = 127 ↔ b0 = 127))
theorem fits_bad (b0 : Nat) : Fits b0 0 (65533, 1) := .inl ⟨⟨rfl, rfl⟩, rfl⟩
theorem fits_good (b0 c n : Nat) (hn : n ≠ 1) (hb : 128 ≤ b0) (hc : 128 ≤ c) : Fits b0 n (c, n) := by
  refine .inr ⟨fun h => hn h.2, rfl, ?_, ?_⟩
  · show c < 32 ↔ b0 < 32
    omega
  · show c = 127 ↔ b0 = 127
    omega
theorem longE_bad (n least c : Nat) (h : c < least ∨ 1114111 < c ∨ 55296 ≤ c ∧ c < 57344) : longE n least (some c) = 0 := by rw [longE, if_pos h]
theorem longE_good (n least c : Nat) (h : ¬ (c < least ∨ 1114111 < c ∨ 55296 ≤ c ∧ c < 57344)) : longE n least (some c) = n := by rw [longE, if_neg h]
theorem div64 (b : Nat) : b / 64 = 2 ↔ 128 ≤ b ∧ b ≤ 191 := by omega
theorem fits4 (b0 b1 b2 b3 n : Nat) (h0 : 240 ≤ b0) (h0' : b0 < 248) (R : Option Nat)
    (hR : R = if 1 < n ∧ 128 ≤ b1 ∧ b1 ≤ 191 ∧ 2 < n ∧ 128 ≤ b2 ∧ b2 ≤ 191 ∧ 3 < n ∧ 128 ≤ b3 ∧ b3 ≤ 191 then some ((((b0 - 240) * 64 + b1 - 128) * 64 + b2 - 128) * 64 + b3 - 128) else none) :
    Fits b0 (longE 4 65536 R) (Lib.decodeN n b0 b1 b2 b3) := by
  have n1 : ¬ b0 < 128 := by omega
  have n2 : ¬ (b0 / 32 = 6 ∧ (1 < n ∧ b1 / 64 = 2)) := fun h => by have := h.1; omega
  have n3 : ¬ (b0 / 16 = 14 ∧ (1 < n ∧ b1 / 64 = 2) ∧ (2 < n ∧ b2 / 64 = 2)) := fun h => by have := h.1; omega
  have n4 : b0 / 8 = 30 := by omega
  unfold Lib.decodeN
  rw [if_neg n1, if_neg n2, if_neg n3]
  by_cases hc : 1 < n ∧ 128 ≤ b1 ∧ b1 ≤ 191 ∧ 2 < n ∧ 128 ≤ b2 ∧ b2 ≤ 191 ∧ 3 < n ∧ 128 ≤ b3 ∧ b3 ≤ 191
  · rw [if_pos hc] at hR
    obtain ⟨k1, k2, k3, k4, k5, k6, k7, k8, k9⟩ := hc
    rw [if_pos ⟨n4, ⟨k1, (div64 b1).2 ⟨k2, k3⟩⟩, ⟨k4, (div64 b2).2 ⟨k5, k6⟩⟩, k7, (div64 b3).2 ⟨k8, k9⟩⟩]
    have e : (((b0 - 240) * 64 + b1 - 128) * 64 + b2 - 128) * 64 + b3 - 128 = b0 % 8 * 262144 + b1 % 64 * 4096 + b2 % 64 * 64 + b3 % 64 := by omega
    rw [e] at hR
    generalize b0 % 8 * 262144 + b1 % 64 * 4096 + b2 % 64 * 64 + b3 % 64 = c at *
    rw [hR]
    clear hR e
    by_cases hg : c ≥ 65536 ∧ (c < 55296 ∨ (57344 ≤ c ∧ c ≤ 1114111))
    · have hx : ¬ (c < 65536 ∨ 1114111 < c ∨ 55296 ≤ c ∧ c < 57344) := by omega
      rw [if_pos hg, longE_good _ _ _ hx]; exact fits_good b0 c 4 (by omega) (by omega) (by omega)
    · have hx : c < 65536 ∨ 1114111 < c ∨ 55296 ≤ c ∧ c < 57344 := by omega
      rw [if_neg hg, longE_bad _ _ _ hx]; exact fits_bad b0
  · rw [if_neg hc] at hR
    rw [hR, if_neg (fun h => hc ⟨h.2.1.1, ((div64 b1).1 h.2.1.2).1, ((div64 b1).1 h.2.1.2).2, h.2.2.1.1, ((div64 b2).1 h.2.2.1.2).1, ((div64 b2).1 h.2.2.1.2).2, h.2.2.2.1, ((div64 b3).1 h.2.2.2.2).1, ((div64 b3).1 h.2.2.2.2).2⟩)]
    exact fits_bad b0
theorem fits3 (b0 b1 b2 b3 n : Nat) (h0 : 224 ≤ b0) (h0' : b0 < 240) (R : Option Nat)
    (hR : R = if 1 < n ∧ 128 ≤ b1 ∧ b1 ≤ 191 ∧ 2 < n ∧ 128 ≤ b2 ∧ b2 ≤ 191 then some (((b0 - 224) * 64 + b1 - 128) * 64 + b2 - 128) else none) :
    Fits b0 (longE 3 2048 R) (Lib.decodeN n b0 b1 b2 b3) := by
  have n1 : ¬ b0 < 128 := by omega
  have n2 : ¬ (b0 / 32 = 6 ∧ (1 < n ∧ b1 / 64 = 2)) := fun h => by have := h.1; omega
  have n3 : b0 / 16 = 14 := by omega
  have n4 : ¬ b0 / 8 = 30 := by omega
  unfold Lib.decodeN
  rw [if_neg n1, if_neg n2]
  by_cases hc : 1 < n ∧ 128 ≤ b1 ∧ b1 ≤ 191 ∧ 2 < n ∧ 128 ≤ b2 ∧ b2 ≤ 191
  · rw [if_pos hc] at hR
    obtain ⟨k1, k2, k3, k4, k5, k6⟩ := hc
    rw [if_pos ⟨n3, ⟨k1, (div64 b1).2 ⟨k2, k3⟩⟩, k4, (div64 b2).2 ⟨k5, k6⟩⟩]
    have e : ((b0 - 224) * 64 + b1 - 128) * 64 + b2 - 128 = b0 % 16 * 4096 + b1 % 64 * 64 + b2 % 64 := by omega
    rw [e] at hR
    generalize b0 % 16 * 4096 + b1 % 64 * 64 + b2 % 64 = c at *
    rw [hR]
    clear hR e
    by_cases hg : c ≥ 2048 ∧ (c < 55296 ∨ (57344 ≤ c ∧ c ≤ 1114111))
    · have hx : ¬ (c < 2048 ∨ 1114111 < c ∨ 55296 ≤ c ∧ c < 57344) := by omega
      rw [if_pos hg, longE_good _ _ _ hx]; exact fits_good b0 c 3 (by omega) (by omega) (by omega)
    · have hx : c < 2048 ∨ 1114111 < c ∨ 55296 ≤ c ∧ c < 57344 := by omega
      rw [if_neg hg, longE_bad _ _ _ hx]; exact fits_bad b0
  · rw [if_neg hc] at hR
    rw [hR, if_neg (fun h => hc ⟨h.2.1.1, ((div64 b1).1 h.2.1.2).1, ((div64 b1).1 h.2.1.2).2, h.2.2.1, ((div64 b2).1 h.2.2.2).1, ((div64 b2).1 h.2.2.2).2⟩), if_neg (fun h => n4 h.1)]
    exact fits_bad b0
theorem fits2 (b0 b1 b2 b3 n : Nat) (h0 : 192 ≤ b0) (h0' : b0 < 224) (R : Option Nat)
    (hR : R = if 1 < n ∧ 128 ≤ b1 ∧ b1 ≤ 191 then some ((b0 - 192) * 64 + b1 - 128) else none) :
    Fits b0 (longE 2 128 R) (Lib.decodeN n b0 b1 b2 b3) := by
  have n1 : ¬ b0 < 128 := by omega
  have n2 : b0 / 32 = 6 := by omega
  have n3 : ¬ b0 / 16 = 14 := by omega
  have n4 : ¬ b0 / 8 = 30 := by omega
  unfold Lib.decodeN
  rw [if_neg n1]
  by_cases hc : 1 < n ∧ 128 ≤ b1 ∧ b1 ≤ 191
  · rw [if_pos hc] at hR
    obtain ⟨k1, k2, k3⟩ := hc
    rw [if_pos ⟨n2, k1, (div64 b1).2 ⟨k2, k3⟩⟩]
    have e : (b0 - 192) * 64 + b1 - 128 = b0 % 32 * 64 + b1 % 64 := by omega
    have hlt : b0 % 32 * 64 + b1 % 64 < 2048 := by omega
    rw [e] at hR
    generalize b0 % 32 * 64 + b1 % 64 = c at *
    rw [hR]
    clear hR e
    by_cases hg : c ≥ 128
    · have hx : ¬ (c < 128 ∨ 1114111 < c ∨ 55296 ≤ c ∧ c < 57344) := by omega
      rw [if_pos hg, longE_good _ _ _ hx]; exact fits_good b0 c 2 (by omega) (by omega) (by omega)
    · have hx : c < 128 ∨ 1114111 < c ∨ 55296 ≤ c ∧ c < 57344 := by omega
      rw [if_neg hg, longE_bad _ _ _ hx]; exact fits_bad b0
  · rw [if_neg hc] at hR
    rw [hR, if_neg (fun h => hc ⟨h.2.1, ((div64 b1).1 h.2.2).1, ((div64 b1).1 h.2.2).2⟩), if_neg (fun h => n3 h.1), if_neg (fun h => n4 h.1)]
    exact fits_bad b0
theorem longF1 (t : List UInt8) (c : Nat) : longF 1 c t = if 1 < t.length + 1 ∧ 128 ≤ (t.getD 0 0).toNat ∧ (t.getD 0 0).toNat ≤ 191 then some (c * 64 + (t.getD 0 0).toNat - 128) else none := by
  cases t with
  | nil => simp [longF]
  | cons b t =>
    simp only [longF, List.getD_cons_zero, List.length_cons]
    by_cases h : b.toNat < 128 ∨ 191 < b.toNat
    · rw [if_pos h, if_neg (by omega)]
    · rw [if_neg h, if_pos (by omega)]
theorem longF2 (t : List UInt8) (c : Nat) : longF 2 c t = if 1 < t.length + 1 ∧ 128 ≤ (t.getD 0 0).toNat ∧ (t.getD 0 0).toNat ≤ 191 ∧ 2 < t.length + 1 ∧ 128 ≤ (t.getD 1 0).toNat ∧ (t.getD 1 0).toNat ≤ 191 then some ((c * 64 + (t.getD 0 0).toNat - 128) * 64 + (t.getD 1 0).toNat - 128) else none := by
  cases t with
  | nil => simp [longF]
  | cons b t =>
    show (if b.toNat < 128 ∨ 191 < b.toNat then none else longF 1 (c * 64 + b.toNat - 128) t) = _
    rw [longF1]
    simp only [List.getD_cons_zero, List.getD_cons_succ, List.length_cons]
    by_cases h : b.toNat < 128 ∨ 191 < b.toNat
    · rw [if_pos h, if_neg (by omega)]
    · rw [if_neg h]
      by_cases h2 : 1 < t.length + 1 ∧ 128 ≤ (t.getD 0 0).toNat ∧ (t.getD 0 0).toNat ≤ 191
      · rw [if_pos h2, if_pos (by omega)]
      · rw [if_neg h2, if_neg (by omega)]
theorem longF3 (t : List UInt8) (c : Nat) : longF 3 c t = if 1 < t.length + 1 ∧ 128 ≤ (t.getD 0 0).toNat ∧ (t.getD 0 0).toNat ≤ 191 ∧ 2 < t.length + 1 ∧ 128 ≤ (t.getD 1 0).toNat ∧ (t.getD 1 0).toNat ≤ 191 ∧ 3 < t.length + 1 ∧ 128 ≤ (t.getD 2 0).toNat ∧ (t.getD 2 0).toNat ≤ 191 then some (((c * 64 + (t.getD 0 0).toNat - 128) * 64 + (t.getD 1 0).toNat - 128) * 64 + (t.getD 2 0).toNat - 128) else none := by
  cases t with
  | nil => simp [longF]
  | cons b t =>
    show (if b.toNat < 128 ∨ 191 < b.toNat then none else longF 2 (c * 64 + b.toNat - 128) t) = _
    rw [longF2]
    simp only [List.getD_cons_zero, List.getD_cons_succ, List.length_cons]
    by_cases h : b.toNat < 128 ∨ 191 < b.toNat
    · rw [if_pos h, if_neg (by omega)]
    · rw [if_neg h]
      by_cases h2 : 1 < t.length + 1 ∧ 128 ≤ (t.getD 0 0).toNat ∧ (t.getD 0 0).toNat ≤ 191 ∧ 2 < t.length + 1 ∧ 128 ≤ (t.getD 1 0).toNat ∧ (t.getD 1 0).toNat ≤ 191
      · rw [if_pos h2, if_pos (by omega)]
      · rw [if_neg h2, if_neg (by omega)]
theorem long_fits (b : UInt8) (t : List UInt8) : Fits b.toNat (longL (b :: t)) (Lib.decodeL (b :: t)) := by
  rw [Lib.decodeL_N]
  simp only [List.getD_cons_zero, List.getD_cons_succ, List.length_cons]
  have hb : b.toNat < 256 := b.toNat_lt
  rw [longL]
  by_cases c4 : 240 ≤ b.toNat ∧ b.toNat < 248
  · rw [if_pos c4]; exact fits4 _ _ _ _ _ c4.1 c4.2 _ (longF3 t _)
  · rw [if_neg c4]
    by_cases c3 : 224 ≤ b.toNat ∧ b.toNat < 240
    · rw [if_pos c3]; exact fits3 _ _ _ _ _ c3.1 c3.2 _ (longF2 t _)
    · rw [if_neg c3]
      by_cases c2 : 192 ≤ b.toNat ∧ b.toNat < 224
      · rw [if_pos c2]; exact fits2 _ _ _ _ _ c2.1 c2.2 _ (longF1 t _)
      · rw [if_neg c2]
        by_cases c1 : 128 ≤ b.toNat
        · rw [if_pos c1]
          unfold Lib.decodeN
          have n2 : ¬ b.toNat / 32 = 6 := by omega
          have n3 : ¬ b.toNat / 16 = 14 := by omega
          have n4 : ¬ b.toNat / 8 = 30 := by omega
          rw [if_neg (by omega), if_neg (fun h => n2 h.1), if_neg (fun h => n3 h.1), if_neg (fun h => n4 h.1)]
          exact fits_bad _
        · rw [if_neg c1]
          unfold Lib.decodeN
          rw [if_pos (by omega)]
          exact .inr ⟨fun h => by have := h.1; simp only at this; omega, rfl, Iff.rfl, Iff.rfl⟩
/-- The going by lengths. -/
def nmR : Nat → Nat → List UInt8 → Bool
  | 0, m, _ => decide (1 ≤ m ∧ m ≤ 40)
  | f + 1, m, l => if l = [] then decide (1 ≤ m ∧ m ≤ 40) else if longL l = 0 ∨ (l.getD 0 0).toNat < 32 ∨ (l.getD 0 0).toNat = 127 then false else nmR f (m + 1) (l.drop (longL l))
theorem nmR_many : ∀ (f m : Nat) (l : List UInt8), 40 < m → nmR f m l = false
  | 0, m, l, h => by unfold nmR; exact decide_eq_false (by omega)
  | f + 1, m, l, h => by
    unfold nmR
    split
    · exact decide_eq_false (by omega)
    · split
      · rfl
      · exact nmR_many f (m + 1) _ (by omega)
theorem nmR_eq : ∀ (f m : Nat) (l : List UInt8), l.length ≤ f → m ≤ 40 → nmR f m l = (Lib.validD l && nmF f m l)
  | 0, m, l, hl, hm => by
    have : l = [] := List.eq_nil_of_length_eq_zero (by omega)
    subst this
    have hv : Lib.validD [] = true := rfl
    rw [hv, Bool.true_and, nmR, nmF, decide_eq_decide]
    omega
  | f + 1, m, l, hl, hm => by
    cases l with
    | nil =>
      have hv : Lib.validD [] = true := rfl
      rw [hv, Bool.true_and, nmR, nmF, if_pos rfl, if_pos rfl, decide_eq_decide]
      omega
    | cons b t =>
      have hfit := long_fits b t
      have hw := Lib.decodeL_width (b :: t)
      have hne : (b :: t) ≠ [] := by simp
      rw [nmR, if_neg hne, nmF, if_neg hne, Lib.validD_step _ hne]
      simp only [List.getD_cons_zero]
      rcases hfit with ⟨hbad, h0⟩ | ⟨hgood, h0, h32, h127⟩
      · rw [if_pos (.inl h0), if_pos hbad, Bool.false_and]
      · rw [if_neg hgood]
        by_cases hx : (Lib.decodeL (b :: t)).1 < 32 ∨ (Lib.decodeL (b :: t)).1 = 127
        · rw [if_pos (.inr (by rw [← h32, ← h127]; exact hx)), if_pos (.inr hx), Bool.and_false]
        · rw [if_neg (by rw [← h32, ← h127]; omega)]
          have hlen : ((b :: t).drop (longL (b :: t))).length ≤ f := by rw [List.length_drop]; omega
          by_cases h40 : 40 ≤ m
          · rw [if_pos (.inl h40), Bool.and_false]
            exact nmR_many f (m + 1) _ (by omega)
          · rw [if_neg (by omega), nmR_eq f (m + 1) _ hlen (by omega), h0]
theorem nmR_isNm (l : List UInt8) : nmR l.length 0 l = isNm l := nmR_eq l.length 0 l (Nat.le_refl _) (by omega)
end Go.Proofs.YtfimacfpgcdekaaDoor
