/-
  Plain facts on the figures of a number: they are read back as that number, with anything but a figure behind, and with a nought in the first one's place they are none, if there are more. No program, no conditions.
-/
import Derived.Test.YtplcabecbofjpaaDoorW3
set_option linter.unusedVariables false
namespace Go.Proofs.YtplcabecbofjpaaDoor

/-- A number's figures. -/
def figs (n : Nat) : List UInt8 := if h : 9 < n then figs (n / 10) ++ [UInt8.ofNat (48 + n % 10)] else [UInt8.ofNat (48 + n)]
termination_by n
decreasing_by omega
theorem figs_more (n : Nat) (h : 9 < n) : figs n = figs (n / 10) ++ [UInt8.ofNat (48 + n % 10)] := by rw [figs, dif_pos h]
theorem figs_last (n : Nat) (h : ¬ 9 < n) : figs n = [UInt8.ofNat (48 + n)] := by rw [figs, dif_neg h]
theorem fig_nat (k : Nat) (h : k ≤ 9) : (UInt8.ofNat (48 + k)).toNat = 48 + k := by rw [UInt8.toNat_ofNat']; omega

def val : Int → List UInt8 → Int
  | n, [] => n
  | n, c :: t => val (n * 10 + ((c.toNat : Int) - 48)) t
theorem val_snoc : ∀ (l : List UInt8) (n : Int) (c : UInt8), val n (l ++ [c]) = val n l * 10 + ((c.toNat : Int) - 48)
  | [], n, c => rfl
  | d :: l, n, c => by show val _ (l ++ [c]) = _; rw [val_snoc l]; rfl
def Digits (l : List UInt8) : Prop := ∀ c ∈ l, 48 ≤ c.toNat ∧ c.toNat ≤ 57
theorem val_ge : ∀ (l : List UInt8) (n : Int), 0 ≤ n → Digits l → n ≤ val n l
  | [], n, _, _ => Int.le_refl _
  | c :: l, n, h, hd => by
    have h0 := hd c (by simp)
    have := val_ge l (n * 10 + ((c.toNat : Int) - 48)) (by omega) (fun d hd' => hd d (by simp [hd']))
    show n ≤ val _ l
    omega
theorem vf_val : ∀ (l : List UInt8) (n : Int), 0 ≤ n → n ≤ 2147483647 → Digits l → vf n l = val n l ∨ (2147483647 < vf n l ∧ 2147483647 < val n l)
  | [], n, _, _, _ => .inl rfl
  | c :: l, n, h, h2, hd => by
    have h0 := hd c (by simp)
    have hd' : Digits l := fun d hd' => hd d (by simp [hd'])
    unfold vf
    by_cases hb : 2147483647 < n * 10 + ((c.toNat : Int) - 48)
    · rw [if_pos hb]
      have := val_ge l (n * 10 + ((c.toNat : Int) - 48)) (by omega) hd'
      exact .inr ⟨hb, by show _ < val _ l; omega⟩
    · rw [if_neg hb]
      exact vf_val l _ (by omega) (by omega) hd'
theorem figs_digits : ∀ (f n : Nat), n ≤ f → Digits (figs n) := by
  intro f
  induction f with
  | zero => intro n h c hc; rw [figs_last n (by omega)] at hc; rw [List.mem_singleton.1 hc, fig_nat n (by omega)]; omega
  | succ f ih =>
    intro n h c hc
    by_cases h9 : 9 < n
    · rw [figs_more n h9] at hc
      simp only [List.mem_append, List.mem_singleton] at hc
      rcases hc with hc | rfl
      · exact ih (n / 10) (by omega) c hc
      · have := fig_nat (n % 10) (by omega); omega
    · rw [figs_last n h9] at hc; rw [List.mem_singleton.1 hc, fig_nat n (by omega)]; omega
theorem figs_val : ∀ (f n : Nat), n ≤ f → val 0 (figs n) = (n : Int) := by
  intro f
  induction f with
  | zero => intro n h; rw [figs_last n (by omega)]; show (0 : Int) * 10 + (((UInt8.ofNat (48 + n)).toNat : Int) - 48) = _; rw [fig_nat n (by omega)]; omega
  | succ f ih =>
    intro n h
    by_cases h9 : 9 < n
    · rw [figs_more n h9, val_snoc, ih (n / 10) (by omega), fig_nat (n % 10) (by omega)]; omega
    · rw [figs_last n h9]; show (0 : Int) * 10 + (((UInt8.ofNat (48 + n)).toNat : Int) - 48) = _; rw [fig_nat n (by omega)]; omega
theorem figs_ne (n : Nat) : figs n ≠ [] := by
  by_cases h9 : 9 < n
  · rw [figs_more n h9]; simp
  · rw [figs_last n h9]; simp
theorem figs_head : ∀ (f n : Nat), n ≤ f → 0 < n → ((figs n).getD 0 0).toNat ≠ 48 := by
  intro f
  induction f with
  | zero => intro n h h0; omega
  | succ f ih =>
    intro n h h0
    by_cases h9 : 9 < n
    · rw [figs_more n h9]
      have hne := figs_ne (n / 10)
      have e : (figs (n / 10) ++ [UInt8.ofNat (48 + n % 10)]).getD 0 0 = (figs (n / 10)).getD 0 0 := by
        cases hf : figs (n / 10) with
        | nil => exact absurd hf hne
        | cons c t => rfl
      rw [e]
      exact ih (n / 10) (by omega) (by omega)
    · rw [figs_last n h9]
      show (UInt8.ofNat (48 + n)).toNat ≠ 48
      rw [fig_nat n (by omega)]; omega
theorem figs_len : ∀ (k n : Nat), n < 10 ^ (k + 1) → (figs n).length ≤ k + 1 := by
  intro k
  induction k with
  | zero => intro n h; rw [figs_last n (by omega)]; simp
  | succ k ih =>
    intro n h
    by_cases h9 : 9 < n
    · rw [figs_more n h9]
      have := ih (n / 10) (by rw [Nat.pow_succ] at h; exact Nat.div_lt_of_lt_mul (by rw [Nat.mul_comm]; exact h))
      simp only [List.length_append, List.length_singleton]; omega
    · rw [figs_last n h9]; simp
theorem figs_one (n : Nat) : (figs n).length = 1 ↔ n ≤ 9 := by
  constructor
  · intro h
    by_cases h9 : 9 < n
    · rw [figs_more n h9] at h
      have := List.length_pos_iff.2 (figs_ne (n / 10))
      simp only [List.length_append, List.length_singleton] at h; omega
    · omega
  · intro h; rw [figs_last n (by omega)]; rfl

/-- Nothing but a figure stands ahead. -/
def NoFig (b : List UInt8) : Prop := ∀ c t, b = c :: t → ¬ (48 ≤ c.toNat ∧ c.toNat ≤ 57)
theorem fig_cond (c : UInt8) : (48 ≤ c && c ≤ 57) = true ↔ 48 ≤ c.toNat ∧ c.toNat ≤ 57 := by
  simp only [Bool.and_eq_true, decide_eq_true_eq, UInt8.le_iff_toNat_le]
  have e1 : (48 : UInt8).toNat = 48 := rfl
  have e2 : (57 : UInt8).toNat = 57 := rfl
  rw [e1, e2]
theorem tw_figs : ∀ (l b : List UInt8), Digits l → NoFig b → tw 57 (l ++ b) = l.length
  | [], b, _, hb => by
    cases b with
    | nil => rfl
    | cons c t =>
      have := hb c t rfl
      unfold tw
      rw [List.nil_append, List.takeWhile_cons_of_neg (p := fun c : UInt8 => 48 ≤ c && c ≤ 57) (fun h => this ((fig_cond c).1 h))]
  | c :: l, b, hd, hb => by
    have h0 := hd c (by simp)
    have ih := tw_figs l b (fun d hd' => hd d (by simp [hd'])) hb
    unfold tw at ih ⊢
    rw [List.cons_append, List.takeWhile_cons_of_pos (p := fun c : UInt8 => 48 ≤ c && c ≤ 57) ((fig_cond c).2 h0), List.length_cons, ih]
    rfl
theorem numV_figs (l b : List UInt8) (hd : Digits l) (hb : NoFig b) : numV (l ++ b) = vf 0 l := by
  unfold numV
  rw [tw_figs l b hd hb, List.take_left]
theorem numberS_figs (n : Nat) (b : List UInt8) (hb : NoFig b) (most : Int) :
    numberS (figs n ++ b) most = if most < (n : Int) ∨ 2147483647 < (n : Int) then (0, 0, 3) else ((n : Int), (figs n).length, 0) := by
  have hd := figs_digits n n (Nat.le_refl _)
  have hv := figs_val n n (Nat.le_refl _)
  have hne := figs_ne n
  have hlen := List.length_pos_iff.2 hne
  have hB : numB (figs n ++ b) = false := by
    unfold numB
    rw [tw_figs _ b hd hb]
    have e1 : ((figs n).length == 0) = false := by rw [beq_eq_false_iff_ne]; omega
    rw [e1, Bool.false_or]
    by_cases h0 : 0 < n
    · have hh := figs_head n n (Nat.le_refl _) h0
      have e2 : (figs n ++ b).getD 0 0 = (figs n).getD 0 0 := by
        cases hf : figs n with
        | nil => exact absurd hf hne
        | cons c t => rfl
      rw [e2]
      have : ((figs n).getD 0 0 == 48) = false := by
        rw [beq_eq_false_iff_ne]; intro e; rw [e] at hh; exact hh rfl
      rw [this, Bool.false_and]
    · have : (figs n).length = 1 := (figs_one n).2 (by omega)
      rw [this]; simp
  unfold numberS
  rw [hB, numV_figs _ b hd hb, tw_figs _ b hd hb]
  rcases vf_val (figs n) 0 (by omega) (by omega) hd with e | ⟨e1, e2⟩
  · rw [e, hv]; rfl
  · rw [hv] at e2
    rw [if_neg (by simp), if_pos (.inr e1), if_pos (.inr e2)]
theorem numberS_nought (n : Nat) (b : List UInt8) (hb : NoFig b) (most : Int) (hm : (n : Int) ≤ most) :
    (numberS (48 :: ((figs n).tail ++ b)) most).2.2 = if 1 < (figs n).length then 2 else 0 := by
  have hd := figs_digits n n (Nat.le_refl _)
  have hne := figs_ne n
  have hlen := List.length_pos_iff.2 hne
  have hd' : Digits (48 :: (figs n).tail) := by
    intro c hc
    simp only [List.mem_cons] at hc
    rcases hc with rfl | hc
    · exact ⟨by decide, by decide⟩
    · exact hd c (List.mem_of_mem_tail hc)
  have e0 : 48 :: ((figs n).tail ++ b) = (48 :: (figs n).tail) ++ b := rfl
  have el : (48 :: (figs n).tail).length = (figs n).length := by simp only [List.length_cons, List.length_tail]; omega
  rw [e0]
  unfold numberS numB
  rw [numV_figs _ b hd' hb, tw_figs _ b hd' hb, el]
  have e1 : ((figs n).length == 0) = false := by rw [beq_eq_false_iff_ne]; omega
  have e2 : (((48 : UInt8) :: (figs n).tail ++ b).getD 0 0 == 48) = true := rfl
  rw [e1, e2, Bool.false_or, Bool.true_and]
  by_cases h1 : 1 < (figs n).length
  · simp [h1]
  · have h9 : n ≤ 9 := (figs_one n).1 (by omega)
    have hone := (figs_one n).2 h9
    have et : (figs n).tail = [] := List.eq_nil_of_length_eq_zero (by rw [List.length_tail]; omega)
    have ev : vf 0 (48 :: (figs n).tail) = 0 := by rw [et]; decide
    have h1' : decide (1 < (figs n).length) = false := decide_eq_false h1
    rw [h1', if_neg h1, if_neg (by simp)]
    have hc : ¬ (most < vf 0 (48 :: (figs n).tail) ∨ 2147483647 < vf 0 (48 :: (figs n).tail)) := by rw [ev]; omega
    rw [if_neg hc]
end Go.Proofs.YtplcabecbofjpaaDoor
