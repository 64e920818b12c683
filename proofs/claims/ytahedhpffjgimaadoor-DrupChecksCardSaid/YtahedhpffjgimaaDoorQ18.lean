/-
  What is parsed prints back.
  Which proofs are right.
-/
import Derived.Test.YtahedhpffjgimaaDoorProg
import Derived.WalkKit
import Derived.WalkSpells
import Derived.WalkLawsBesides
import Derived.Lib.Hide
import Derived.BigQuiet
import Derived.Deep.QuietTactic
import Derived.Deep.RegionWith
import Derived.Deep.RegionHeld3
import Derived.Test.YtahedhpffjgimaaDoorQ07
import Derived.Test.YtahedhpffjgimaaDoorQ08
import Derived.Test.YtahedhpffjgimaaDoorQ17
set_option linter.unusedVariables false
/- What is parsed prints back. -/
namespace Go.Proofs.YtahedhpffjgimaaDoor
open Go.RowKit
theorem figs_zero : figs 0 = [48] := by rw [figs_last 0 (by omega)]; rfl
theorem figs_back : ∀ (f : Nat) (d : List UInt8), d.length ≤ f → d ≠ [] → Digits d → (d.getD 0 0 ≠ 48 ∨ d.length = 1) → figs (val 0 d).toNat = d ∧ 0 ≤ val 0 d := by
  intro f
  induction f with
  | zero => intro d h hn; exact absurd (List.length_eq_zero_iff.1 (by omega)) hn
  | succ f ih =>
    intro d h hn hd hh
    obtain ⟨d', c, rfl⟩ : ∃ d' c, d = d' ++ [c] := ⟨d.dropLast, d.getLast hn, (List.dropLast_concat_getLast hn).symm⟩
    have hc := hd c (by simp)
    have h0 : 0 ≤ val 0 (d' ++ [c]) := val_ge _ _ (by omega) hd
    rw [List.length_append, List.length_singleton] at h
    refine ⟨?_, h0⟩
    rw [val_snoc] at h0 ⊢
    have ec : ∀ k, k = c.toNat → UInt8.ofNat k = c := by intro k e; subst e; simp
    by_cases he : d' = []
    · subst he
      have : (val 0 [] * 10 + ((c.toNat : Int) - 48)).toNat = c.toNat - 48 := by simp [val]; omega
      rw [this, figs_last _ (by omega), ec _ (by omega)]; rfl
    · have hpos : 0 < d'.length := List.length_pos_iff.2 he
      have hd' : Digits d' := fun x hx => hd x (by simp [hx])
      have hg : d'.getD 0 0 ≠ 48 := by
        rcases hh with hh | hh
        · rwa [List.getD_eq_getElem?_getD, List.getElem?_append_left hpos, ← List.getD_eq_getElem?_getD] at hh
        · rw [List.length_append, List.length_singleton] at hh; omega
      obtain ⟨i1, i2⟩ := ih d' (by omega) he hd' (.inl hg)
      have hv : 1 ≤ val 0 d' := by
        rcases Int.lt_or_le 0 (val 0 d') with h | h
        · exact h
        · have : (val 0 d').toNat = 0 := by omega
          rw [this, figs_zero] at i1
          rw [← i1] at hg
          exact absurd rfl hg
      generalize hv' : val 0 d' = v at *
      rw [figs_more _ (by omega), show (v * 10 + ((c.toNat : Int) - 48)).toNat / 10 = v.toNat by omega, i1, ec _ (by omega)]
theorem number_back {t : List UInt8} {most : Int} (h : (numberS t most).2.2 = 0) : 0 ≤ (numberS t most).1 ∧ (numberS t most).1 ≤ most ∧ (numberS t most).1 ≤ 2147483647 ∧ t.take (numberS t most).2.1 = figs (numberS t most).1.toNat ∧ (numberS t most).2.1 ≤ t.length := by
  unfold numberS at *
  cases hb : numB t
  · rw [hb] at h
    rw [if_neg (by simp)] at h ⊢
    by_cases hm : most < numV t ∨ 2147483647 < numV t
    · rw [if_pos hm] at h; simp at h
    · rw [if_neg hm]
      simp only
      have hdg : Digits (t.take (tw 57 t)) := by
        intro c hc
        obtain ⟨i, hi, e⟩ := List.mem_iff_getElem.1 hc
        simp only [List.length_take] at hi
        have := tw_digits 57 t i (by omega)
        rw [List.getElem_take] at e
        have e2 : t.getD i 0 = c := by simp [List.getD_eq_getElem?_getD, show i < t.length by omega, e]
        rw [e2] at this
        exact this
      have htl := tw_le 57 t
      unfold numB at hb
      simp only [Bool.or_eq_false_iff, beq_eq_false_iff_ne, Bool.and_eq_false_iff, decide_eq_false_iff_not] at hb
      obtain ⟨b1, b2⟩ := hb
      have hlen : (t.take (tw 57 t)).length = tw 57 t := by simp; omega
      have hv : numV t = val 0 (t.take (tw 57 t)) := by
        rcases vf_val (t.take (tw 57 t)) 0 (by omega) (by omega) hdg with e | ⟨e, _⟩
        · exact e
        · unfold numV at hm; omega
      have hg : (t.take (tw 57 t)).getD 0 0 = t.getD 0 0 := by
        simp only [List.getD_eq_getElem?_getD, List.getElem?_take]; rw [if_pos (by omega)]
      obtain ⟨f1, f2⟩ := figs_back _ (t.take (tw 57 t)) (Nat.le_refl _) (fun e => by rw [e] at hlen; simp at hlen; omega) hdg (by rw [hg, hlen]; exact b2.imp id (by omega))
      rw [← hv] at f1 f2
      exact ⟨f2, by omega, by omega, f1.symm, htl⟩
  · rw [hb, if_pos rfl] at h; simp at h
theorem split_at {t a : List UInt8} {k : Nat} (h : t.take k = a) (hk : k ≤ t.length) : t = a ++ t.drop k ∧ k = a.length := by
  subst h
  exact ⟨(List.take_append_drop k t).symm, by simp; omega⟩
theorem signed_back {t : List UInt8} {most : Int} (h : (signedS t most).2.2 = 0) : -most ≤ (signedS t most).1 ∧ (signedS t most).1 ≤ most ∧ t = Lib.itoa (signedS t most).1 ++ t.drop (signedS t most).2.1 ∧ (signedS t most).2.1 = (Lib.itoa (signedS t most).1).length := by
  unfold signedS at *
  by_cases h1 : (t.take 1 == [(45 : UInt8)]) = true
  · rw [if_pos h1] at h ⊢
    obtain ⟨c, t', rfl⟩ : ∃ c t', t = c :: t' := by
      cases t with
      | nil => simp at h1
      | cons c t' => exact ⟨c, t', rfl⟩
    obtain rfl : c = 45 := by simpa using h1
    simp only [List.drop_succ_cons, List.drop_zero] at *
    by_cases h2 : (t'.take 1 == [(48 : UInt8)]) = true
    · rw [if_pos h2] at h; simp at h
    · rw [if_neg h2] at h ⊢
      by_cases h3 : (numberS t' most).2.2 = 0
      · rw [if_pos h3]
        obtain ⟨n1, n2, n3, n4, n5⟩ := number_back h3
        obtain ⟨e1, e2⟩ := split_at n4 n5
        generalize numberS t' most = r at *
        obtain ⟨v, k, z⟩ := r
        simp only at *
        obtain ⟨u, rfl⟩ := Int.eq_ofNat_of_zero_le n1
        have hu : 1 ≤ u := by
          rcases Nat.eq_zero_or_pos u with h0 | h0
          · subst h0
            have : figs (((0 : Nat) : Int).toNat) = [48] := figs_zero
            rw [this] at e1
            rw [e1] at h2
            exact absurd (by simp) h2
          · exact h0
        rw [itoa_ng u hu]
        simp only [Int.toNat_natCast] at e1 e2
        refine ⟨by omega, by omega, ?_, by simp [← e2]⟩
        simp only [List.drop_succ_cons, List.cons_append]
        rw [← e1]
      · rw [if_neg h3] at h; exact absurd h h3
  · rw [if_neg h1] at h ⊢
    obtain ⟨n1, n2, n3, n4, n5⟩ := number_back h
    obtain ⟨e1, e2⟩ := split_at n4 n5
    generalize numberS t most = r at *
    obtain ⟨v, k, z⟩ := r
    simp only at *
    obtain ⟨u, rfl⟩ := Int.eq_ofNat_of_zero_le n1
    rw [itoa_nn u]
    exact ⟨by omega, by omega, e1, e2⟩
theorem bS_split {t s : List UInt8} (h : bS t s = true) : t = s ++ t.drop s.length := by
  unfold bS at h
  have := beq_iff_eq.1 h
  exact (split_at this (by have := congrArg List.length this; simp at this; omega)).1
theorem rdCl_back (n : Int) : ∀ (f : Nat) (t : List UInt8) (c : List Int), t.length ≤ f → c.length ≤ 1000 → (rdCl n t c).2.2 = 0 →
    ∃ lits, (rdCl n t c).1 = c ++ lits ∧ t = tellS lits ++ t.drop (rdCl n t c).2.1 ∧ (rdCl n t c).2.1 = (tellS lits).length ∧ (∀ x ∈ lits, x ≠ 0 ∧ -n ≤ x ∧ x ≤ n) ∧ c.length + lits.length ≤ 1000 := by
  intro f
  induction f with
  | zero =>
    intro t c h hc he
    obtain rfl : t = [] := List.length_eq_zero_iff.1 (by omega)
    rw [rdCl] at he
    have e : signedS [] n = (0, 0, 2) := by simp [signedS, numberS, numB, tw]
    rw [e, if_pos (by decide)] at he
    exact absurd he (by decide)
  | succ f ih =>
    intro t c h hc he
    rw [rdCl] at he ⊢
    by_cases h1 : (signedS t n).2.2 ≠ 0
    · rw [if_pos h1] at he; exact absurd he h1
    · rw [if_neg h1] at he ⊢
      obtain ⟨s1, s2, s3, s4⟩ := signed_back (Decidable.not_not.1 h1)
      generalize hr : signedS t n = r at *
      obtain ⟨x, k, z⟩ := r
      simp only at *
      by_cases h2 : x = 0
      · rw [if_pos h2] at he ⊢
        by_cases h3 : bS (t.drop k) [10] = true
        · rw [if_pos h3]
          have e := bS_split h3
          have e0 : Lib.itoa 0 = [48] := by rw [show (0 : Int) = ((0 : Nat) : Int) from rfl, itoa_nn, figs_zero]
          subst h2
          rw [e0] at s3 s4
          simp only [List.length_cons, List.length_nil, Nat.zero_add] at s4 e
          subst s4
          refine ⟨[], by simp, ?_, rfl, by simp, by simpa using hc⟩
          simp only [List.drop_drop] at e
          rw [e] at s3
          exact s3
        · rw [if_neg h3] at he; simp at he
      · rw [if_neg h2] at he ⊢
        by_cases h3 : c.length = 1000
        · rw [if_pos h3] at he; simp at he
        · rw [if_neg h3] at he ⊢
          by_cases h4 : bS (t.drop k) [32] = true
          · rw [dif_pos h4] at he ⊢
            have hl := bS_len h4
            simp only [List.length_drop, List.length_cons, List.length_nil] at hl
            have e := bS_split h4
            obtain ⟨lits, l1, l2, l3, l4, l5⟩ := ih (t.drop (k + 1)) (c ++ [x]) (by simp; omega) (by simp; omega) he
            simp only at *
            generalize rdCl n (t.drop (k + 1)) (c ++ [x]) = q at *
            obtain ⟨q1, q2, q3⟩ := q
            simp only at *
            refine ⟨x :: lits, by rw [l1]; simp, ?_, ?_, ?_, by simp at l5 ⊢; omega⟩
            · have ex : tellS (x :: lits) = Lib.itoa x ++ (32 :: tellS lits) := by simp [tellS, litsS, litS]
              simp only [List.length_cons, List.length_nil, Nat.zero_add, List.drop_drop] at e l2
              rw [ex, List.append_assoc, List.cons_append, ← l2]
              rw [e] at s3
              exact s3
            · have ex : (tellS (x :: lits)).length = (Lib.itoa x).length + 1 + (tellS lits).length := by simp [tellS, litsS, litS]; omega
              rw [ex, ← s4, l3]
            · intro y hy
              rcases List.mem_cons.1 hy with rfl | hy
              · exact ⟨h2, s1, s2⟩
              · exact l4 y hy
          · rw [dif_neg h4] at he; simp at he
theorem rdCls_back (n : Int) : ∀ (m : Nat) (t : List UInt8) (L0 : List (List Int)), (rdCls n m t L0).2.2 = 0 →
    ∃ L, (rdCls n m t L0).1 = L0 ++ L ∧ L.length = m ∧ t = bodyS L ++ t.drop (rdCls n m t L0).2.1 ∧ (rdCls n m t L0).2.1 = (bodyS L).length ∧ ∀ c ∈ L, c.length ≤ 1000 ∧ ∀ x ∈ c, x ≠ 0 ∧ -n ≤ x ∧ x ≤ n
  | 0, t, L0, h => ⟨[], by simp [rdCls], rfl, by simp [rdCls, bodyS], by simp [rdCls, bodyS], by simp⟩
  | m + 1, t, L0, h => by
    rw [rdCls] at h ⊢
    by_cases h1 : (rdCl n t []).2.2 ≠ 0
    · rw [if_pos h1] at h; exact absurd h h1
    · rw [if_neg h1] at h ⊢
      obtain ⟨c, c1, c2, c3, c4, c5⟩ := rdCl_back n _ t [] (Nat.le_refl _) (by simp) (Decidable.not_not.1 h1)
      generalize rdCl n t [] = q at *
      obtain ⟨q1, q2, q3⟩ := q
      simp only [List.nil_append] at *
      obtain ⟨L, l1, l2, l3, l4, l5⟩ := rdCls_back n m (t.drop q2) (L0 ++ [q1]) h
      generalize rdCls n m (t.drop q2) (L0 ++ [q1]) = r at *
      obtain ⟨r1, r2, r3⟩ := r
      simp only at *
      subst c1
      refine ⟨q1 :: L, by rw [l1]; simp, by simp [l2], ?_, by rw [show bodyS (q1 :: L) = tellS q1 ++ bodyS L by simp [bodyS], List.length_append, ← l4, c3], ?_⟩
      · rw [l3, List.drop_drop] at c2
        have : bodyS (q1 :: L) = tellS q1 ++ bodyS L := by simp [bodyS]
        rw [this, List.append_assoc]
        exact c2
      · intro y hy
        rcases List.mem_cons.1 hy with rfl | hy
        · exact ⟨by simpa using c5, c4⟩
        · exact l5 y hy
theorem rdHead_back {l : List UInt8} (h : (rdHead l).2.2.2 = 0) : 0 ≤ (rdHead l).1 ∧ (rdHead l).1 ≤ 100000 ∧ 0 ≤ (rdHead l).2.1 ∧ (rdHead l).2.1 ≤ 20000 ∧ l = headS (rdHead l).1 (rdHead l).2.1 ++ l.drop (rdHead l).2.2.1 ∧ (rdHead l).2.2.1 = (headS (rdHead l).1 (rdHead l).2.1).length := by
  unfold rdHead at *
  by_cases h1 : bS l headW = false
  · rw [if_pos h1] at h; simp at h
  · rw [if_neg h1] at h ⊢
    have e1 := bS_split (by simpa using h1)
    rw [show headW.length = 6 from rfl] at e1
    by_cases h2 : (numberS (l.drop 6) 100000).2.2 ≠ 0
    · rw [if_pos h2] at h; exact absurd h h2
    · rw [if_neg h2] at h ⊢
      obtain ⟨a1, a2, a3, a4, a5⟩ := number_back (Decidable.not_not.1 h2)
      obtain ⟨b1, b2⟩ := split_at a4 a5
      generalize numberS (l.drop 6) 100000 = r at *
      obtain ⟨x, k, z⟩ := r
      simp only at *
      by_cases h3 : bS (l.drop (6 + k)) [32] = false
      · rw [if_pos h3] at h; simp at h
      · rw [if_neg h3] at h ⊢
        have e2 := bS_split (by simpa using h3)
        simp only [List.length_singleton, List.drop_drop] at e2 b1
        by_cases h4 : (numberS (l.drop (6 + k + 1)) 20000).2.2 ≠ 0
        · rw [if_pos h4] at h; exact absurd h h4
        · rw [if_neg h4] at h ⊢
          obtain ⟨c1, c2, c3, c4, c5⟩ := number_back (Decidable.not_not.1 h4)
          obtain ⟨d1, d2⟩ := split_at c4 c5
          generalize numberS (l.drop (6 + k + 1)) 20000 = r2 at *
          obtain ⟨y, k2, z2⟩ := r2
          simp only at *
          simp only [List.drop_drop] at d1
          by_cases h5 : bS (l.drop (6 + k + 1 + k2)) [10] = false
          · rw [if_pos h5] at h; simp at h
          · rw [if_neg h5] at h ⊢
            have e3 := bS_split (by simpa using h5)
            simp only [List.length_singleton, List.drop_drop] at e3
            simp only
            obtain ⟨u, rfl⟩ := Int.eq_ofNat_of_zero_le a1
            obtain ⟨v, rfl⟩ := Int.eq_ofNat_of_zero_le c1
            simp only [Int.toNat_natCast] at b1 b2 d1 d2
            refine ⟨a1, a2, c1, c2, ?_, ?_⟩
            · unfold headS
              rw [itoa_nn, itoa_nn]
              rw [e3] at d1
              rw [d1] at e2
              rw [e2] at b1
              rw [b1] at e1
              refine e1.trans ?_
              simp [headW]
            · unfold headS
              rw [itoa_nn, itoa_nn]
              simp [← b2, ← d2]
              omega
theorem right_mk {N : Int} {L : List (List Int)} (h0 : 0 ≤ N) (h1 : N ≤ 100000) (h2 : L.length ≤ 20000) (h3 : ∀ c ∈ L, c.length ≤ 1000 ∧ ∀ x ∈ c, x ≠ 0 ∧ -N ≤ x ∧ x ≤ N) : rightF N L = true := by
  unfold rightF
  simp only [Bool.and_eq_true, decide_eq_true_eq, List.all_eq_true]
  refine ⟨⟨⟨h0, h1⟩, h2⟩, fun c hc => ?_⟩
  obtain ⟨c1, c2⟩ := h3 c hc
  simp only [rightC, Bool.and_eq_true, decide_eq_true_eq, Bool.not_eq_true', List.any_eq_false]
  refine ⟨c1, fun x hx => ?_⟩
  have := c2 x hx
  simp only [badL, Bool.or_eq_true, beq_iff_eq, decide_eq_true_eq, not_or]
  omega
/-- What is parsed is right, and has its bytes for its text. -/
theorem parse_back {l : List UInt8} (h : (parseS l).2.2 = 0) : rightF (parseS l).1.1 (parseS l).1.2 = true ∧ printS (parseS l).1.1 (parseS l).1.2 = l ∧ (parseS l).2.1 = l.length := by
  unfold parseS at *
  by_cases h1 : 100000 < l.length
  · rw [if_pos h1] at h; simp at h
  · rw [if_neg h1] at h ⊢
    by_cases h2 : (rdHead l).2.2.2 ≠ 0
    · rw [if_pos h2] at h; exact absurd h h2
    · rw [if_neg h2] at h ⊢
      obtain ⟨a1, a2, a3, a4, a5, a6⟩ := rdHead_back (Decidable.not_not.1 h2)
      generalize rdHead l = r at *
      obtain ⟨N, m, k, z⟩ := r
      simp only at *
      by_cases h3 : (rdCls N m.toNat (l.drop k) []).2.2 ≠ 0
      · rw [if_pos h3] at h; exact absurd h h3
      · rw [if_neg h3] at h ⊢
        obtain ⟨L, b1, b2, b3, b4, b5⟩ := rdCls_back N _ _ _ (Decidable.not_not.1 h3)
        generalize rdCls N m.toNat (l.drop k) [] = q at *
        obtain ⟨q1, q2, q3⟩ := q
        simp only [List.nil_append] at *
        subst b1
        by_cases h4 : k + q2 < l.length
        · rw [if_pos h4] at h; simp at h
        · rw [if_neg h4]
          simp only
          have hz : l.drop (k + q2) = [] := List.drop_eq_nil_of_le (by omega)
          rw [List.drop_drop, hz, List.append_nil] at b3
          rw [b3] at a5
          have em : m = (q1.length : Int) := by omega
          subst em
          refine ⟨right_mk a1 a2 (by omega) b5, by rw [printS]; exact a5.symm, ?_⟩
          have := congrArg List.length a5
          simp only [List.length_append] at this
          omega
theorem parse_no {l : List UInt8} (h : (parseS l).2.2 ≠ 0) : (parseS l).1 = (0, []) := by
  unfold parseS at *
  repeat' split at h
  all_goals first | rfl | exact absurd rfl h | skip
  all_goals (repeat' split) <;> simp_all
theorem rdCls_len (n : Int) : ∀ (m : Nat) (t : List UInt8) (L : List (List Int)), (rdCls n m t L).2.1 ≤ t.length
  | 0, t, L => by simp [rdCls]
  | m + 1, t, L => by
    have h1 := rdCl_len n _ t [] (Nat.le_refl _)
    rw [rdCls]
    split
    · exact h1
    · have := rdCls_len n m (t.drop (rdCl n t []).2.1) (L ++ [(rdCl n t []).1])
      rw [List.length_drop] at this
      simp only
      omega
theorem parse_len (l : List UInt8) : (parseS l).2.1 ≤ l.length := by
  obtain ⟨_, _, _, _, h1, _, _⟩ := rdHead_bd l
  have h2 := rdCls_len (rdHead l).1 (rdHead l).2.1.toNat (l.drop (rdHead l).2.2.1) []
  rw [List.length_drop] at h2
  unfold parseS
  repeat' split
  all_goals simp only
  all_goals omega
/-- Cut off, a right formula's text is none. -/
theorem parse_cut {N : Int} {L : List (List Int)} (h : rightF N L = true) (hl : (printS N L).length ≤ 100000) (k : Nat) (hk : k < (printS N L).length) : (parseS ((printS N L).take k)).2.2 ≠ 0 := by
  intro h0
  obtain ⟨b1, b2, b3⟩ := parse_back h0
  have e : printS N L = printS (parseS ((printS N L).take k)).1.1 (parseS ((printS N L).take k)).1.2 ++ (printS N L).drop k := by rw [b2]; exact (List.take_append_drop _ _).symm
  have p1 := parse_print h hl
  have p2 := parse_print_any b1 ((printS N L).drop k) (by rw [← e]; exact hl)
  rw [← e, p1, if_neg (by intro e2; have := congrArg List.length e2; simp at this; omega)] at p2
  have := congrArg (fun r => r.2.2) p2
  simp at this
/-- Right formulas with one text are one. -/
theorem print_apart {N M : Int} {L L' : List (List Int)} (h : rightF N L = true) (h' : rightF M L' = true) (hl : (printS N L).length ≤ 100000) : printS N L = printS M L' ↔ (N = M ∧ L = L') := by
  constructor
  · intro e
    have p1 := parse_print h hl
    have p2 := parse_print h' (by rw [← e]; exact hl)
    rw [e, p2] at p1
    injection p1 with e1
    injection e1 with e2 e3
    exact ⟨e2.symm, e3.symm⟩
  · rintro ⟨rfl, rfl⟩; rfl
theorem litAt_fold (m : List Bool) (i : Nat) : decide (0 < litAt m i) = m.getD i false := by
  unfold litAt; split <;> simp_all <;> omega
theorem mod_apart (m n : List Bool) (hm : m.length ≤ 100) (hn : n.length ≤ 100) : modS m = modS n ↔ m = n := by
  constructor
  · intro e
    have hb : ∀ (k : List Bool), k.length ≤ 100 → rdCl 100000 (tellS (modL k)) [] = (modL k, (tellS (modL k)).length, 0) := by
      intro k hk
      have := rdCl_print 100000 (by omega) (by omega) [] (modL k) [] (by
        intro x hx
        obtain ⟨i, hi, rfl⟩ := List.mem_map.1 hx
        have hi' := List.mem_range.1 hi
        refine ⟨litAt_ne k i, ?_⟩
        unfold litAt; split <;> omega) (by simp [modL]; omega)
      simpa using this
    have et : tellS (modL m) = tellS (modL n) := by unfold modS at e; exact List.append_cancel_left e
    have h1 := hb m hm
    rw [et, hb n hn] at h1
    injection h1 with h2
    have hlen : m.length = n.length := by have := congrArg List.length h2; simpa [modL] using this.symm
    apply List.ext_getElem hlen
    intro i h3 h4
    have g := congrArg (fun q => decide (0 < q.getD i 0)) h2
    simp only [modL, List.getD_eq_getElem?_getD, List.getElem?_map, List.getElem?_range h3, List.getElem?_range h4, Option.map_some, Option.getD_some, litAt_fold] at g
    simpa [List.getD_eq_getElem?_getD, h3, h4] using g.symm
  · rintro rfl; rfl
/-- A small right formula has a short text. -/
theorem itoa_short (x : Int) (h0 : -100000 ≤ x) (h1 : x ≤ 100000) : (Lib.itoa x).length ≤ 7 := by
  by_cases hx : 0 ≤ x
  · obtain ⟨u, rfl⟩ := Int.eq_ofNat_of_zero_le hx
    rw [itoa_nn]
    have := figs_len 5 u (by omega)
    omega
  · obtain ⟨u, hu⟩ := Int.eq_ofNat_of_zero_le (show 0 ≤ -x by omega)
    obtain rfl : x = -(u : Int) := by omega
    rw [itoa_ng u (by omega)]
    have := figs_len 5 u (by omega)
    simp only [List.length_cons]
    omega
theorem lits_short : ∀ (c : List Int), (∀ x ∈ c, -100000 ≤ x ∧ x ≤ 100000) → (litsS c).length ≤ 8 * c.length
  | [], _ => by simp [litsS]
  | x :: c, h => by
    have h1 := itoa_short x (h x (by simp)).1 (h x (by simp)).2
    have ih := lits_short c (fun y hy => h y (by simp [hy]))
    have e : (litsS (x :: c)).length = (Lib.itoa x).length + 1 + (litsS c).length := by simp [litsS, litS]; omega
    rw [e, List.length_cons]; omega
theorem body_short : ∀ (L : List (List Int)), (∀ c ∈ L, c.length ≤ 40 ∧ ∀ x ∈ c, -100000 ≤ x ∧ x ≤ 100000) → (bodyS L).length ≤ 322 * L.length
  | [], _ => by simp [bodyS]
  | c :: L, h => by
    obtain ⟨h0, h1⟩ := h c (by simp)
    have h2 := lits_short c h1
    have ih := body_short L (fun y hy => h y (by simp [hy]))
    have e : (bodyS (c :: L)).length = (litsS c).length + 2 + (bodyS L).length := by simp [bodyS, tellS]; omega
    rw [e, List.length_cons]; omega
theorem print_short {N : Int} {L : List (List Int)} (hs : smallF 40 L = true) (h : rightF N L = true) : (printS N L).length ≤ 13000 := by
  obtain ⟨s1, s2⟩ := small_parts hs
  obtain ⟨h0, h1, h2, h3⟩ := right_parts h
  have b := body_short L (fun c hc => ⟨by have := s2 c hc; omega, fun x hx => by have := (h3 c hc).2 x hx; omega⟩)
  have i1 := itoa_short N (by omega) h1
  have i2 := itoa_short (L.length : Int) (by omega) (by omega)
  have e : (printS N L).length = 6 + (Lib.itoa N).length + 1 + (Lib.itoa (L.length : Int)).length + 1 + (bodyS L).length := by simp [printS, headS]; omega
  rw [e]; omega
theorem mod_short (m : List Bool) (h : m.length ≤ 100) : (modS m).length ≤ 1000 := by
  have := lits_short (modL m) (by
    intro x hx
    obtain ⟨i, hi, rfl⟩ := List.mem_map.1 hx
    have hi' := List.mem_range.1 hi
    unfold litAt; split <;> omega)
  have e : (modS m).length = 2 + (litsS (modL m)).length + 2 := by simp [modS, tellS]; omega
  have e2 : (modL m).length = m.length := by simp [modL]
  rw [e]; omega
theorem print_pos (N : Int) (L : List (List Int)) : 6 ≤ (printS N L).length := by simp [printS, headS]
end Go.Proofs.YtahedhpffjgimaaDoor
/- Which proofs are right. -/
namespace Go.Proofs.YtahedhpffjgimaaDoor
open Go.RowKit
open Go.Lib Go.Sort
/-- The clauses of a proof's steps; is it right? -/
def clsP (P : List Stp) : List (List Int) := P.map (·.2)
def rightP (n : Int) (P : List Stp) : Bool := rightF n (clsP P)
theorem clsP_len (P : List Stp) : (clsP P).length = P.length := by simp [clsP]
theorem clsP_getD (P : List Stp) (i : Nat) (h : i < P.length) : (clsP P).getD i [] = (P.getD i (true, [])).2 := by simp [clsP, List.getD_eq_getElem?_getD, h]
def rowP (P : List Stp) (j : Nat) : List (List Int) := clsP (P.take j) ++ List.replicate (P.length - j) []
theorem rowP_len (P : List Stp) (j : Nat) (h : j ≤ P.length) : (rowP P j).length = P.length := by simp [rowP, clsP]; omega
theorem takeS (l : List Stp) (i : Nat) (h : i < l.length) : l.take (i + 1) = l.take i ++ [l.getD i (true, [])] := by
  rw [List.take_add_one]; simp [List.getD_eq_getElem?_getD, h]
theorem rowP_next (P : List Stp) (j : Nat) (h : j < P.length) : rowP P (j + 1) = (rowP P j).set j (P.getD j (true, [])).2 := by
  unfold rowP
  rw [takeS P j h, show P.length - j = (P.length - (j + 1)) + 1 by omega, List.replicate_succ]
  have hl : (clsP (P.take j)).length = j := by simp [clsP]; omega
  rw [List.set_append_right _ _ (by omega), hl]
  simp [clsP]
theorem rowP_full (P : List Stp) : rowP P P.length = clsP P := by simp [rowP]
set_option maxHeartbeats 1600000 in
set_option maxRecDepth 100000 in
theorem PRight_any (PA : Option Addr) (kp : Nat) (N : Int) (P : List Stp) (w : World) (hP : RS w w.heap.size PA P) (hpl : P.length ≤ 1000000) :
    Calls Tryd.prog 17 #[.int .i64 N, .slice PA P.length kp] w (RetV w (.bool (rightP N P))) := by
  obtain ⟨w1, hmk, hO1, hB1⟩ := made_row w P.length hpl
  have H0 := Lib.hid (And.intro hO1 hB1)
  have HP := Lib.hid hP
  clear hP hO1
  have hs1 : w.heap.size < w1.heap.size := by
    obtain ⟨_, _, e, _, h⟩ := H0.out.1.val
    exact (h w.heap.size rfl).2
  have hx0 := bal (Below.refl w1.heap.size w1) (.cells #[.int .i64 N, .slice (some ⟨w.heap.size, 0, none⟩) P.length P.length] 24)
  obtain ⟨q0, q1⟩ := box_cells w1 (.int .i64 N) (.slice (some ⟨w.heap.size, 0, none⟩) P.length P.length) 24
  have hsz2 : (w1.alloc (.cells #[.int .i64 N, .slice (some ⟨w.heap.size, 0, none⟩) P.length P.length] 24)).heap.size = w1.heap.size + 1 := by simp
  go_enter Tryd.func17, Tryd.ntmps17
  go_wp2
  clear hmk
  go_loopg [15] P.length (fun g s15 wr => ∃ j : Nat, j + g = P.length ∧ s15 = .int .i64 j ∧ OwnQ wr w.heap.size (.slice (some ⟨w.heap.size, 0, none⟩) P.length P.length) (rowP P j) ∧ Below w.heap.size w wr ∧ wr.cell? ⟨w1.heap.size, 0, none⟩ = some (.int .i64 N) ∧ wr.cell? ⟨w1.heap.size, 1, none⟩ = some (.slice (some ⟨w.heap.size, 0, none⟩) P.length P.length))
  case atStart => exact ⟨0, by omega, rfl, by have := H0.out.1.old hx0; simpa [rowP, clsP] using this, bnx H0.out.2 hx0, q0, q1⟩
  case round =>
    obtain ⟨j, hj, rfl, hown, hb, r0, r1⟩ := hrel
    clear H0 hx0 q0 q1
    cases gk with
    | zero =>
      obtain rfl : j = P.length := by omega
      have n1 : ¬ ((P.length : Int) < P.length) := by omega
      have n2 : ¬ (P.length < P.length) := by omega
      rw [rowP_full] at hown
      obtain ⟨A1, c1, e1, hrc, _⟩ := hown.val
      rw [clsP_len] at e1
      cases e1
      have C := Right_any (some ⟨w.heap.size, 0, none⟩) P.length N (clsP P) wr hrc.rc (by rw [clsP_len]; unfold maxLen; omega)
      rw [clsP_len] at C
      have HB := Lib.hid hb
      have HE : Hid (rightF N (clsP P) = rightP N P) := Lib.hid rfl
      clear hown hb hrc
      generalize rightF N (clsP P) = b at *
      go_wp2_with fail
      refine C.mono ?_; rintro e w2 ⟨rfl, hb2⟩
      have HB2 := Lib.hid (bnx HB.out hb2)
      clear C hb2
      go_wp2
      go_ret
      exact ⟨by rw [← HE.out]; rfl, HB2.out⟩
    | succ g =>
      have hjl : j < P.length := by omega
      obtain ⟨ad, A1, c1, rfl, hab, hc0, hc1, hr, hlc, hcm⟩ := HP.out j hjl
      have hcc0 := (hb.cell (p := ad.add (j * 2)) (by rw [block_add]; exact hab)).trans hc0
      have hcc1 := (hb.cell (p := ⟨(ad.add (j * 2)).block, (ad.add (j * 2)).off + 1, none⟩) (by show (ad.add (j * 2)).block < _; rw [block_add]; exact hab)).trans hc1
      have hjl' : (j : Int) < P.length := by omega
      have HNX := Lib.hid (rowP_next P j hjl)
      have hwl : w1.heap.size < wr.heap.size := World.block_lt_of_cell? wr _ r0
      have hrr := hr.below hb
      obtain ⟨ub, hub⟩ : ∃ ub, P.getD j (true, []) = ub := ⟨_, rfl⟩
      rw [hub] at hcc0 hcc1 hr hlc hrr HNX
      obtain ⟨d, u⟩ := ub
      simp only at hcc0 hcc1 hr hlc hrr
      have hbx := bal (Below.refl wr.heap.size wr) (.cells #[.bool d, .slice A1 u.length c1] 54)
      have hq1 := hown.old hbx
      obtain ⟨_, ⟨uu, hst1⟩, hst2, hset⟩ := hq1.store (rowP_len P j (by omega)) hjl
      have hq2 := hset A1 c1 u (old_rix (hrr.below (hbx.mono hb.size)) (Nat.le_trans hb.size hbx.size) (fun g hg => by
        cases hg; exact Nat.le_refl _)) hlc hcm
      rw [← HNX.out] at hq2
      have HQ2 := Lib.hid hq2
      have HB2 := Lib.hid ((bnx hb hbx).setCell (p := ⟨w.heap.size, j, none⟩) (Nat.le_refl _) (.slice A1 u.length c1))
      have hne : w.heap.size ≠ w1.heap.size := by omega
      clear hc0 hc1 hr hrr hq1 hq2 hset hown hb hub hbx
      go_wp2
      go_roundg g
      case measure => omega
      case rel =>
        have hne2 : some w1.heap.size ≠ some w.heap.size := fun e => hne (Option.some.inj e).symm
        exact ⟨j + 1, by omega, by go_num, HQ2.out, HB2.out, (grown_set ⟨w.heap.size, j, none⟩ _).cell (Lib.cell?_alloc_some _ r0) hne2, (grown_set ⟨w.heap.size, j, none⟩ _).cell (Lib.cell?_alloc_some _ r1) hne2⟩
theorem rightP_in {N : Int} {P : List Stp} (h : 0 ≤ N ∧ N ≤ 100000 ∧ P.length ≤ 20000) : rightP N P = P.all (fun s => rightC N s.2) := by
  unfold rightP rightF
  rw [clsP_len, decide_eq_true h.1, decide_eq_true h.2.1, decide_eq_true h.2.2]
  simp [clsP, List.all_map, Function.comp_def]
theorem rightP_out {N : Int} {P : List Stp} (h : ¬ (0 ≤ N ∧ N ≤ 100000 ∧ P.length ≤ 20000)) : rightP N P = false := by
  unfold rightP rightF
  rw [clsP_len]
  have hh : (decide (0 ≤ N) && decide (N ≤ 100000) && decide (P.length ≤ 20000)) = false := by
    rw [Bool.eq_false_iff]; intro hh; simp at hh; omega
  rw [hh, Bool.false_and]
theorem rightF_one {N : Int} (c : List Int) (h : 0 ≤ N ∧ N ≤ 100000) : rightF N [c] = rightC N c := by simp [rightF, h.1, h.2]
theorem rightP_parts {N : Int} {P : List Stp} (h : rightP N P = true) : 0 ≤ N ∧ N ≤ 100000 ∧ P.length ≤ 20000 ∧ ∀ s ∈ P, s.2.length ≤ 1000 ∧ ∀ x ∈ s.2, x ≠ 0 ∧ -N ≤ x ∧ x ≤ N := by
  obtain ⟨h1, h2, h3, h4⟩ := right_parts h
  rw [clsP_len] at h3
  exact ⟨h1, h2, h3, fun s hs => h4 s.2 (List.mem_map.2 ⟨s, hs, rfl⟩)⟩
theorem rightP_mk {N : Int} {P : List Stp} (h0 : 0 ≤ N) (h1 : N ≤ 100000) (h2 : P.length ≤ 20000) (h3 : ∀ s ∈ P, s.2.length ≤ 1000 ∧ ∀ x ∈ s.2, x ≠ 0 ∧ -N ≤ x ∧ x ≤ N) : rightP N P = true :=
  right_mk h0 h1 (by rw [clsP_len]; exact h2) (fun c hc => by obtain ⟨s, hs, rfl⟩ := List.mem_map.1 hc; exact h3 s hs)
set_option maxHeartbeats 1600000 in
theorem refPRight_any (PA : Option Addr) (kp : Nat) (N : Int) (P : List Stp) (w : World) (hP : RS w w.heap.size PA P) (hpl : P.length ≤ maxLen) :
    Calls Tryd.prog 18 #[.int .i64 N, .slice PA P.length kp] w (RetV w (.bool (rightP N P))) := by
  unfold maxLen at hpl
  by_cases hin : 0 ≤ N ∧ N ≤ 100000 ∧ P.length ≤ 20000
  · rw [rightP_in hin]
    obtain ⟨h0, h1, h2⟩ := hin
    obtain ⟨T, hT⟩ : ∃ T, P.all (fun s => rightC N s.2) = T := ⟨_, rfl⟩
    rw [hT]
    have HT : Hid ((P.drop 0).all (fun s => rightC N s.2) = T) := hT
    have HP := Lib.hid hP
    have HN := Lib.hid (And.intro h0 h1)
    have d1 : decide (N < 0) = false := decide_eq_false (by omega)
    have d2 : decide (100000 < N) = false := decide_eq_false (by omega)
    have d3 : decide ((20000 : Int) < P.length) = false := decide_eq_false (by omega)
    clear hT hP h0 h1
    go_enter Tryd.func18, Tryd.ntmps18
    go_wp2
    go_loopw [5] (fun i wr => ∃ j : Nat, j ≤ P.length ∧ i = .int .i64 j ∧ Below w.heap.size w wr ∧ Hid ((P.drop j).all (fun s => rightC N s.2) = T)) (fun i _ => P.length - (intOf i).toNat)
    case atStart => exact ⟨0, Nat.zero_le _, rfl, Below.refl _ _, HT⟩
    case round =>
      obtain ⟨j, hj, rfl, hb, HJ⟩ := hrel
      by_cases hlt : j < P.length
      · obtain ⟨ad, A1, c1, rfl, hab, hc0, hc1, hr, hlc, hcm⟩ := HP.out j hlt
        have hcc1 := (hb.cell (p := ⟨(ad.add (j * 2)).block, (ad.add (j * 2)).off + 1, none⟩) (by show (ad.add (j * 2)).block < _; rw [block_add]; exact hab)).trans hc1
        have hrr := (hr.below hb).mono hb.size
        have e := HJ.out
        rw [dropS P j hlt, List.all_cons] at e
        obtain ⟨ub, hub⟩ : ∃ ub, P.getD j (true, []) = ub := ⟨_, rfl⟩
        rw [hub] at hcc1 hlc hrr e
        obtain ⟨d, u⟩ := ub
        simp only at hcc1 hlc hrr e
        have hbx := bal (Below.refl wr.heap.size wr) (.cells #[.slice A1 u.length c1] 26)
        have hbc : (wr.alloc (.cells #[.slice A1 u.length c1] 26)).cell? ⟨wr.heap.size, 0, none⟩ = some (.slice A1 u.length c1) := by go_simp
        have hsz : wr.heap.size < (wr.alloc (.cells #[.slice A1 u.length c1] 26)).heap.size := by simp
        have hrc := RC.one (hrr.nx hbx) hsz hbc (by omega)
        have C := refRight_any (some ⟨wr.heap.size, 0, none⟩) 1 N [u] (wr.alloc (.cells #[.slice A1 u.length c1] 26)) hrc (by simp [maxLen])
        rw [rightF_one u HN.out] at C
        have HB := Lib.hid (bnx hb hbx)
        have hlt' : (j : Int) < P.length := by omega
        clear hc0 hc1 hr hrr hb hub hbx hbc hrc HJ HT
        cases hrr : rightC N u
        · rw [hrr] at C
          have HE : Hid (false = T) := by show _ = _; rw [← e, hrr, Bool.false_and]
          clear e hrr
          go_wp2_with fail
          refine C.mono ?_; rintro e w2 ⟨rfl, hb2⟩
          have HB2 := Lib.hid (bnx HB.out hb2)
          clear C hb2
          go_wp2
          go_ret
          exact ⟨by rw [← HE.out]; rfl, HB2.out⟩
        · rw [hrr] at C
          have HE : Hid ((P.drop (j + 1)).all (fun s => rightC N s.2) = T) := by show _ = _; rw [← e, hrr, Bool.true_and]
          clear e hrr
          go_wp2_with fail
          refine C.mono ?_; rintro e w2 ⟨rfl, hb2⟩
          have HB2 := Lib.hid (bnx HB.out hb2)
          clear C hb2
          go_wp2
          go_roundw
          case rel => exact ⟨j + 1, by omega, by go_num, HB2.out, HE⟩
          case measure => simp [intOf]; omega
      · have e := HJ.out
        rw [List.drop_of_length_le (by omega)] at e
        have HE : Hid (true = T) := by show _ = _; simpa using e
        have HB := Lib.hid hb
        clear e HJ HT HP hb
        go_wp2
        go_ret
        exact ⟨by rw [← HE.out]; rfl, HB.out⟩
  · rw [rightP_out hin]
    have cs : (decide (N < 0) = true) ∨ (decide (N < 0) = false ∧ decide (100000 < N) = true) ∨ (decide (N < 0) = false ∧ decide (100000 < N) = false ∧ decide ((20000 : Int) < P.length) = true) := by
      simp only [decide_eq_true_eq, decide_eq_false_iff_not]; omega
    clear hP hin
    rcases cs with c1 | ⟨c1, c2⟩ | ⟨c1, c2, c3⟩
    all_goals
      go_enter Tryd.func18, Tryd.ntmps18
      go_wp2
      go_ret
      exact ⟨rfl, Below.refl _ _⟩
end Go.Proofs.YtahedhpffjgimaaDoor
