/-
  What is printed is parsed: plain functions of bytes.
-/
import Derived.Test.YtplcabecbofjpaaDoorProg
import Derived.WalkKit
import Derived.WalkSpells
import Derived.WalkLawsBesides
import Derived.Lib.Hide
import Derived.BigQuiet
import Derived.Deep.QuietTactic
import Derived.Deep.RegionWith
import Derived.Deep.RegionHeld3
import Derived.Test.YtplcabecbofjpaaDoorS13
import Derived.Test.YtplcabecbofjpaaDoorM2
import Derived.Lib.ItoaMem
set_option linter.unusedVariables false
namespace Go.Proofs.YtplcabecbofjpaaDoor
open Go.RowKit
theorem figs_dec : ∀ (f n : Nat), n ≤ f → figs n = Lib.decDigits n := by
  intro f
  induction f with
  | zero => intro n h; rw [figs_last n (by omega), Lib.decDigits_one (by omega)]
  | succ f ih =>
    intro n h
    by_cases h9 : 9 < n
    · rw [figs_more n h9, Lib.decDigits, dif_neg (by omega), ih (n / 10) (by omega)]
    · rw [figs_last n h9, Lib.decDigits_one (by omega)]
theorem dec_figs (n : Nat) : Lib.decDigits n = figs n := (figs_dec n n (Nat.le_refl _)).symm
theorem itoa_nn (u : Nat) : Lib.itoa (u : Int) = figs u := by rw [Lib.itoa_nonneg, dec_figs]
theorem itoa_ng (u : Nat) (h : 1 ≤ u) : Lib.itoa (-(u : Int)) = 45 :: figs u := by rw [Lib.itoa_neg u h, dec_figs]
theorem number_figs (u : Nat) (b : List UInt8) (hb : NoFig b) (most : Int) (h1 : (u : Int) ≤ most) (h2 : u ≤ 2147483647) : numberS (figs u ++ b) most = ((u : Int), (figs u).length, 0) := by
  rw [numberS_figs u b hb most, if_neg (by omega)]
theorem figs_hd (u : Nat) : ∃ c t, figs u = c :: t ∧ 48 ≤ c.toNat ∧ c.toNat ≤ 57 := by
  have hd := figs_digits u u (Nat.le_refl _)
  have hn := figs_ne u
  cases h : figs u with
  | nil => exact absurd h hn
  | cons c t => exact ⟨c, t, rfl, hd c (by rw [h]; simp)⟩
theorem signed_itoa (x : Int) (b : List UInt8) (hb : NoFig b) (most : Int) (h1 : -most ≤ x) (h2 : x ≤ most) (h3 : most ≤ 2147483647) : signedS (Lib.itoa x ++ b) most = (x, (Lib.itoa x).length, 0) := by
  unfold signedS
  by_cases hx : 0 ≤ x
  · obtain ⟨u, rfl⟩ := Int.eq_ofNat_of_zero_le hx
    rw [itoa_nn]
    obtain ⟨c, t, e, hc1, hc2⟩ := figs_hd u
    have : ((figs u ++ b).take 1 == [(45 : UInt8)]) = false := by
      rw [e]; simp only [List.cons_append, List.take_succ_cons, List.take_zero]
      rw [beq_eq_false_iff_ne]
      intro e2
      injection e2 with e3
      rw [e3] at hc1
      exact absurd hc1 (by decide)
    rw [this, if_neg (by simp)]
    exact number_figs u b hb most h2 (by omega)
  · obtain ⟨u, hu⟩ := Int.eq_ofNat_of_zero_le (show 0 ≤ -x by omega)
    obtain rfl : x = -(u : Int) := by omega
    rw [itoa_ng u (by omega)]
    have hh := figs_head u u (Nat.le_refl _) (by omega)
    obtain ⟨c, t, e, hc1, hc2⟩ := figs_hd u
    have e0 : (45 :: figs u ++ b).take 1 = [45] := rfl
    have e1 : (45 :: figs u ++ b).drop 1 = figs u ++ b := rfl
    rw [e0, e1, if_pos (by decide)]
    have : ((figs u ++ b).take 1 == [(48 : UInt8)]) = false := by
      rw [e] at hh ⊢
      simp only [List.cons_append, List.take_succ_cons, List.take_zero, List.getD_cons_zero] at hh ⊢
      rw [beq_eq_false_iff_ne]
      intro e2
      injection e2 with e3
      rw [e3] at hh
      exact absurd rfl hh
    rw [this, if_neg (by simp), number_figs u b hb most (by omega) (by omega)]
    simp
theorem noFig_cons (c : UInt8) (t : List UInt8) (h : ¬ (48 ≤ c.toNat ∧ c.toNat ≤ 57)) : NoFig (c :: t) := by
  intro c' t' e
  injection e with e1 e2
  rw [← e1]; exact h
theorem bS_app (s t : List UInt8) : bS (s ++ t) s = true := by unfold bS; rw [List.take_left]; simp
theorem drop_app (s t : List UInt8) (n : Nat) (h : n = s.length) : (s ++ t).drop n = t := by subst h; exact List.drop_left
theorem zero_signed (b : List UInt8) (hb : NoFig b) (most : Int) (h0 : 0 ≤ most) (h3 : most ≤ 2147483647) : signedS (48 :: b) most = (0, 1, 0) := by
  have := signed_itoa 0 b hb most (by omega) h0 h3
  have e : Lib.itoa 0 = [48] := by rw [show (0 : Int) = ((0 : Nat) : Int) from rfl, itoa_nn, figs_last 0 (by omega)]; rfl
  rw [e] at this
  exact this
theorem rdCl_print (n : Int) (h0 : 0 ≤ n) (h3 : n ≤ 2147483647) (b : List UInt8) : ∀ (lits c : List Int), (∀ x ∈ lits, x ≠ 0 ∧ -n ≤ x ∧ x ≤ n) → c.length + lits.length ≤ 1000 → rdCl n (tellS lits ++ b) c = (c ++ lits, (tellS lits).length, 0)
  | [], c, hx, hl => by
    have e : tellS [] ++ b = 48 :: (10 :: b) := rfl
    have hz := zero_signed (10 :: b) (noFig_cons _ _ (by decide)) n h0 h3
    rw [e, rdCl, hz, if_neg (by simp), if_pos rfl]
    have e2 : bS ((48 :: 10 :: b).drop 1) [10] = true := bS_app [10] b
    rw [if_pos e2]
    simp [tellS, litsS]
  | x :: lits, c, hx, hl => by
    obtain ⟨x0, x1, x2⟩ := hx x (by simp)
    have ih := rdCl_print n h0 h3 b lits (c ++ [x]) (fun y hy => hx y (by simp [hy])) (by simp only [List.length_append, List.length_cons, List.length_nil] at *; omega)
    have e : tellS (x :: lits) ++ b = Lib.itoa x ++ (32 :: (tellS lits ++ b)) := by simp [tellS, litsS, litS]
    have hs := signed_itoa x (32 :: (tellS lits ++ b)) (noFig_cons _ _ (by decide)) n x1 x2 h3
    rw [e, rdCl, hs, if_neg (by simp), if_neg x0]
    have hlen : ¬ c.length = 1000 := by simp only [List.length_cons] at hl; omega
    rw [if_neg hlen]
    have e2 : (Lib.itoa x ++ 32 :: (tellS lits ++ b)).drop (Lib.itoa x).length = 32 :: (tellS lits ++ b) := List.drop_left
    have e3 : (Lib.itoa x ++ 32 :: (tellS lits ++ b)).drop ((Lib.itoa x).length + 1) = tellS lits ++ b := by rw [← List.drop_drop, e2]; rfl
    have hb : bS ((Lib.itoa x ++ 32 :: (tellS lits ++ b)).drop (Lib.itoa x).length) [32] = true := by rw [e2]; exact bS_app [32] _
    simp only
    rw [dif_pos hb, e3, ih]
    simp [tellS, litsS, litS]
    omega
theorem rdCls_print (n : Int) (h0 : 0 ≤ n) (h3 : n ≤ 2147483647) (b : List UInt8) : ∀ (L L0 : List (List Int)), (∀ c ∈ L, c.length ≤ 1000 ∧ ∀ x ∈ c, x ≠ 0 ∧ -n ≤ x ∧ x ≤ n) → rdCls n L.length (bodyS L ++ b) L0 = (L0 ++ L, (bodyS L).length, 0)
  | [], L0, h => by simp [rdCls, bodyS]
  | c :: L, L0, h => by
    obtain ⟨c1, c2⟩ := h c (by simp)
    have ih := rdCls_print n h0 h3 b L (L0 ++ [c]) (fun y hy => h y (by simp [hy]))
    have e : bodyS (c :: L) ++ b = tellS c ++ (bodyS L ++ b) := by simp [bodyS]
    have hc := rdCl_print n h0 h3 (bodyS L ++ b) c [] c2 (by simpa using c1)
    rw [e, List.length_cons, rdCls, hc, if_neg (by simp)]
    simp only
    rw [List.drop_left, List.nil_append, ih]
    simp [bodyS]
theorem rdHead_print (N m : Nat) (hN : N ≤ 100000) (hm : m ≤ 20000) (b : List UInt8) : rdHead (headS N m ++ b) = ((N : Int), (m : Int), (headS N m).length, 0) := by
  have e : headS N m ++ b = headW ++ (figs N ++ (32 :: (figs m ++ (10 :: b)))) := by unfold headS headW; rw [itoa_nn, itoa_nn]; simp
  have hl : (headS N m).length = 6 + (figs N).length + 1 + (figs m).length + 1 := by unfold headS; rw [itoa_nn, itoa_nn]; simp; omega
  rw [e, hl]
  have d6 : (headW ++ (figs N ++ (32 :: (figs m ++ (10 :: b))))).drop 6 = figs N ++ (32 :: (figs m ++ (10 :: b))) := drop_app headW _ 6 rfl
  have n1 := number_figs N (32 :: (figs m ++ (10 :: b))) (noFig_cons _ _ (by decide)) 100000 (by omega) (by omega)
  have d7 : (headW ++ (figs N ++ (32 :: (figs m ++ (10 :: b))))).drop (6 + (figs N).length) = 32 :: (figs m ++ (10 :: b)) := by rw [← List.drop_drop, d6, List.drop_left]
  have d8 : (headW ++ (figs N ++ (32 :: (figs m ++ (10 :: b))))).drop (6 + (figs N).length + 1) = figs m ++ (10 :: b) := by rw [← List.drop_drop, d7]; rfl
  have n2 := number_figs m (10 :: b) (noFig_cons _ _ (by decide)) 20000 (by omega) (by omega)
  have d9 : (headW ++ (figs N ++ (32 :: (figs m ++ (10 :: b))))).drop (6 + (figs N).length + 1 + (figs m).length) = 10 :: b := by rw [← List.drop_drop, d8, List.drop_left]
  unfold rdHead
  rw [if_neg (by rw [bS_app]; simp), d6, n1]
  simp only
  rw [if_neg (by simp), d7, if_neg (by rw [show bS (32 :: (figs m ++ 10 :: b)) [32] = true from bS_app [32] _]; simp), d8, n2]
  simp only
  rw [if_neg (by simp), d9, if_neg (by rw [show bS (10 :: b) [10] = true from bS_app [10] _]; simp)]
theorem parse_print_any {N : Int} {L : List (List Int)} (h : rightF N L = true) (b : List UInt8) (hl : (printS N L ++ b).length ≤ 100000) : parseS (printS N L ++ b) = if b = [] then ((N, L), (printS N L).length, 0) else ((0, []), (printS N L).length, 2) := by
  obtain ⟨h0, h1, h2, h3⟩ := right_parts h
  obtain ⟨u, rfl⟩ := Int.eq_ofNat_of_zero_le h0
  have e : printS u L ++ b = headS u L.length ++ (bodyS L ++ b) := by simp [printS]
  have hh : rdHead (printS u L ++ b) = ((u : Int), ((L.length : Nat) : Int), (headS u L.length).length, 0) := by rw [e]; exact rdHead_print u L.length (by omega) h2 _
  have hc : rdCls (u : Int) ((L.length : Nat) : Int).toNat ((printS u L ++ b).drop (headS u L.length).length) [] = (L, (bodyS L).length, 0) := by
    rw [e, List.drop_left]
    have := rdCls_print (u : Int) (by omega) (by omega) b L [] h3
    simpa using this
  have hk : (headS u L.length).length + (bodyS L).length = (printS u L).length := by simp [printS]
  have hlen : (printS u L ++ b).length = (printS u L).length + b.length := List.length_append
  by_cases hb : b = []
  · subst hb
    rw [if_pos rfl]
    rw [parse_ok hl hh hc (by rw [hk, hlen]; simp), hk]
  · rw [if_neg hb]
    have : 0 < b.length := List.length_pos_iff.2 hb
    rw [parse_en hl hh hc (by rw [hk, hlen]; omega), hk]
theorem parse_print {N : Int} {L : List (List Int)} (h : rightF N L = true) (hl : (printS N L).length ≤ 100000) : parseS (printS N L) = ((N, L), (printS N L).length, 0) := by
  have := parse_print_any h [] (by simpa using hl)
  simpa using this
theorem litAt_ne (m : List Bool) (i : Nat) : litAt m i ≠ 0 := by unfold litAt; split <;> omega
theorem rdVal_print (m : List Bool) (i : Nat) (b : List UInt8) : rdVal (litS (litAt m i) ++ b) (i + 1) = (m.getD i false, (litS (litAt m i)).length, 0) := by
  have hw : litS ((i + 1 : Nat) : Int) = figs (i + 1) ++ [32] := by unfold litS; rw [itoa_nn]
  unfold rdVal
  rw [hw]
  cases hb : m.getD i false
  · have e : litS (litAt m i) ++ b = 45 :: ((figs (i + 1) ++ [32]) ++ b) := by
      unfold litS litAt
      rw [hb, if_neg (by simp), show -((i : Int) + 1) = -((i + 1 : Nat) : Int) by omega, itoa_ng _ (by omega)]; simp
    have hl : (litS (litAt m i)).length = 1 + (figs (i + 1) ++ [32]).length := by
      unfold litS litAt
      rw [hb, if_neg (by simp), show -((i : Int) + 1) = -((i + 1 : Nat) : Int) by omega, itoa_ng _ (by omega)]; simp; omega
    have h1 : bS (45 :: ((figs (i + 1) ++ [32]) ++ b)) [45] = true := bS_app [45] _
    rw [e, h1, if_pos rfl]
    have h2 : bS ((45 :: ((figs (i + 1) ++ [32]) ++ b)).drop 1) (figs (i + 1) ++ [32]) = true := bS_app _ b
    rw [if_pos h2, hl]; rfl
  · have e : litS (litAt m i) = figs (i + 1) ++ [32] := by
      unfold litS litAt
      rw [hb, if_pos rfl, show (i : Int) + 1 = ((i + 1 : Nat) : Int) by omega, itoa_nn]
    rw [e]
    obtain ⟨c, t, e2, hc1, hc2⟩ := figs_hd (i + 1)
    have h1 : bS ((figs (i + 1) ++ [32]) ++ b) [45] = false := by
      unfold bS
      rw [e2]
      simp only [List.cons_append, List.length_cons, List.length_nil, Nat.zero_add, List.take_succ_cons, List.take_zero]
      rw [beq_eq_false_iff_ne]
      intro e4
      injection e4 with e3
      rw [e3] at hc1
      exact absurd hc1 (by decide)
    rw [h1]
    simp only [Bool.false_eq_true, if_false, List.drop_zero]
    rw [if_pos (bS_app _ b)]
    simp
theorem rdVals_print (m : List Bool) (b : List UInt8) : ∀ (r i : Nat), i + r = m.length → rdVals r (i + 1) (litsS ((List.range' i r).map (litAt m)) ++ b) (m.take i) = (m, (litsS ((List.range' i r).map (litAt m))).length, 0)
  | 0, i, h => by
    have : m.take i = m := List.take_of_length_le (by omega)
    simp [rdVals, litsS, this]
  | r + 1, i, h => by
    have ih := rdVals_print m b r (i + 1) (by omega)
    have e : litsS ((List.range' i (r + 1)).map (litAt m)) ++ b = litS (litAt m i) ++ (litsS ((List.range' (i + 1) r).map (litAt m)) ++ b) := by
      rw [List.range'_succ]; simp [litsS]
    have hl : (litsS ((List.range' i (r + 1)).map (litAt m))).length = (litS (litAt m i)).length + (litsS ((List.range' (i + 1) r).map (litAt m))).length := by
      rw [List.range'_succ]; simp [litsS]
    have ht : m.take i ++ [m.getD i false] = m.take (i + 1) := by
      rw [List.take_succ_eq_append_getElem (by omega)]; simp [List.getD, show i < m.length by omega]
    rw [e, rdVals, rdVal_print m i, if_neg (by simp)]
    simp only
    rw [List.drop_left, ht, ih, hl]
theorem parseM_print (m : List Bool) : parseM (modS m) m.length = (m, (modS m).length, 0) := by
  have e : modS m = [118, 32] ++ (litsS (modL m) ++ [48, 10]) := by simp [modS, tellS]
  have hm : modL m = (List.range' 0 m.length).map (litAt m) := by unfold modL; rw [List.range_eq_range']
  have hr := rdVals_print m [48, 10] m.length 0 (by omega)
  rw [← hm, Nat.zero_add, List.take_zero] at hr
  have hd : (modS m).drop 2 = litsS (modL m) ++ [48, 10] := by rw [e]; exact drop_app [118, 32] _ 2 rfl
  have hl : (modS m).length = 2 + (litsS (modL m)).length + 2 := by rw [e]; simp; omega
  have hd2 : (modS m).drop (2 + (litsS (modL m)).length) = [48, 10] := by rw [← List.drop_drop, hd, List.drop_left]
  unfold parseM
  rw [if_neg (by rw [e, bS_app]; simp), hd, hr]
  simp only
  rw [if_neg (by simp), hd2, if_neg (by decide), if_neg (by omega), hl]
end Go.Proofs.YtplcabecbofjpaaDoor
