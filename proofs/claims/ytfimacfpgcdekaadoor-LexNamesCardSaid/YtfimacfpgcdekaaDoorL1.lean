/-
  The statement LexNames over the translated program: the call returns true, for every slice of bytes, place, string and number, under the two tables of unicode/utf8 as its text lays them; nothing that was there is changed.
-/
import Derived.Test.YtfimacfpgcdekaaDoorR4
import Derived.Test.YtfimacfpgcdekaaDoorR1
set_option linter.unusedVariables false
namespace Go.Proofs.YtfimacfpgcdekaaDoor
open Go.RowKit
theorem IsNameV (s : ByteArray) (w : World) (hs : s.size ≤ 1048576) (hT : Tabs w) (b : Bool) (hb : isNm s.data.toList = b) :
    Calls Tryd.prog 14 #[.string s] w fun e w' => e = .returned (.bool b) ∧ Below w.heap.size w w' := by
  subst hb; exact IsName_any s w (by unfold maxLen; omega) hT
theorem IsNameRV (s : ByteArray) (w : World) (hs : s.size ≤ 1048576) (b : Bool) (hb : isNm s.data.toList = b) :
    Calls Tryd.prog 15 #[.string s] w fun e w' => e = .returned (.bool b) ∧ w = w' := by
  subst hb; exact IsNameR_any s w hs
theorem Put_row (n : Nat) (w : World) (hn : n ≤ 2147483647) :
    Calls Tryd.prog 17 #[.int .i64 n] w fun e w' => ∃ A c, e = .returned (.slice A (putL n).length c) ∧ Rd w' w'.heap.size A (putL n) ∧ Below w.heap.size w w' :=
  (Put_any n w hn).mono fun e w' ⟨v, he, ho, hb⟩ => by
    obtain ⟨A, c, hv, hr, h1, h2, h3⟩ := ho.form
    exact ⟨A, c, by rw [he, hv], hr, hb⟩
theorem PutR_row (n : Nat) (w : World) (hn : n ≤ 2147483647) :
    Calls Tryd.prog 18 #[.int .i64 n] w fun e w' => ∃ A c, e = .returned (.slice A (putL n).length c) ∧ Rd w' w'.heap.size A (putL n) ∧ Below w.heap.size w w' :=
  (PutR_any n w hn).mono fun e w' ⟨v, he, ho, hb⟩ => by
    obtain ⟨A, c, hv, hr, h1, h2, h3⟩ := ho.form
    exact ⟨A, c, by rw [he, hv], hr, hb⟩
set_option maxRecDepth 100000 in
set_option maxHeartbeats 1600000 in
theorem LexNames_long (A : Option Addr) (nb c : Nat) (k : Int) (s : ByteArray) (n : Int) (w : World) (hT : Tabs w) (hl : 1000 < nb ∨ 1000 < s.size) :
    Calls Tryd.prog 3 #[.agg #[.slice A nb c, .int .i64 k, .string s, .int .i64 n]] w fun e w' => e = .returned (.bool true) ∧ Below w.heap.size w w' := by
  have b0 : Below w.heap.size w (w.alloc (.cells #[.slice A nb c, .int .i64 k, .string s, .int .i64 n] 24)) := (Below.refl _ _).alloc (Nat.le_refl _) _
  have cS := shown_any _ (hT.below b0)
  have hcase : (decide ((1000 : Int) < nb) = true) ∨ (decide ((1000 : Int) < nb) = false ∧ decide ((1000 : Int) < s.size) = true) := by
    simp only [decide_eq_true_eq, decide_eq_false_iff_not]; omega
  clear hl hT
  rcases hcase with g0 | ⟨g1, g2⟩
  all_goals
    go_enter Tryd.func3, Tryd.ntmps3
    go_wp2_with fail
    refine cS.mono ?_; rintro e w1 ⟨rfl, hb⟩
    have b1 := b0.trans (hb.mono b0.size)
    clear hb b0 cS
    go_wp2
    go_ret
    exact ⟨rfl, b1⟩
set_option maxRecDepth 100000 in
set_option maxHeartbeats 4000000 in
theorem LexNames_in (A : Option Addr) (c : Nat) (l : List UInt8) (k : Int) (s : ByteArray) (n : Int) (w : World) (hT : Tabs w)
    (ra : Rd w w.heap.size A l) (hna : l.length ≤ c) (hca : c ≤ maxLen) (hA : A = none → c = 0) (hla : l.length ≤ 1000) (hs : s.size ≤ 1000) :
    Calls Tryd.prog 3 #[.agg #[.slice A l.length c, .int .i64 k, .string s, .int .i64 n]] w fun e w' => e = .returned (.bool true) ∧ Below w.heap.size w w' := by
  have b0 : Below w.heap.size w (w.alloc (.cells #[.slice A l.length c, .int .i64 k, .string s, .int .i64 n] 24)) := (Below.refl _ _).alloc (Nat.le_refl _) _
  have cS := shown_any _ (hT.below b0)
  have d1 : decide ((1000 : Int) < l.length) = false := decide_eq_false (by omega)
  have d2 : decide ((1000 : Int) < s.size) = false := decide_eq_false (by omega)
  have HT : Hid (Tabs w) := hT
  obtain ⟨bv0, hb0⟩ : ∃ b, isNm s.data.toList = b := ⟨_, rfl⟩
  have HB : Hid (isNm s.data.toList = bv0) := hb0
  clear hT hb0
  by_cases hko : k < 0 ∨ (l.length : Int) < k
  · have HK : Hid (k < 0 ∨ (l.length : Int) < k) := hko
    clear hko
    go_enter Tryd.func3, Tryd.ntmps3
    go_wp2_with fail
    refine cS.mono ?_; rintro e w1 ⟨rfl, hb⟩
    have b2 := b0.trans (hb.mono b0.size)
    have z2 := b2.size
    clear hb b0 cS
    go_wp2_with fail
    refine (Name_out _ _ _ _ _ HK.out).mono ?_; rintro e w2 ⟨rfl, rfl⟩
    go_wp2_with fail
    refine (NameR_out _ _ _ _ _ HK.out).mono ?_; rintro e w2 ⟨rfl, rfl⟩
    go_wp2_with fail
    refine (Take_out _ _ _ _ _ HK.out).mono ?_; rintro e w2 ⟨rfl, rfl⟩
    go_wp2_with fail
    refine (TakeR_out _ _ _ _ _ HK.out).mono ?_; rintro e w2 ⟨rfl, rfl⟩
    go_wp2_with fail
    refine (IsNameV s _ (by omega) (HT.out.below b2) bv0 HB.out).mono ?_; rintro e w3 ⟨rfl, hb3⟩
    have b3 := b2.trans (hb3.mono z2)
    have z3 := b3.size
    clear hb3
    go_wp2_with fail
    refine (IsNameRV s _ (by omega) bv0 HB.out).mono ?_; rintro e w4 ⟨rfl, rfl⟩
    have hbb : (bv0 == bv0) = true := by simp
    by_cases hno : n < 0 ∨ 2147483647 < n
    · go_wp2_with fail
      refine (Put_out n _ hno).mono ?_; rintro e w4 ⟨rfl, rfl⟩
      go_wp2_with fail
      refine (PutR_out n _ hno).mono ?_; rintro e w4 ⟨rfl, rfl⟩
      go_wp2_with fail
      refine (Row_yes none none 0 0 [] 0 0 _ (Rd.nil _ _ _) (Rd.nil _ _ _) (by simp)).mono ?_; rintro e w4 ⟨rfl, nq, rfl⟩
      go_wp2
      go_ret
      exact ⟨rfl, below_drewNv b3 nq⟩
    · obtain ⟨N, rfl⟩ := Int.eq_ofNat_of_zero_le (show 0 ≤ n by omega)
      have hN : N ≤ 2147483647 := by omega
      clear hno
      go_wp2_with fail
      refine (Put_row N _ hN).mono ?_; rintro e w4 ⟨A4, c4, rfl, r4, hb4⟩
      have b4 := b3.trans (hb4.mono z3)
      have z4 := b4.size
      clear hb4
      go_wp2_with fail
      refine (PutR_row N _ hN).mono ?_; rintro e w5 ⟨A5, c5, rfl, r5, hb5⟩
      have b5 := b4.trans (hb5.mono z4)
      have r6 := r4.below hb5
      have h5 := putL_five N hN
      clear hb5 r4
      go_wp2_with fail
      refine (Row_yes A4 A5 c4 c5 (putL N) _ _ _ r6 r5 (by unfold maxLen; omega)).mono ?_; rintro e w6 ⟨rfl, nq, rfl⟩
      clear r5 r6
      go_wp2
      go_ret
      exact ⟨rfl, below_drewNv b5 nq⟩
  · obtain ⟨K, rfl⟩ := Int.eq_ofNat_of_zero_le (show 0 ≤ k by omega)
    have hK : K ≤ l.length := by omega
    clear hko
    obtain ⟨⟨x1, m1, e1⟩, h1⟩ : ∃ r, nameS (l.drop K) = r := ⟨_, rfl⟩
    obtain ⟨⟨x2, m2, e2⟩, h2⟩ : ∃ r, takeS (l.drop K) = r := ⟨_, rfl⟩
    have c1 := fun (wx : World) (r : Rd wx w.heap.size A l) (t : Tabs wx) => Name_any A c K l _ wx r hK hna hca hA t
    have c2 := fun (wx : World) (r : Rd wx w.heap.size A l) => NameR_any A c K l _ wx r hK hna hca (by omega)
    have c3 := fun (wx : World) (r : Rd wx w.heap.size A l) => Take_any A c K l _ wx r hK hna hca (by omega)
    have c4 := fun (wx : World) (r : Rd wx w.heap.size A l) => TakeR_any A c K l _ wx r hK hna hca (by omega)
    rw [h1] at c1 c2
    rw [h2] at c3 c4
    unfold resS at c1 c2
    unfold res3 at c3 c4
    simp only at c1 c2 c3 c4
    generalize (⟨x1.toArray⟩ : ByteArray) = X at *
    generalize ((K + m1 : Nat) : Int) = E1 at *
    generalize ((K + m2 : Nat) : Int) = E2 at *
    have C1 : Hid _ := c1
    have C2 : Hid _ := c2
    have C3 : Hid _ := c3
    have C4 : Hid _ := c4
    clear c1 c2 c3 c4 h1 h2
    have q1 : (X.toList == X.toList) = true := by simp
    have q2 : (E1 == E1) = true := by simp
    have q3 : (e1 == e1) = true := by simp
    have q4 : (x2 == x2) = true := by simp
    have q5 : (E2 == E2) = true := by simp
    have q6 : (e2 == e2) = true := by simp
    go_enter Tryd.func3, Tryd.ntmps3
    go_wp2_with fail
    refine cS.mono ?_; rintro e w1 ⟨rfl, hb⟩
    have b1 := b0.trans (hb.mono b0.size)
    have z1 := b1.size
    have r1 := ra.below b1
    clear hb b0 cS
    go_wp2_with fail
    refine (C1.out _ r1 (HT.out.below b1)).mono ?_; rintro e w2 ⟨rfl, hb2⟩
    have b2 := b1.trans (hb2.mono z1)
    have z2 := b2.size
    have r2 := ra.below b2
    clear hb2
    go_wp2_with fail
    refine (C2.out _ r2).mono ?_; rintro e w3 ⟨rfl, rfl⟩
    go_wp2_with fail
    refine (C3.out _ r2).mono ?_; rintro e w3 ⟨rfl, rfl⟩
    go_wp2_with fail
    refine (C4.out _ r2).mono ?_; rintro e w3 ⟨rfl, rfl⟩
    clear C1 C2 C3 C4 r1 r2
    go_wp2_with fail
    refine (IsNameV s _ (by omega) (HT.out.below b2) bv0 HB.out).mono ?_; rintro e w3 ⟨rfl, hb3⟩
    have b3 := b2.trans (hb3.mono z2)
    have z3 := b3.size
    clear hb3
    go_wp2_with fail
    refine (IsNameRV s _ (by omega) bv0 HB.out).mono ?_; rintro e w4 ⟨rfl, rfl⟩
    have hbb : (bv0 == bv0) = true := by simp
    by_cases hno : n < 0 ∨ 2147483647 < n
    · go_wp2_with fail
      refine (Put_out n _ hno).mono ?_; rintro e w4 ⟨rfl, rfl⟩
      go_wp2_with fail
      refine (PutR_out n _ hno).mono ?_; rintro e w4 ⟨rfl, rfl⟩
      go_wp2_with fail
      refine (Row_yes none none 0 0 [] 0 0 _ (Rd.nil _ _ _) (Rd.nil _ _ _) (by simp)).mono ?_; rintro e w4 ⟨rfl, nq, rfl⟩
      go_wp2
      go_ret
      exact ⟨rfl, below_drewNv b3 nq⟩
    · obtain ⟨N, rfl⟩ := Int.eq_ofNat_of_zero_le (show 0 ≤ n by omega)
      have hN : N ≤ 2147483647 := by omega
      clear hno
      go_wp2_with fail
      refine (Put_row N _ hN).mono ?_; rintro e w4 ⟨A4, c4, rfl, r4, hb4⟩
      have b4 := b3.trans (hb4.mono z3)
      have z4 := b4.size
      clear hb4
      go_wp2_with fail
      refine (PutR_row N _ hN).mono ?_; rintro e w5 ⟨A5, c5, rfl, r5, hb5⟩
      have b5 := b4.trans (hb5.mono z4)
      have r6 := r4.below hb5
      have h5 := putL_five N hN
      clear hb5 r4
      go_wp2_with fail
      refine (Row_yes A4 A5 c4 c5 (putL N) _ _ _ r6 r5 (by unfold maxLen; omega)).mono ?_; rintro e w6 ⟨rfl, nq, rfl⟩
      clear r5 r6
      go_wp2
      go_ret
      exact ⟨rfl, below_drewNv b5 nq⟩
end Go.Proofs.YtfimacfpgcdekaaDoor
