/-
  The statement LexBack over the translated program: the call returns true, for every two numbers and every slice of bytes, under the two tables of unicode/utf8 as its text lays them; nothing that was there is changed.
-/
import Derived.Test.YtfimacfpgcdekaaDoorM1
import Derived.Test.YtfimacfpgcdekaaDoorR1
import Derived.Deep.RegionWith
set_option linter.unusedVariables false
namespace Go.Proofs.YtfimacfpgcdekaaDoor
open Go.RowKit
set_option maxRecDepth 100000 in
set_option maxHeartbeats 1600000 in
theorem LexBack_long (n m : Int) (A : Option Addr) (k c : Nat) (w : World) (hT : Tabs w) (hl : 500 < k) :
    Calls Tryd.prog 5 #[.int .i64 n, .int .i64 m, .slice A k c] w fun e w' => e = .returned (.bool true) ∧ Below w.heap.size w w' := by
  have hl' : (500 : Int) < k := by omega
  have cS := shown_any w hT
  clear hl hT
  go_enter Tryd.func5, Tryd.ntmps5
  go_wp2_with fail
  refine cS.mono ?_; rintro e w1 ⟨rfl, hb⟩
  go_wp2
  go_ret
  exact ⟨rfl, hb⟩
theorem takeS_no (t : List UInt8) (h : (takeS t).2.2 ≠ 0) : takeS t = (0, 0, 2) := by
  unfold takeS at h ⊢
  cases hr : takeF 0 0 (t.take 5) with
  | none => rfl
  | some r => rw [hr] at h; exact absurd rfl h
theorem Row_yesI (A A' : Option Addr) (c c' n1 n2 : Nat) (l l' : List UInt8) (B B' : Nat) (w : World) (h : Rd w B A l) (h' : Rd w B' A' l') (hll : l' = l) (h1 : n1 = l.length) (h2 : n2 = l.length) (hn : l.length ≤ maxLen) :
    Calls Tryd.prog 16 #[.slice A n1 c, .slice A' n2 c'] w fun e w' => e = .returned (.bool true) ∧ ∃ n, w' = w.drewN n := by
  subst hll; subst h1; rw [h2]; exact Row_yes A A' c c' _ B B' w h h' hn
theorem Put_form (n : Nat) (w : World) (hn : n ≤ 2147483647) :
    Calls Tryd.prog 17 #[.int .i64 n] w fun e w' => ∃ A c, e = .returned (.slice A (putL n).length c) ∧ Rd w' w'.heap.size A (putL n) ∧ (putL n).length ≤ c ∧ c ≤ maxLen ∧ (A = none → c = 0) ∧ Below w.heap.size w w' :=
  (Put_any n w hn).mono fun e w' ⟨v, he, ho, hb⟩ => by
    obtain ⟨A, c, hv, hr, h1, h2, h3⟩ := ho.form
    exact ⟨A, c, by rw [he, hv], hr, h1, h2, h3, hb⟩
set_option maxRecDepth 100000 in
set_option maxHeartbeats 4000000 in
theorem LexBack_in (n m : Int) (A : Option Addr) (c : Nat) (l : List UInt8) (w : World) (h : Rd w w.heap.size A l) (hn : l.length ≤ c) (hc : c ≤ maxLen) (hA : A = none → c = 0) (hT : Tabs w) (hl : l.length ≤ 500) :
    Calls Tryd.prog 5 #[.int .i64 n, .int .i64 m, .slice A l.length c] w fun e w' => e = .returned (.bool true) ∧ Below w.heap.size w w' := by
  have hl' : decide ((500 : Int) < l.length) = false := decide_eq_false (by omega)
  have cS := shown_any w hT
  obtain ⟨⟨x, k, e⟩, hr⟩ : ∃ r, takeS l = r := ⟨_, rfl⟩
  have hbd := takeS_bd l
  have hok := takeS_ok l
  rw [hr] at hbd hok
  simp only at hbd hok
  by_cases he : e = 0
  · subst he
    obtain ⟨y, rfl, hy, hp, hk⟩ := hok rfl
    have HP : Hid (putL y = l.take k) := hp
    have HR : Hid (takeS l = (↑y, k, 0)) := hr
    clear hok hr hT hp hbd
    have hsl := fun wx => slice_h A l.length c k (by omega) wx
    go_enter Tryd.func5, Tryd.ntmps5
    go_wp2_with fail
    refine cS.mono ?_; rintro e w1 ⟨rfl, b1⟩
    have r1 := h.below b1
    have z1 := b1.size
    have cT := Take_any A c 0 l _ _ r1 (by omega) hn hc (by omega)
    rw [List.drop_zero, HR.out] at cT
    unfold res3 at cT
    simp only [Nat.zero_add] at cT
    go_wp2_with fail
    refine cT.mono ?_; rintro e w2 ⟨rfl, rfl⟩
    clear cT cS
    have HPL : Hid (k = (putL y).length) := by show _ = _; rw [HP.out, List.length_take]; omega
    have HLL : Hid ((putL y).length ≤ maxLen) := by have := putL_five y hy; show _ ≤ _; unfold maxLen; omega
    go_wp2_with fail
    go_region_with (first
      | (go_at_call 17; refine (Put_form y _ hy).mono ?_; rintro e w2 ⟨A2, c2, rfl, r2, _, _, _, b2⟩)
      | (go_at_call 16; (refine (Row_yesI A2 (cutA A c 0) c2 c _ k (putL y) (l.take k) w2.heap.size w.heap.size w2 r2 ?_ HP.out.symm rfl HPL.out HLL.out).mono ?_); ((exact (Rd.below (w := w1.drew) r1 (b2.mono z1)).cut (k := 0) (m := k) hn)); rintro e w3 ⟨rfl, nq, rfl⟩))
    go_wp2_with fail
    have bz : Below w.heap.size w (w2.drewN nq) := below_drewNv (b1.drew.trans (b2.mono z1)) nq
    generalize w2.drewN nq = wz at *
    have zz := bz.size
    have rz := h.below bz
    by_cases hno : n < 0 ∨ 2147483647 < n
    · refine (Put_out n _ hno).mono ?_; rintro e w3 ⟨rfl, rfl⟩
      have hcase : (decide (n < 0) = true) ∨ (decide (n < 0) = false ∧ decide (2147483647 < n) = true) := by
        simp only [decide_eq_true_eq, decide_eq_false_iff_not]; omega
      clear hno
      rcases hcase with g0 | ⟨g0, g1⟩
      all_goals
        go_wp2
        go_ret
        exact ⟨rfl, bz⟩
    · obtain ⟨N, rfl⟩ := Int.eq_ofNat_of_zero_le (show 0 ≤ n by omega)
      have hN : N ≤ 2147483647 := by omega
      have g0 : decide ((N : Int) < 0) = false := decide_eq_false (by omega)
      have g1 : decide ((2147483647 : Int) < N) = false := decide_eq_false (by omega)
      clear hno
      refine (Put_form N _ hN).mono ?_; rintro e w3 ⟨A3, c3, rfl, r3, n3, m3, q3, hb3⟩
      have b3 : Below w.heap.size w w3 := bz.trans (hb3.mono zz)
      have z3 := b3.size
      have r4 := h.below b3
      have h5 := putL_five N hN
      have hts := takeS_put N l hN
      have hmono := fun (M : Nat) (h : N ≤ M) => putL_mono N N M (Nat.le_refl _) h
      have HTS : Hid (takeS (putL N ++ l) = ((N : Int), (putL N).length, 0)) := hts
      have HMO : Hid (∀ M : Nat, N ≤ M → (putL N).length ≤ (putL M).length) := hmono
      clear hts hmono hb3
      generalize putL N = P at *
      have o4 := Own.lit0 w3 w.heap.size z3
      have r5 : Rd (w3.alloc (.cells #[] 5)) w3.heap.size A3 P := r3.below ((Below.refl _ _).alloc (Nat.le_refl _) _)
      go_wp2_with (at_builtin; refine wpList_app rfl (.tmp 53) (.tmp 54) rfl w.heap.size _ [] rfl o4 w3.heap.size A3 P.length c3 P rfl rfl r5 q3 ?m2 ?m3 ?_)
      case m2 => simp only [List.length_nil]; omega
      case m3 => simp; omega
      intro v5 w5 o5 g5
      have b5 : Below w.heap.size w w5 := (b3.alloc z3 _).grown g5 (by simp; omega) (fun k hk => by simp [Value.ownBlock] at hk; omega)
      have z5 := b5.size
      have r6 := h.below b5
      clear o4 r5 g5
      go_wp2_with (at_builtin; refine wpList_app rfl (.tmp 55) (.tmp 56) rfl w.heap.size _ P rfl o5 w.heap.size A l.length c l rfl rfl r6 hA ?m2 z5 ?_)
      case m2 => omega
      intro v6 w6 o6 g6
      have b6 : Below w.heap.size w w6 := b5.grown g6 z5 (fun k hk => (o5.lt k hk).1)
      have z6 := b6.size
      obtain ⟨A6, c6, hv6, r7, n6, m6, q6⟩ := o6.form
      have cT2 := Take_any A6 c6 0 _ _ _ r7 (by omega) n6 m6 (by simp only [List.length_append]; omega)
      rw [List.drop_zero, HTS.out] at cT2
      unfold res3 at cT2
      simp only [Nat.zero_add] at cT2
      have HLN : Hid ((P ++ l).length = P.length + l.length) := List.length_append
      rw [HLN.out] at cT2 hv6
      rw [hv6]
      clear o6 g6 o5 hv6 r7 n6 m6 q6
      go_wp2_with fail
      refine cT2.mono ?_; rintro e w7 ⟨rfl, rfl⟩
      clear cT2
      have k1 : ((N : Int) == (N : Int)) = true := by simp
      have k2 : ((P.length : Int) == (P.length : Int)) = true := by simp
      have k3 : (P.length : Int) ≤ 5 := by omega
      go_wp2_with fail
      by_cases hmo : m < 0 ∨ 2147483647 < m
      · refine (Put_out m _ hmo).mono ?_; rintro e w8 ⟨rfl, rfl⟩
        have hcase : (m < (N : Int)) ∨ (decide (m < (N : Int)) = false ∧ decide (2147483647 < m) = true) := by
          by_cases hh : m < (N : Int)
          · exact .inl hh
          · exact .inr ⟨decide_eq_false hh, decide_eq_true (by omega)⟩
        clear hmo
        rcases hcase with g2 | ⟨g2, g3⟩
        all_goals
          go_wp2
          go_ret
          exact ⟨rfl, b6⟩
      · obtain ⟨M, rfl⟩ := Int.eq_ofNat_of_zero_le (show 0 ≤ m by omega)
        refine (Put_form M _ (by omega)).mono ?_; rintro e w8 ⟨A8, c8, rfl, r8, n8, m8, q8, hb8⟩
        have b8 : Below w.heap.size w w8 := b6.trans (hb8.mono z6)
        have g3 : decide ((2147483647 : Int) < M) = false := decide_eq_false (by omega)
        have hcase : (M < N) ∨ (decide (M < N) = false ∧ P.length ≤ (putL M).length) := by
          by_cases hh : M < N
          · exact .inl hh
          · exact .inr ⟨decide_eq_false hh, HMO.out M (by omega)⟩
        clear hmo
        rcases hcase with g2 | ⟨g2, g4⟩
        all_goals
          go_wp2
          go_ret
          exact ⟨rfl, b8⟩
  · have HR : Hid (takeS l = (0, 0, 2)) := takeS_no l (by rw [hr]; exact he)
    clear hok hr hT he hbd e x k
    go_enter Tryd.func5, Tryd.ntmps5
    go_wp2_with fail
    refine cS.mono ?_; rintro e w1 ⟨rfl, b1⟩
    have r1 := h.below b1
    have z1 := b1.size
    have cT := Take_any A c 0 l _ _ r1 (by omega) hn hc (by omega)
    rw [List.drop_zero, HR.out] at cT
    unfold res3 at cT
    simp only [Nat.zero_add] at cT
    go_wp2_with fail
    refine cT.mono ?_; rintro e w2 ⟨rfl, rfl⟩
    clear cT cS
    go_wp2_with fail
    go_quiet (fail)
    go_wp2_with fail
    have bz : Below w.heap.size w (w1.drewN nq) := below_drewNv b1 nq
    generalize w1.drewN nq = wz at *
    have zz := bz.size
    have rz := h.below bz
    by_cases hno : n < 0 ∨ 2147483647 < n
    · refine (Put_out n _ hno).mono ?_; rintro e w3 ⟨rfl, rfl⟩
      have hcase : (decide (n < 0) = true) ∨ (decide (n < 0) = false ∧ decide (2147483647 < n) = true) := by
        simp only [decide_eq_true_eq, decide_eq_false_iff_not]; omega
      clear hno
      rcases hcase with g0 | ⟨g0, g1⟩
      all_goals
        go_wp2
        go_ret
        exact ⟨rfl, bz⟩
    · obtain ⟨N, rfl⟩ := Int.eq_ofNat_of_zero_le (show 0 ≤ n by omega)
      have hN : N ≤ 2147483647 := by omega
      have g0 : decide ((N : Int) < 0) = false := decide_eq_false (by omega)
      have g1 : decide ((2147483647 : Int) < N) = false := decide_eq_false (by omega)
      clear hno
      refine (Put_form N _ hN).mono ?_; rintro e w3 ⟨A3, c3, rfl, r3, n3, m3, q3, hb3⟩
      have b3 : Below w.heap.size w w3 := bz.trans (hb3.mono zz)
      have z3 := b3.size
      have r4 := h.below b3
      have h5 := putL_five N hN
      have hts := takeS_put N l hN
      have hmono := fun (M : Nat) (h : N ≤ M) => putL_mono N N M (Nat.le_refl _) h
      have HTS : Hid (takeS (putL N ++ l) = ((N : Int), (putL N).length, 0)) := hts
      have HMO : Hid (∀ M : Nat, N ≤ M → (putL N).length ≤ (putL M).length) := hmono
      clear hts hmono hb3
      generalize putL N = P at *
      have o4 := Own.lit0 w3 w.heap.size z3
      have r5 : Rd (w3.alloc (.cells #[] 5)) w3.heap.size A3 P := r3.below ((Below.refl _ _).alloc (Nat.le_refl _) _)
      go_wp2_with (at_builtin; refine wpList_app rfl (.tmp 53) (.tmp 54) rfl w.heap.size _ [] rfl o4 w3.heap.size A3 P.length c3 P rfl rfl r5 q3 ?m2 ?m3 ?_)
      case m2 => simp only [List.length_nil]; omega
      case m3 => simp; omega
      intro v5 w5 o5 g5
      have b5 : Below w.heap.size w w5 := (b3.alloc z3 _).grown g5 (by simp; omega) (fun k hk => by simp [Value.ownBlock] at hk; omega)
      have z5 := b5.size
      have r6 := h.below b5
      clear o4 r5 g5
      go_wp2_with (at_builtin; refine wpList_app rfl (.tmp 55) (.tmp 56) rfl w.heap.size _ P rfl o5 w.heap.size A l.length c l rfl rfl r6 hA ?m2 z5 ?_)
      case m2 => omega
      intro v6 w6 o6 g6
      have b6 : Below w.heap.size w w6 := b5.grown g6 z5 (fun k hk => (o5.lt k hk).1)
      have z6 := b6.size
      obtain ⟨A6, c6, hv6, r7, n6, m6, q6⟩ := o6.form
      have cT2 := Take_any A6 c6 0 _ _ _ r7 (by omega) n6 m6 (by simp only [List.length_append]; omega)
      rw [List.drop_zero, HTS.out] at cT2
      unfold res3 at cT2
      simp only [Nat.zero_add] at cT2
      have HLN : Hid ((P ++ l).length = P.length + l.length) := List.length_append
      rw [HLN.out] at cT2 hv6
      rw [hv6]
      clear o6 g6 o5 hv6 r7 n6 m6 q6
      go_wp2_with fail
      refine cT2.mono ?_; rintro e w7 ⟨rfl, rfl⟩
      clear cT2
      have k1 : ((N : Int) == (N : Int)) = true := by simp
      have k2 : ((P.length : Int) == (P.length : Int)) = true := by simp
      have k3 : (P.length : Int) ≤ 5 := by omega
      go_wp2_with fail
      by_cases hmo : m < 0 ∨ 2147483647 < m
      · refine (Put_out m _ hmo).mono ?_; rintro e w8 ⟨rfl, rfl⟩
        have hcase : (m < (N : Int)) ∨ (decide (m < (N : Int)) = false ∧ decide (2147483647 < m) = true) := by
          by_cases hh : m < (N : Int)
          · exact .inl hh
          · exact .inr ⟨decide_eq_false hh, decide_eq_true (by omega)⟩
        clear hmo
        rcases hcase with g2 | ⟨g2, g3⟩
        all_goals
          go_wp2
          go_ret
          exact ⟨rfl, b6⟩
      · obtain ⟨M, rfl⟩ := Int.eq_ofNat_of_zero_le (show 0 ≤ m by omega)
        refine (Put_form M _ (by omega)).mono ?_; rintro e w8 ⟨A8, c8, rfl, r8, n8, m8, q8, hb8⟩
        have b8 : Below w.heap.size w w8 := b6.trans (hb8.mono z6)
        have g3 : decide ((2147483647 : Int) < M) = false := decide_eq_false (by omega)
        have hcase : (M < N) ∨ (decide (M < N) = false ∧ P.length ≤ (putL M).length) := by
          by_cases hh : M < N
          · exact .inl hh
          · exact .inr ⟨decide_eq_false hh, HMO.out M (by omega)⟩
        clear hmo
        rcases hcase with g2 | ⟨g2, g4⟩
        all_goals
          go_wp2
          go_ret
          exact ⟨rfl, b8⟩
end Go.Proofs.YtfimacfpgcdekaaDoor
