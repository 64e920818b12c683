/-
  The reference's Signed.
-/
import Derived.Test.YtplcabecbofjpaaDoorProg
import Derived.WalkKit
import Derived.WalkSpells
import Derived.WalkLawsBesides
import Derived.Lib.Hide
import Derived.BigQuiet
import Derived.Deep.QuietTactic
import Derived.Deep.RegionWith
import Derived.Deep.RegionHeld3
import Derived.Test.YtplcabecbofjpaaDoorT13
set_option linter.unusedVariables false
namespace Go.Proofs.YtplcabecbofjpaaDoor
open Go.RowKit
/-- The reference's way to a signed number, over plain functions. -/
theorem sig_eq (t : List UInt8) (most : Int) (hm : 0 ≤ most) (h : bS t [45] = true) :
    signedS t most = if (numberS (t.drop 1) most).2.2 ≠ 0 then (0, 0, (numberS (t.drop 1) most).2.2) else if (numberS (t.drop 1) most).1 = 0 then (0, 0, 2) else (-(numberS (t.drop 1) most).1, (numberS (t.drop 1) most).2.1 + 1, 0) := by
  have h1 : (t.take 1 == [(45 : UInt8)]) = true := h
  unfold signedS
  rw [if_pos h1]
  generalize t.drop 1 = u
  by_cases h2 : (u.take 1 == [(48 : UInt8)]) = true
  · rw [if_pos h2]
    obtain ⟨c, u', rfl⟩ : ∃ c u', u = c :: u' := by
      cases u with
      | nil => simp at h2
      | cons c u' => exact ⟨c, u', rfl⟩
    obtain rfl : c = 48 := by simpa using h2
    cases hb : numB (48 :: u')
    · have hD : tw 57 (48 :: u') = 1 := by
        unfold numB at hb
        simp only [Bool.or_eq_false_iff, beq_eq_false_iff_ne, Bool.and_eq_false_iff, decide_eq_false_iff_not] at hb
        obtain ⟨b1, b2⟩ := hb
        rcases b2 with b2 | b2
        · exact absurd rfl b2
        · omega
      have hv : numV (48 :: u') = 0 := by
        unfold numV
        rw [hD]
        show vf 0 [48] = 0
        decide
      have hr : numberS (48 :: u') most = (0, 1, 0) := by
        unfold numberS
        rw [hb, if_neg (by simp), hv, if_neg (by omega), hD]
      rw [hr, if_neg (by simp), if_pos rfl]
    · have hr : numberS (48 :: u') most = (0, 0, 2) := by unfold numberS; rw [hb, if_pos rfl]
      rw [hr, if_pos (by simp)]
  · rw [if_neg h2]
    by_cases h3 : (numberS u most).2.2 = 0
    · rw [if_pos h3, if_neg (by simpa using h3)]
      obtain ⟨n1, n2, n3, n4, n5⟩ := number_back h3
      have hne : (numberS u most).1 ≠ 0 := by
        intro e
        obtain ⟨e1, _⟩ := split_at n4 n5
        rw [e] at e1
        have : figs ((0 : Int).toNat) = [48] := figs_zero
        rw [this] at e1
        rw [e1] at h2
        exact h2 (by simp)
      rw [if_neg hne]
    · rw [if_neg h3, if_pos h3]
set_option maxHeartbeats 1600000 in
set_option maxRecDepth 100000 in
theorem refSig_q (A : Option Addr) (c k : Nat) (most : Int) (l : List UInt8) (w : World) (h : Rd w w.heap.size A l) (hk : k ≤ l.length) (hn : l.length ≤ 1000000) (hm : 0 ≤ most) (hm2 : most ≤ 2147483647) :
    Calls Tryd.prog 101 #[.slice A l.length c, .int .i64 k, .int .i64 most] w fun e w' => e = .returned (res3 k (signedS (l.drop k) most)) ∧ ∃ n, w' = w.drewN n := by
  have d0 : decide ((k : Int) < 0) = false := decide_eq_false (by omega)
  have d1 : decide ((l.length : Int) < k) = false := decide_eq_false (by omega)
  have d1' : decide (l.length < k) = false := decide_eq_false (by omega)
  have C1 := refIs_q A c k l ⟨#[45]⟩ w h hk (by unfold maxLen; omega) (by decide)
  have hB : isB l k ⟨#[45]⟩ = bS (l.drop k) [45] := isB_bS l k ⟨#[45]⟩
  obtain ⟨V, hV⟩ : ∃ V, res3 k (signedS (l.drop k) most) = V := ⟨_, rfl⟩
  rw [hV]
  cases hb : bS (l.drop k) [45]
  · rw [show behS l k ⟨#[45]⟩ = k by simp [behS, hB, hb], hB, hb] at C1
    have C2 := fun n => refNum_any A c k most l (w.drewN n) h hk hn hm hm2
    have hs : signedS (l.drop k) most = numberS (l.drop k) most := by
      unfold signedS
      have : ((l.drop k).take 1 == [(45 : UInt8)]) = false := hb
      rw [this]; rfl
    rw [← hs, hV] at C2
    have HVt : Hid (∃ a b d, V = .tuple #[.int .i64 a, .int .i64 b, .int .i64 d]) := ⟨_, _, _, hV.symm⟩
    have HC2 := Lib.hid C2
    clear hB hb hV hs h C2
    obtain ⟨a, b, d, rfl⟩ := HVt.out
    clear HVt
    go_enter Tryd.func101, Tryd.ntmps101
    go_wp2_with fail
    refine C1.mono ?_; rintro e w1 ⟨rfl, n, rfl⟩
    have C3 := HC2.out n
    clear C1 HC2
    go_wp2_with fail
    refine C3.mono ?_; rintro e w1 ⟨rfl, rfl⟩
    clear C3
    go_wp2
    go_ret3
    exact ⟨rfl, n, rfl⟩
  · have hk1 : k + 1 ≤ l.length := by have := bS_len hb; simp at this; omega
    rw [show behS l k ⟨#[45]⟩ = k + 1 by simp [behS, hB, hb]; rfl, hB, hb] at C1
    have C2 := fun n => refNum_any A c (k + 1) most l (w.drewN n) h hk1 hn hm hm2
    have hs := sig_eq (l.drop k) most hm hb
    rw [List.drop_drop] at hs
    obtain ⟨⟨v, m, z⟩, hr⟩ : ∃ r, numberS (l.drop (k + 1)) most = r := ⟨_, rfl⟩
    have hbd := numberS_bd (l.drop (k + 1)) most
    have hne := numberS_err (t := l.drop (k + 1)) (most := most)
    rw [hr] at hs C2 hbd hne
    simp only at hs hbd hne
    unfold res3 at C2
    simp only at C2
    rw [hs] at hV
    have cs : (((z != 0) = true) ∧ Hid (Value.tuple #[.int .i64 0, .int .i64 (k : Int), .int .i64 z] = V)) ∨ (z = 0 ∧ (v == 0) = true ∧ Hid (Value.tuple #[.int .i64 0, .int .i64 (k : Int), .int .i64 2] = V)) ∨ (z = 0 ∧ (v == 0) = false ∧ Hid (Value.tuple #[.int .i64 (-v), .int .i64 ((k + 1 + m : Nat) : Int), .int .i64 0] = V)) := by
      by_cases hz : z = 0
      · rw [if_neg (by simpa using hz)] at hV
        by_cases hv : v = 0
        · rw [if_pos hv] at hV
          exact .inr (.inl ⟨hz, by simp [hv], hV⟩)
        · rw [if_neg hv] at hV
          refine .inr (.inr ⟨hz, by simp [hv], ?_⟩)
          show _ = _
          rw [← hV]
          simp only [res3, Nat.add_assoc, Nat.add_comm 1 m]
      · rw [if_pos hz] at hV
        exact .inl ⟨by simp [hz], hV⟩
    have HC2 := Lib.hid C2
    obtain ⟨v0, v1, _, _⟩ := hbd
    clear hB hb hV hs h C2 hr hne
    generalize hk1' : k + 1 = k1 at *
    generalize hk2' : k1 + m = k2 at *
    clear hk1' hk2'
    rcases cs with ⟨z1, HW⟩ | ⟨rfl, z2, HW⟩ | ⟨rfl, z2, HW⟩
    all_goals
      go_enter Tryd.func101, Tryd.ntmps101
      go_wp2_with fail
      refine C1.mono ?_; rintro e w1 ⟨rfl, n, rfl⟩
      have C3 := HC2.out n
      clear C1 HC2
      go_wp2_with fail
      refine C3.mono ?_; rintro e w1 ⟨rfl, rfl⟩
      clear C3
      go_wp2
      go_ret3
      exact ⟨by rw [← HW.out]; rfl, n, rfl⟩
end Go.Proofs.YtplcabecbofjpaaDoor
