/-
  lex.Signed over the translated program: what it returns at every slice of bytes, every place and every bound, as a plain function of the bytes behind the place. Nothing is assumed.
-/
import Derived.Test.YtplcabecbofjpaaDoorW2
set_option linter.unusedVariables false
namespace Go.Proofs.YtplcabecbofjpaaDoor
open Go.RowKit

theorem vf_nonneg : ∀ (l : List UInt8) (n : Int), 0 ≤ n → (∀ i, i < l.length → 48 ≤ (l.getD i 0).toNat) → 0 ≤ vf n l
  | [], n, h, _ => h
  | c :: t, n, h, hd => by
    have h0 := hd 0 (by simp)
    simp only [List.getD_cons_zero] at h0
    unfold vf
    split
    · omega
    · exact vf_nonneg t _ (by omega) (fun i hi => by have := hd (i + 1) (by simpa using hi); simpa using this)
theorem numV_nonneg (t : List UInt8) : 0 ≤ numV t := by
  unfold numV
  refine vf_nonneg _ 0 (by omega) (fun i hi => ?_)
  have hl := tw_le 57 t
  simp only [List.length_take] at hi
  have e : (t.take (tw 57 t)).getD i 0 = t.getD i 0 := by
    simp only [List.getD_eq_getElem?_getD, List.getElem?_take]; rw [if_pos (by omega)]
  rw [e]; exact (tw_digits 57 t i (by omega)).1
theorem numberS_bd (t : List UInt8) (most : Int) : 0 ≤ (numberS t most).1 ∧ (numberS t most).1 ≤ 2147483647 ∧ 0 ≤ (numberS t most).2.2 ∧ (numberS t most).2.2 ≤ 3 := by
  have := numV_nonneg t
  unfold numberS
  split
  · simp
  · split
    · simp
    · simp only; omega

def signedS (t : List UInt8) (most : Int) : Int × Nat × Int :=
  if t.take 1 == [45] then
    if (t.drop 1).take 1 == [48] then (0, 0, 2)
    else if (numberS (t.drop 1) most).2.2 = 0 then (-(numberS (t.drop 1) most).1, (numberS (t.drop 1) most).2.1 + 1, 0) else (0, 0, (numberS (t.drop 1) most).2.2)
  else numberS t most

theorem isB_one (l : List UInt8) (k : Nat) (c : UInt8) : isB l k ⟨#[c]⟩ = ((l.drop k).take 1 == [c]) := rfl

set_option maxHeartbeats 400000 in
theorem Signed_out (A : Option Addr) (n c : Nat) (k most : Int) (w : World) (hk : k < 0 ∨ (n : Int) < k) :
    Calls Tryd.prog 80 #[.slice A n c, .int .i64 k, .int .i64 most] w fun e w' => e = .returned (.tuple #[.int .i64 0, .int .i64 0, .int .i64 2]) ∧ w = w' := by
  have HK : Hid (k < 0 ∨ (n : Int) < k) := hk
  clear hk
  go_enter Tryd.func80, Tryd.ntmps80
  go_wp2_with (first | (go_at_call 71; refine (Is_out _ _ _ _ _ _ HK.out).mono ?_; rintro e w' ⟨rfl, rfl⟩) | (go_at_call 79; refine (Number_out _ _ _ _ _ _ HK.out).mono ?_; rintro e w' ⟨rfl, rfl⟩))
  go_ret3
  exact ⟨rfl, rfl⟩

set_option maxHeartbeats 800000 in
theorem Signed_any (A : Option Addr) (c k : Nat) (most : Int) (l : List UInt8) (B : Nat) (w : World) (h : Rd w B A l) (hk : k ≤ l.length) (hn : l.length ≤ c) (hc : c ≤ maxLen) :
    Calls Tryd.prog 80 #[.slice A l.length c, .int .i64 k, .int .i64 most] w fun e w' => e = .returned (res3 k (signedS (l.drop k) most)) ∧ w = w' := by
  unfold signedS
  cases h1 : ((l.drop k).take 1 == [(45 : UInt8)]) with
  | false =>
    rw [if_neg (by simp)]
    have c1 := Is_no A c k l ⟨#[45]⟩ B w h hk hn hc (by decide) (by rw [isB_one]; exact h1)
    have c2 := Number_any A c k most l B w h hk hn hc
    obtain ⟨⟨n, m, e⟩, hr⟩ : ∃ r, numberS (l.drop k) most = r := ⟨_, rfl⟩
    rw [hr] at c2 ⊢
    have C1 := c1; have C2 := c2
    unfold res3 at C2 ⊢
    obtain ⟨E, hE⟩ : ∃ E, k + m = E := ⟨_, rfl⟩
    rw [hE] at C2 ⊢
    clear c1 c2 hr h1 hE
    go_enter Tryd.func80, Tryd.ntmps80
    go_wp2_with (first | (go_at_call 71; refine C1.mono ?_; rintro e w' ⟨rfl, rfl⟩) | (go_at_call 79; refine C2.mono ?_; rintro e w' ⟨rfl, rfl⟩))
    go_ret3
    exact ⟨rfl, rfl⟩
  | true =>
    rw [if_pos rfl]
    have hb1 : isB l k ⟨#[45]⟩ = true := by rw [isB_one]; exact h1
    have hkl := isB_len hb1
    have hkl' : k + 1 ≤ l.length := by have : (⟨#[45]⟩ : ByteArray).size = 1 := rfl; omega
    have c1 := Is_yes A c k l ⟨#[45]⟩ B w h hk hn hc hb1
    have e1 : (k : Int) + ((⟨#[45]⟩ : ByteArray).size : Int) = ((k + 1 : Nat) : Int) := by have : (⟨#[45]⟩ : ByteArray).size = 1 := rfl; omega
    rw [e1] at c1
    have ed : (l.drop k).drop 1 = l.drop (k + 1) := by rw [List.drop_drop]
    rw [ed]
    obtain ⟨K1, hK1⟩ : ∃ K1, k + 1 = K1 := ⟨_, rfl⟩
    rw [hK1] at c1 hkl' ⊢
    cases h2 : ((l.drop K1).take 1 == [(48 : UInt8)]) with
    | true =>
      rw [if_pos rfl]
      have c2 := Is_yes A c K1 l ⟨#[48]⟩ B w h hkl' hn hc (by rw [isB_one]; exact h2)
      have C1 := c1; have C2 := c2
      clear c1 c2 h1 h2 hb1 hkl e1 hK1 ed
      go_enter Tryd.func80, Tryd.ntmps80
      go_wp2_with fail
      refine C1.mono ?_; rintro e w' ⟨rfl, rfl⟩
      go_wp2_with fail
      refine C2.mono ?_; rintro e w' ⟨rfl, rfl⟩
      go_wp2
      go_ret3
      exact ⟨rfl, rfl⟩
    | false =>
      rw [if_neg (by simp)]
      have c2 := Is_no A c K1 l ⟨#[48]⟩ B w h hkl' hn hc (by decide) (by rw [isB_one]; exact h2)
      have c3 := Number_any A c K1 most l B w h hkl' hn hc
      have hbd := numberS_bd (l.drop K1) most
      have e2 : ∀ m : Nat, K1 + m = k + (m + 1) := by omega
      obtain ⟨⟨n, m, e⟩, hr⟩ : ∃ r, numberS (l.drop K1) most = r := ⟨_, rfl⟩
      rw [hr] at c3 hbd ⊢
      simp only at hbd ⊢
      obtain ⟨b1, b2, b3, b4⟩ := hbd
      have C1 := c1; have C2 := c2; have C3 := c3
      unfold res3 at C3
      simp only at C3
      rw [e2] at C3
      by_cases he : e = 0
      · rw [if_pos he]
        unfold res3
        simp only
        obtain ⟨E, hE⟩ : ∃ E, k + (m + 1) = E := ⟨_, rfl⟩
        rw [hE] at C3 ⊢
        have heb : (e != 0) = false := by simp [he]
        have HE : Hid (e = 0) := he
        clear c1 c2 c3 h1 h2 hb1 hkl e1 hK1 ed hr he e2 hE
        go_enter Tryd.func80, Tryd.ntmps80
        go_wp2_with fail
        refine C1.mono ?_; rintro e w' ⟨rfl, rfl⟩
        go_wp2_with fail
        refine C2.mono ?_; rintro e w' ⟨rfl, rfl⟩
        go_wp2_with fail
        refine C3.mono ?_; rintro e w' ⟨rfl, rfl⟩
        go_wp2
        go_ret3
        exact ⟨rfl, rfl⟩
      · rw [if_neg he]
        unfold res3
        simp only [Nat.add_zero]
        have heb : (e != 0) = true := by simp [he]
        generalize k + (m + 1) = E at *
        clear c1 c2 c3 h1 h2 hb1 hkl e1 hK1 ed hr he e2
        go_enter Tryd.func80, Tryd.ntmps80
        go_wp2_with fail
        refine C1.mono ?_; rintro e w' ⟨rfl, rfl⟩
        go_wp2_with fail
        refine C2.mono ?_; rintro e w' ⟨rfl, rfl⟩
        go_wp2_with fail
        refine C3.mono ?_; rintro e w' ⟨rfl, rfl⟩
        go_wp2
        go_ret3
        exact ⟨rfl, rfl⟩

end Go.Proofs.YtplcabecbofjpaaDoor
